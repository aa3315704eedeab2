import PyProof.Rows.All
import Wide.All
import OpenK.AllK
import Wide.FinOn
import Lean
import PyProof.EqAt
import PyProof.EqKinds
import PyProof.TupleCall
import PyProof.NeKinds
import PyProof.AutoIntG2
import PyProof.FactsAll.int_6
import PyProof.Rows.BootFacts.P1
import PyProof.ReprRoads
import PyProof.ListRange
import PyProof.TupleOfSeq
import PyProof.EnumMake
import PyProof.StrWalks
import PyProof.Rows.Range3
import PyProof.Rows.SetFrom
import KE.KIntText
import PyProof.FString
import PyProof.StrCalls2
import PyProof.StrOps2
import PyProof.SliceStr2
import PyProof.StrBlockI
import PyProof.StrBlockL
import PyProof.StrLaws
import OpenK.KOwn
import KE.KTryMore
import PyProof.ExcAttrAll.ValueError
import PyProof.NsDelKeeps
import PyProof.Rows.StrLen
import KE.KRevIter
import PySem.Challenge.RW_unlikeplace_k52_whole_fixed_never_more
noncomputable section
set_option Elab.async false
set_option linter.all false
set_option maxRecDepth 100000
namespace L2
open PySem PySem.Spec PyProof.Rows
abbrev Key:=Sum Int Str
def j6 : Key->Value->Bool
  | .inl k,v=>Value.isInt k v
  | .inr x,v=>Value.isStrOf x v
def KI (w : World) : Key->Int
  | .inl k=>hashInt k
  | .inr x=>hashStr w x
theorem b9 : ∀ {k : Key} {v : Value},j6 k v = true->(∃ i t,k = Sum.inl i/\v = Value.int i t)\/(∃ x t,k = Sum.inr x/\v = Value.str x t)
  | .inl i,v,h=>by
    obtain ⟨t,e⟩:=Value.isInt_shape (k:=i) (v:=v) h
    exact .inl ⟨i,t,rfl,e⟩
  | .inr x,v,h=>by
    obtain ⟨t,e⟩:=Value.isStrOf_shape (x:=x) (v:=v) h
    exact .inr ⟨x,t,rfl,e⟩
theorem BL (i : Int) (t : Tok) : j6 (.inl i) (.int i t) = true:=by simp [j6,Value.isInt]
theorem t0 (x : Str) (t : Tok) : j6 (.inr x) (.str x t) = true:=by simp [j6,Value.isStrOf]
theorem HX (a b : Int) : decide ((Sum.inl a : Key) = Sum.inl b) = (a == b):=by
  by_cases e : a = b
  · subst e;simp
  · have h : ¬ (Sum.inl a : Key) = Sum.inl b:=fun q=>e (Sum.inl.inj q)
    rw [decide_eq_false h]
    exact (beq_eq_false_iff_ne.mpr e).symm
theorem IN (a b : Str) : decide ((Sum.inr a : Key) = Sum.inr b) = decide (a = b):=by
  by_cases e : a = b
  · subst e;simp
  · have h : ¬ (Sum.inr a : Key) = Sum.inr b:=fun q=>e (Sum.inr.inj q)
    rw [decide_eq_false h,decide_eq_false e]
theorem Ic (a : Int) (b : Str) : decide ((Sum.inl a : Key) = Sum.inr b) = false:=decide_eq_false (fun q=>nomatch q)
theorem Ie (a : Str) (b : Int) : decide ((Sum.inr a : Key) = Sum.inl b) = false:=decide_eq_false (fun q=>nomatch q)
def bx (prog : Program) (w : World) : PySem.KeyKind prog w Key where
  is:=j6
  hash:=KI w
  inj:=fun v a b ha hb=>by
    rcases b9 ha with ⟨i,t,rfl,rfl⟩ | ⟨x,t,rfl,rfl⟩
    · rcases b9 hb with ⟨j,u,rfl,e⟩ | ⟨y,u,rfl,e⟩
      · injection e with e1 _;rw [e1]
      · exact nomatch e
    · rcases b9 hb with ⟨j,u,rfl,e⟩ | ⟨y,u,rfl,e⟩
      · exact nomatch e
      · injection e with e1 _;rw [e1]
  byValue:=fun k v h=>by
    rcases b9 h with ⟨i,t,rfl,rfl⟩ | ⟨x,t,rfl,rfl⟩<;>rfl
  pyHash:=fun hv h=>by
    rcases b9 hv with ⟨i,t,rfl,rfl⟩ | ⟨x,t,rfl,rfl⟩
    · exact wpAny_pyHash_int h
    · exact wpAny_pyHash_str h
  eqBool:=fun hu hv h=>by
    rcases b9 hu with ⟨i,t,rfl,rfl⟩ | ⟨x,t,rfl,rfl⟩
    · rcases b9 hv with ⟨j,u,rfl,rfl⟩ | ⟨y,u,rfl,rfl⟩
      · rw [HX] at h;exact wpAny_eqBool_int h
      · rw [Ic] at h;exact SeqAt.EqAt.int_str i t y u _ _ _ _ h
    · rcases b9 hv with ⟨j,u,rfl,rfl⟩ | ⟨y,u,rfl,rfl⟩
      · rw [Ie] at h;exact SeqAt.EqAt.str_int x t j u _ _ _ _ h
      · rw [IN] at h;exact wpAny_eqBool_str h
  «strs»:=fun k x t v h=>by
    rcases b9 h with ⟨i,u,rfl,e⟩ | ⟨y,u,rfl,e⟩
    · exact nomatch e
    · injection e with e1 _
      subst e1
      cases v<;>rfl
theorem yz (prog : Program) (w : World) (k : Key) (v : Value) : (bx prog w).is k v = j6 k v:=rfl
theorem xI (prog : Program) (w : World) (i : Int) (t : Tok) : (bx prog w).is (.inl i) (.int i t) = true:=BL i t
theorem jS (prog : Program) (w : World) (x : Str) (t : Tok) : (bx prog w).is (.inr x) (.str x t) = true:=t0 x t
inductive V where
  | non | bl (b : Bool) | int (i : Int) | str (x : Str) | byt (b : Array UInt8) | flt (b : UInt64) | ref (a : Addr) | ty (n : String)
  deriving DecidableEq
def bo : V->Value->Prop
  | .non,u=>u = Value.none
  | .bl b,u=>u = Value.bool b
  | .int i,u=>∃ t,u = Value.int i t
  | .str x,u=>∃ t,u = Value.str x t
  | .byt b,u=>∃ t,u = Value.bytes b t
  | .flt b,u=>∃ t,u = Value.float b t
  | .ref a,u=>u = Value.ref a
  | .ty n,u=>u = Value.type n
abbrev ba : List V->List Value->Prop:=Paired bo
theorem ba.length {xs : List V} {us : List Value} (r : ba xs us) : xs.length = us.length:=Paired.length r
theorem ba.get : ∀ {xs : List V} {us : List Value} {i : Nat} {x : V},ba xs us->xs[i]? = some x->∃ u,us[i]? = some u/\bo x u
  | _,_,_,_,.nil,e=>by simp at e
  | _,_,0,_,.cons r _,e=>by simp at e;subst e;exact ⟨_,rfl,r⟩
  | _,_,i + 1,x,.cons _ t,e=>by
    obtain ⟨u,h1,h2⟩:=ba.get (i:=i) (x:=x) t (by simpa using e)
    exact ⟨u,by simpa using h1,h2⟩
theorem ba.append : ∀ {xs ys : List V} {us ws : List Value},ba xs us->ba ys ws->ba (xs ++ ys) (us ++ ws)
  | _,_,_,_,.nil,s=>s
  | _,_,_,_,.cons r t,s=>.cons r (ba.append t s)
theorem ba.take : ∀ {xs : List V} {us : List Value} (n : Nat),ba xs us->ba (xs.take n) (us.take n)
  | _,_,0,_=>.nil
  | _,_,_ + 1,.nil=>.nil
  | _,_,n + 1,.cons r t=>.cons r (ba.take n t)
theorem ba.drop : ∀ {xs : List V} {us : List Value} (n : Nat),ba xs us->ba (xs.drop n) (us.drop n)
  | _,_,0,r=>r
  | _,_,_ + 1,.nil=>.nil
  | _,_,n + 1,.cons _ t=>ba.drop n t
def sZ : Option V->Option Value->Prop
  | some v,some u=>bo v u
  | none,none=>True
  | _,_=>False
def KV {κ : Type} : List (κ × V)->List (κ × Value)->Prop:=Paired fun (p : κ × V) (q : κ × Value)=>p.1 = q.1/\bo p.2 q.2
def kV : Key->V
  | .inl i=>.int i
  | .inr x=>.str x
inductive HO where
  | lst (xs : List V)
  | tup (xs : List V)
  | dK (kvs : List (Key × V)) | dT (kvs : List (List Key × V))
  | set (S : Int->Bool) (n : Nat)
  | ins (C dx : Addr) (fs : List (Str × V))
  | own (x : Addr)
  | xd (fs : List (Str × V))
  | met (f x : Addr)
  | rng (lo hi : Int)
  | frz (o : Obj) (u : HO)
  | tbl (ps : Array Value)
  | ext (φ : Heap->Prop)
abbrev Hp:=Addr->Option HO
def upd (H : Hp) (a : Addr) (o : HO) : Hp:=fun b=>if b = a then some o else H b
theorem bQ {H : Hp} {a : Addr} {o : HO} : upd H a o a = some o:=by unfold upd;rw [if_pos rfl]
theorem ax {H : Hp} {a b : Addr} {o : HO} (h : b≠a) : upd H a o b = H b:=by unfold upd;rw [if_neg h]
theorem Jt {H : Hp} {a b : Addr} {o u : HO} (h : H a = some o) (h' : H b = some u) (d : o≠u) : a≠b:=by
  intro e;subst e;rw [h] at h';exact d (Option.some.inj h')
theorem aZ {H : Hp} {a b : Addr} {o : HO} (h : H a = some o) (h' : H b = none) : a≠b:=by
  intro e;subst e;rw [h] at h';cases h'
def wV (h : Heap) (a : Addr) (items : Array Value) : Prop:=IsTup h a items/\∃ o,h.get? a = some o/\o.dict = none
theorem wV.lt {h : Heap} {a : Addr} {items : Array Value} (x : wV h a items) : a < h.objs.size:=x.1.lt
theorem wV.new (h : Heap) (items : Array Value) : wV (h.push { cls:=.type "tuple",data:=.seq items }) h.objs.size items:=⟨IsTup.new h items,_,Heap.get?_push_size _ rfl,rfl⟩
def Bg (H : Hp) (a : Addr) (ps qs : Array Value) : Prop:=TriplesOk qs.toList/\∀ (pos : Pos) (cv : Value),codeAmong pos qs.toList = some cv ->
  ∃ (c : Addr) (o : Obj) (vs : Array Value) (t : Tok) (q : Str),cv = .ref c/\H c = some (.frz o (.own a))/\o.data = .fields vs/\vs[1]? = some (.str q t)/\ps[0]? = some (.str q 0)
theorem Bg.mono {H H' : Hp} {a : Addr} {ps qs : Array Value} (x : Bg H a ps qs) (k : ∀ b o u,H b = some (.frz o u)->H' b = some (.frz o u)) : Bg H' a ps qs :=
  ⟨x.1,fun pos cv e=>let ⟨c,o,vs,t,q,e1,e2,r⟩:=x.2 pos cv e;⟨c,o,vs,t,q,e1,k _ _ _ e2,r⟩⟩
section
variable (P : Program) (w : World)
def c7 (H : Hp) (h : Heap) (a : Addr) : HO->Prop
  | .lst xs=>xs.length<=sizeLine/\∃ (its : List Value) (n : Nat),ba xs its/\h.get? a = some { cls:=.type "list",data:=.seq its.toArray n }
  | .tup xs=>xs.length<=sizeLine/\∃ its : List Value,ba xs its/\wV h a its.toArray
  | .dK kvs=>kvs.length<=sizeLine/\(a == sysModules) = false/\∃ vs,KV kvs vs/\h.DictOf (bx P w) a vs
  | .dT kvs=>kvs.length<=sizeLine/\(a == sysModules) = false/\∃ xs : List (List Key × Addr × Value),
      Paired (fun (p : List Key × V) (q : List Key × Addr × Value)=>p.1 = q.1/\H q.2.1 = some (.tup (p.1.map kV))/\bo p.2 q.2.2) kvs xs /\
      ∃ o es ep,h.get? a = some o/\o.ExactDict/\o.data = .dict es ep/\es.toList = xs.map (entryOfKey (tupleKind (bx P w)))/\(xs.map (·.1)).Nodup
  | .set S n=>h.SetOf (intKind P w) a S n
  | .ins C dx fs=>H dx = some (.own a)/\fs.length<=1000/\dx≠a/\h.get? a = some (PySem.W.instObj C dx) /\
      ∃ mA,h.Ns1 dx mA/\(∀ f,sZ (fs.lookup f) (mA f))/\PySem.Within mA (fs.map (·.1))
  | .own _=>∃ o,h.get? a = some o
  | .xd fs=>∃ mA,h.Ns1 a mA/\∀ f,sZ (fs.lookup f) (mA f)
  | .rng lo hi=>∃ t u v,h.get? a = some { cls:=.type "range",data:=.fields #[.int lo t,.int hi u,.int 1 v] }
  | .frz o u=>h.get? a = some o/\c7 H h a u
  | .tbl ps=>∃ qs : Array Value,h.get? a = some { cls:=.none,data:=.fields qs }/\Bg H a ps qs
  | .met f x=>h.get? a = some (PySem.W.methodObj (.ref f) (.ref x))
  | .ext φ=>φ h/\(∃ o,h.get? a = some o)/\∀ h1 h2 : Heap,φ h1->(∀ o,h1.get? a = some o->h2.get? a = some o)->φ h2
def HOk (H : Hp) (h : Heap) : Prop:=∀ a o,H a = some o->c7 P w H h a o
end
section
variable {P : Program} {w : World} {H H' : Hp} {h h' : Heap} {a : Addr} {o : HO}
theorem c7.lt (x : c7 P w H h a o) : a < h.objs.size:=by
  cases o with
  | lst xs=>obtain ⟨_,_,_,_,e⟩:=x;exact Heap.lt_size e
  | tup xs=>obtain ⟨_,_,_,p⟩:=x;exact p.lt
  | dK kvs=>obtain ⟨_,_,_,_,o,_,_,e,_⟩:=x;exact Heap.lt_size e
  | dT kvs=>obtain ⟨_,_,_,_,o,_,_,e,_⟩:=x;exact Heap.lt_size e
  | set S n=>obtain ⟨o,_,_,_,e,_⟩:=x;exact Heap.lt_size e
  | ins C dx fs=>obtain ⟨_,_,_,e,_⟩:=x;exact Heap.lt_size e
  | own y=>obtain ⟨_,e⟩:=x;exact Heap.lt_size e
  | xd fs=>obtain ⟨_,⟨_,_,_,e,_⟩,_⟩:=x;exact Heap.lt_size e
  | rng lo hi=>obtain ⟨_,_,_,e⟩:=x;exact Heap.lt_size e
  | frz ob u=>obtain ⟨e,_⟩:=x;exact Heap.lt_size e
  | tbl ps=>obtain ⟨qs,e,_⟩:=x;exact Heap.lt_size e
  | met f y=>exact Heap.lt_size (show h.get? a = some _ from x)
  | ext φ=>obtain ⟨_,⟨_,e⟩,_⟩:=x;exact Heap.lt_size e
theorem Paired.mapP {α β : Type} {F G : α->β->Prop} : ∀ {l₁ : List α} {l₂ : List β},Paired F l₁ l₂->(∀ a b,F a b->G a b)->Paired G l₁ l₂
  | _,_,.nil,_=>.nil
  | _,_,.cons r t,f=>.cons (f _ _ r) (Paired.mapP t f)
theorem c7.stay (x : c7 P w H h a o) (k : ∀ b u,(b = a\/H b = some (.own a))->h.get? b = some u->h'.get? b = some u)
    (ho : ∀ b,H b = some (.own a)->H' b = some (.own a)) (ht : ∀ b xs,H b = some (.tup xs)->H' b = some (.tup xs)) (hf : ∀ b o u,H b = some (.frz o u)->H' b = some (.frz o u)) : c7 P w H' h' a o:=by
  induction o with
  | lst xs=>obtain ⟨z,its,n,r,e⟩:=x;exact ⟨z,its,n,r,k _ _ (.inl rfl) e⟩
  | tup xs=>obtain ⟨z,its,r,⟨ob,e,c⟩,ob',e',c'⟩:=x;exact ⟨z,its,r,⟨ob,k _ _ (.inl rfl) e,c⟩,ob',k _ _ (.inl rfl) e',c'⟩
  | dK kvs=>obtain ⟨z,y,vs,r,ob,es,ep,e,c⟩:=x;exact ⟨z,y,vs,r,ob,es,ep,k _ _ (.inl rfl) e,c⟩
  | dT kvs =>
    obtain ⟨z,y,xs,r,ob,es,ep,e,c⟩:=x
    exact ⟨z,y,xs,Paired.mapP r fun p q z=>⟨z.1,ht _ _ z.2.1,z.2.2⟩,ob,es,ep,k _ _ (.inl rfl) e,c⟩
  | set S n=>obtain ⟨ob,es,ep,t,e,c⟩:=x;exact ⟨ob,es,ep,t,k _ _ (.inl rfl) e,c⟩
  | ins C dx fs =>
    obtain ⟨d,z,ne,e,mA,⟨od,es,ep,e2,c⟩,r⟩:=x
    exact ⟨ho _ d,z,ne,k _ _ (.inl rfl) e,mA,⟨od,es,ep,k _ _ (.inr d) e2,c⟩,r⟩
  | own y=>obtain ⟨ob,e⟩:=x;exact ⟨ob,k _ _ (.inl rfl) e⟩
  | xd fs=>obtain ⟨mA,⟨od,es,ep,e,c⟩,r⟩:=x;exact ⟨mA,⟨od,es,ep,k _ _ (.inl rfl) e,c⟩,r⟩
  | rng lo hi=>obtain ⟨t,u,v,e⟩:=x;exact ⟨t,u,v,k _ _ (.inl rfl) e⟩
  | frz ob u ih=>obtain ⟨e,q⟩:=x;exact ⟨k _ _ (.inl rfl) e,ih q⟩
  | tbl ps=>obtain ⟨qs,e,z⟩:=x;exact ⟨qs,k a _ (.inl rfl) e,z.mono hf⟩
  | met f y =>
    have e : h.get? a = some (PySem.W.methodObj (.ref f) (.ref y)):=x
    show h'.get? a = some (PySem.W.methodObj (.ref f) (.ref y))
    exact k a _ (.inl rfl) e
  | ext φ=>obtain ⟨p,⟨o,e⟩,st⟩:=x;exact ⟨st _ _ p fun o q=>k _ _ (.inl rfl) q,⟨o,k _ _ (.inl rfl) e⟩,st⟩
theorem HOk.lt (x : HOk P w H h) (e : H a = some o) : a < h.objs.size:=(x a o e).lt
theorem HOk.fresh (x : HOk P w H h) (e : h.objs.size<=a) : H a = none:=by
  cases q : H a with
  | none=>rfl
  | some u=>exact absurd (Nat.lt_of_lt_of_le (x.lt q) e) (Nat.lt_irrefl _)
theorem HOk.kept (x : HOk P w H h) (k : ∀ b u,h.get? b = some u->h'.get? b = some u) : HOk P w H h':=fun a o e =>
  (x a o e).stay (fun b u _ q=>k b u q) (fun _ q=>q) (fun _ _ q=>q) fun _ _ _ q=>q
theorem HOk.laid (x : HOk P w H h) (k : ∀ b u,h.get? b = some u->h'.get? b = some u) (hp : h.objs.size<=a) (new : c7 P w (upd H a o) h' a o) : HOk P w (upd H a o) h':=fun b u e=>by
  have hn:=x.fresh hp
  by_cases hb : b = a
  · subst hb;rw [bQ] at e;cases e;exact new
  · rw [ax hb] at e
    exact (x b u e).stay (fun c v _ q=>k c v q) (fun c q=>by rw [ax (aZ q hn)];exact q) (fun c xs q=>by rw [ax (aZ q hn)];exact q) fun c o' u' q=>by rw [ax (aZ q hn)];exact q
end
def Rd (H : Hp) (a : Addr) (u : HO) : Prop:=H a = some u\/∃ o,H a = some (.frz o u)
theorem Rd.ok {P : Program} {w : World} {H : Hp} {h : Heap} {a : Addr} {u : HO} (r : Rd H a u) (x : HOk P w H h) : c7 P w H h a u:=by
  rcases r with r | ⟨o,r⟩
  · exact x a u r
  · obtain ⟨_,q⟩:=x a _ r
    exact q
def Mut : Option HO->Prop
  | some (.lst _)=>True
  | some (.dK _)=>True
  | some (.dT _)=>True
  | some (.set _ _)=>True
  | some (.ins _ _ _)=>True
  | some (.ext _)=>True
  | _=>False
section
variable {P : Program} {w : World} {H : Hp} {h h' : Heap} {x e : Addr} {o' : HO}
theorem HOk.write (ok : HOk P w H h) (mu : Mut (H x)) (he : e = x\/H e = some (.own x)) (k : ∀ b u,b≠e->h.get? b = some u->h'.get? b = some u) (heo : ∃ u,h'.get? e = some u)
    (new : c7 P w (upd H x o') h' x o') : HOk P w (upd H x o') h':=fun b u q=>by
  have nown : ∀ c y,H c = some (.own y)->c≠x:=fun c y r z=>by subst z;rw [r] at mu;exact mu
  have ntup : ∀ c xs,H c = some (.tup xs)->c≠x:=fun c xs r z=>by subst z;rw [r] at mu;exact mu
  by_cases hb : b = x
  · subst hb;rw [bQ] at q;cases q;exact new
  · rw [ax hb] at q
    by_cases hbe : b = e
    · have q' : H b = some (.own x):=by
        rcases he with z | z
        · exact absurd (hbe.trans z) hb
        · rw [hbe];exact z
      rw [q] at q';cases q'
      obtain ⟨v,hv⟩:=heo
      exact ⟨v,by rw [hbe];exact hv⟩
    · refine (ok b u q).stay (fun c v hc r=>k c v ?_ r) (fun c r=>by rw [ax (nown c b r)];exact r) (fun c xs r=>by rw [ax (ntup c xs r)];exact r) fun c o' u' r=>by rw [ax (fun z=>by subst z;rw [r] at mu;exact mu)];exact r
      rcases hc with rfl | hc
      · exact hbe
      · rintro rfl
        rcases he with z | z
        · exact nown c b hc z
        · rw [hc] at z;cases z;exact hb rfl
end
structure Un (fs ex : List Addr) (H H' : Hp) (h h' : Heap) : Prop where
  keep : ∀ b o,h.get? b = some o->H b = none->b ∉ fs->b ∉ ex->h'.get? b = some o
  slot : ∀ b o,h.get? b = some o->H b = none->b∈fs->b ∉ ex->∃ sl,h'.get? b = some { o with slots:=sl }
  free : ∀ b o,h.get? b = some o->H b = none->b ∉ ex->H' b = none
  there : ∀ b o,h.get? b = some o->b ∉ ex->∃ o',h'.get? b = some o'
  tups : ∀ b xs,H b = some (.tup xs)->H' b = some (.tup xs)
  frzs : ∀ b o u,H b = some (.frz o u)->H' b = some (.frz o u)
  tbls : ∀ b ps,H b = some (.tbl ps)->∃ more,H' b = some (.tbl (ps ++ more))
section
variable {fs fs' ex ex' : List Addr} {H H1 H2 : Hp} {h h1 h2 h' : Heap} {a x e : Addr} {o : HO}
theorem Un.any (u : Un fs ex H H1 h h1) {b : Addr} {ob : Obj} (q : h.get? b = some ob) (n : H b = none) (hx : b ∉ ex) : ∃ sl,h1.get? b = some { ob with slots:=sl }:=by
  by_cases hb : b∈fs
  · exact u.slot b ob q n hb hx
  · exact ⟨ob.slots,u.keep b ob q n hb hx⟩
theorem Un.kept (k : ∀ b u,h.get? b = some u->h'.get? b = some u) : Un fs ex H H h h' :=
  ⟨fun b ob q _ _ _=>k b ob q,fun b ob q _ _ _=>⟨ob.slots,k b ob q⟩,fun _ _ _ n _=>n,fun b ob q _=>⟨ob,k b ob q⟩,fun _ _ q=>q,fun _ _ _ q=>q,fun _ ps q=>⟨#[],by rw [q];simp⟩⟩
theorem Un.refl : Un fs ex H H h h:=Un.kept fun _ _ q=>q
theorem Un.laid (k : ∀ b u,h.get? b = some u->h'.get? b = some u) (hp : h.objs.size<=a) (hn : H a = none) : Un fs ex H (upd H a o) h h' where
  keep:=fun b u q _ _ _=>k b u q
  slot:=fun b u q _ _ _=>⟨u.slots,k b u q⟩
  free:=fun b u q n _=>by rw [ax (Nat.ne_of_lt (Nat.lt_of_lt_of_le (Heap.lt_size q) hp))];exact n
  there:=fun b u q _=>⟨u,k b u q⟩
  tups:=fun b xs q=>by rw [ax (aZ q hn)];exact q
  frzs:=fun b u xs q=>by rw [ax (aZ q hn)];exact q
  tbls:=fun b ps q=>⟨#[],by rw [ax (aZ q hn),q];simp⟩
theorem Un.write (mu : Mut (H x)) (he : e = x\/H e = some (.own x)) (k : ∀ b u,b≠e->h.get? b = some u->h'.get? b = some u) (heo : ∃ u,h'.get? e = some u) : Un fs ex H (upd H x o) h h':=by
  have hx : ∀ b,H b = none->b≠x:=fun b n z=>by subst z;rw [n] at mu;exact mu
  have hb : ∀ b,H b = none->b≠e:=fun b n z=>by
    subst z
    rcases he with r | r
    · exact hx b n r
    · rw [n] at r;cases r
  have hm : ∀ b u,H b = some u->¬ Mut (some u)->b≠x:=fun b u q nm z=>by subst z;rw [q] at mu;exact nm mu
  refine ⟨fun b u q n _ _=>k b u (hb b n) q,fun b u q n _ _=>⟨u.slots,k b u (hb b n) q⟩,fun b u q n _=>by rw [ax (hx b n)];exact n,fun b u q _=>?_,
    fun b xs q=>by rw [ax (hm b _ q fun z=>z)];exact q,fun b u xs q=>by rw [ax (hm b _ q fun z=>z)];exact q,fun b ps q=>⟨#[],by rw [ax (hm b _ q fun z=>z),q];simp⟩⟩
  by_cases hbe : b = e
  · subst hbe;exact heo
  · exact ⟨u,k b u hbe q⟩
end
def trk (h : Heap) (H : Hp) : List Addr:=(List.range h.objs.size).filter fun a=>(H a).isSome
def uV (h : Heap) (H : Hp) : Heap:=PySem.W.hideAll h (trk h H)
theorem BN (h : Heap) (H : Hp) : (uV h H).objs.size = h.objs.size:=PySem.W.hideAll_size _ _
theorem Dk {h : Heap} {H : Hp} {b : Addr} {o : Obj} (e : h.get? b = some o) (n : H b = none) : (uV h H).get? b = some o :=
  PySem.W.hideAll_get _ e fun hm=>by
    have q : (H b).isSome = true:=(List.mem_filter.mp hm).2
    rw [n] at q;simp at q
theorem FK {h : Heap} {H : Hp} {b : Addr} {o : Obj} (e : (uV h H).get? b = some o) : h.get? b = some o/\H b = none:=by
  have e' : h.get? b = some o:=PySem.W.of_hideAll (trk h H) e
  refine ⟨e',?_⟩
  cases q : H b with
  | none=>rfl
  | some x =>
    have hm : b∈trk h H:=List.mem_filter.mpr ⟨List.mem_range.mpr (Heap.lt_size e'),by simp [q]⟩
    have z : (uV h H).get? b = none:=PySem.W.hideAll_none (trk h H) hm
    rw [z] at e;cases e
def FF (g h : Heap) (L : Addr) : List (Addr × Obj):=(List.range h.objs.size).filterMap fun a=>if a = L\/(g.get? a).isSome = true then none else (h.get? a).map fun o=>(a,o)
def bv (g h : Heap) (L d : Addr) : List (Addr × Obj):=(FF g h L).filter fun p=>decide (p.1≠d)
def jK (K : PySem.W.Frag) : List (Str × Addr × Addr):=match K.lookup mainGlobals with
  | some ⟨_,_,.dict es _,_⟩=>es.toList.filterMap fun e=>match e.key with
    | .str x _=>(PySem.W.tabIn K x).map fun q=>(x,q)
    | _=>none
  | _=>[]
def BS (K : PySem.W.Frag) (H : Hp) : Prop:=∀ q∈jK K,∃ ps,H q.2.2 = some (.tbl ps)/\ps[0]? = some (.str (q.1 ++ ".<locals>." ++ "<lambda>") 0)
theorem BS.mono {K : PySem.W.Frag} {H H' : Hp} (x : BS K H) (k : ∀ b ps,H b = some (.tbl ps)->∃ more,H' b = some (.tbl (ps ++ more))) : BS K H':=fun q hq=>by
  obtain ⟨ps,e,z⟩:=x q hq
  obtain ⟨more,e'⟩:=k _ _ e
  refine ⟨_,e',?_⟩
  have hz : 0 < ps.size:=by
    rcases Nat.eq_zero_or_pos ps.size with h | h
    · rw [Array.getElem?_eq_none (by omega)] at z;cases z
    · exact h
  rw [Array.getElem?_append_left hz]
  exact z
structure Mod (K : PySem.W.Frag) (mg : Str->Option Value) (base : Heap) : Prop where
  kin : K.In base
  glob : base.Ns mainGlobals mg
  blt : ∃ mb,base.Ns builtinsNs mb/\∀ x : Str,x≠"__name__"->mb x = bootBuiltins x
  nolimit : base.NoLimit
  bm : ∃ bm ob,mg "__builtins__" = some (.ref bm)/\bm≠builtinsNs/\base.get? bm = some ob/\ob.cls = .type "module"/\ob.dict = some builtinsNs/\ob.data = .plain
structure Cx where
  prog : Program
  w : World
  K : PySem.W.Frag
  mg : Str->Option Value
  base : Heap
  A : Around
  N : List Str
  s₀ : Shared
  H₀ : Hp
  env : Env
  outer : List Env
  stack : List Env
  ex : List Addr
  fn : Str->Bool
  calm : Bool
  pn : List (Addr × Obj)
  xe : Value->Shared->Prop
def frs (l : List Env) : List Addr:=l.filterMap (·.frame)
abbrev Cx.fs (X : Cx) : List Addr:=frs X.outer
def Vis (sc : Scope) (x : Str) : Prop:=sc.names.lookup x = some .local\/sc.names.lookup x = some .cell\/sc.names.lookup x = some .free
def Loc (sc : Scope) (x : Str) : Prop:=sc.names.lookup x = some .local\/sc.names.lookup x = some .cell
def KH (env : Env) (h : Heap) (m : Str->Option Value) (x : Str) (u : Value) : Prop :=
  (env.kindOf x = some .local/\m x = some u)\/((env.kindOf x = some .cell\/env.kindOf x = some .free)/\∃ c,env.cells.lookup x = some c/\h.IsCell c (some u))
structure Cx.Ok (X : Cx) : Prop where
  mod : Mod X.K X.mg X.base
  kind : X.env.scope.kind = .function
  glob : X.env.globals = mainGlobals
  blt : X.env.builtins = builtinsNs
  above : X.s₀.heap.objs.size<=X.env.locals
  inj : ∀ x y c,X.env.cells.lookup x = some c->X.env.cells.lookup y = some c->x = y
  has : ∀ x,(X.env.kindOf x = some .cell\/X.env.kindOf x = some .free)->∃ c,X.env.cells.lookup x = some c
  cab : ∀ x c,X.fn x = true->X.env.cells.lookup x = some c->X.s₀.heap.objs.size<=c
  hd : X.calm = true->X.A.handled = none
  frames : X.A.frames = some X.stack
  stk : X.stack = X.outer\/(X.stack = X.env :: X.outer/\X.env.frame = some X.env.locals)
  exf : ∀ b∈X.ex,b≠X.env.locals/\∀ x c,X.env.cells.lookup x = some c->c≠b
  bs : ∀ b o,X.base.get? b = some o->X.s₀.heap.get? b = some o/\X.H₀ b = none
  bsz : X.base.objs.size<=X.s₀.heap.objs.size
  noex : ∀ b o,X.base.get? b = some o->b ∉ X.ex
  exfs : ∀ b∈X.ex,b ∉ X.fs
  funs : X.s₀.heap.FunFrames X.base X.outer
  frf : ∀ b∈X.fs,X.H₀ b = none
  tt : BS X.K X.H₀
structure Inv (X : Cx) (pins : List (Addr × Obj)) (σ : List (Option V)) (H : Hp) (s : Shared) : Prop where
  ok : X.Ok
  os : s.os = X.s₀.os
  bare : AllBare s.gens
  base : Un X.fs X.ex X.H₀ H X.s₀.heap s.heap
  loc : ∃ m,s.heap.Ns X.env.locals m/\∀ (i : Nat) (x : Str) (v : V),X.N[i]? = some x->σ[i]? = some (some v)->Vis X.env.scope x->∃ u,bo v u/\KH X.env s.heap m x u
  cell : ∀ x c,X.env.cells.lookup x = some c->∃ v,s.heap.IsCell c v
  free : H X.env.locals = none
  freeC : ∀ x c,X.env.cells.lookup x = some c->H c = none
  pin : ∀ p∈X.pn ++ pins,s.heap.get? p.1 = some p.2/\H p.1 = none/\p.1≠X.env.locals/\p.1 ∉ X.fs/\∀ v,p.2.data≠.cell v
  hok : HOk X.prog X.w H s.heap
  len : σ.length = X.N.length
section
variable {X : Cx} {pins : List (Addr × Obj)} {σ : List (Option V)} {H H' : Hp} {s : Shared} {h' : Heap}
theorem Cx.Ok.nofr (ok : X.Ok) {b : Addr} {o : Obj} (e : X.base.get? b = some o) : b ∉ X.fs:=fun hb=>by
  have:=(ok.funs.mem hb).1
  rw [e] at this;cases this
theorem Inv.bs (I : Inv X pins σ H s) : ∀ b o,X.base.get? b = some o->s.heap.get? b = some o/\H b = none:=fun b o e =>
  ⟨I.base.keep b o (I.ok.bs b o e).1 (I.ok.bs b o e).2 (I.ok.nofr e) (I.ok.noex b o e),I.base.free b o (I.ok.bs b o e).1 (I.ok.bs b o e).2 (I.ok.noex b o e)⟩
theorem Inv.bk (I : Inv X pins σ H s) : ∀ b o,X.base.get? b = some o->s.heap.get? b = some o:=fun b o e=>(I.bs b o e).1
theorem Inv.mod (I : Inv X pins σ H s) : Mod X.K X.mg X.base:=I.ok.mod
theorem Inv.kIn (I : Inv X pins σ H s) : X.K.In s.heap:=I.ok.mod.kin.keeps I.bk
theorem Inv.lt (I : Inv X pins σ H s) : X.env.locals < s.heap.objs.size:=let ⟨_,hn,_⟩:=I.loc;hn.lt
theorem Inv.sz (I : Inv X pins σ H s) : X.s₀.heap.objs.size<=s.heap.objs.size:=Nat.le_trans I.ok.above (Nat.le_of_lt I.lt)
theorem Inv.nofs (I : Inv X pins σ H s) {a : Addr} (h : s.heap.objs.size<=a) : a ∉ X.fs:=fun hb=>by
  obtain ⟨_,o,ho,_⟩:=I.ok.funs.mem hb
  exact absurd (Nat.lt_of_lt_of_le (Heap.lt_size ho) (Nat.le_trans I.sz h)) (Nat.lt_irrefl _)
theorem Inv.cne (I : Inv X pins σ H s) : ∀ x c,X.env.cells.lookup x = some c->c≠X.env.locals:=fun x c e z=>by
  obtain ⟨v,o,ho,hd⟩:=I.cell x c e
  obtain ⟨m,⟨o',es,ep,ho',hd',_⟩,_⟩:=I.loc
  rw [z,ho'] at ho;cases ho;rw [hd'] at hd;cases hd
theorem Inv.funs (I : Inv X pins σ H s) : s.heap.FunFrames X.base X.outer:=by
  have all : ∀ (l : List Env),(∀ b∈frs l,b∈X.fs)->X.s₀.heap.FunFrames X.base l->s.heap.FunFrames X.base l:=by
    intro l
    induction l with
    | nil=>intro _ _;trivial
    | cons env r ih =>
      intro hs hl
      obtain ⟨hk,⟨L,o,hf,hn,ho,hd⟩,hr⟩:=hl
      have hL : L∈X.fs:=hs L (by unfold frs;rw [List.filterMap_cons,hf];exact List.mem_cons_self)
      obtain ⟨sl,e⟩:=I.base.slot L o ho (I.ok.frf L hL) hL fun z=>I.ok.exfs L z hL
      exact ⟨hk,⟨L,_,hf,hn,e,hd⟩,ih (fun b hb=>hs b (by unfold frs;rw [List.filterMap_cons,hf];exact List.mem_cons_of_mem _ hb)) hr⟩
  exact all X.outer (fun _ hb=>hb) I.ok.funs
theorem Inv.stack (I : Inv X pins σ H s) : s.heap.FunFrames X.base X.stack:=by
  rcases I.ok.stk with e | ⟨e,hf⟩
  · rw [e];exact I.funs
  · rw [e]
    obtain ⟨m,hn,_⟩:=I.loc
    refine .cons (by rw [I.ok.kind];decide) hf hn ?_ I.funs
    exact Heap.get?_none_of_le (Nat.le_trans I.ok.bsz I.ok.above)
theorem Inv.stkSub (I : Inv X pins σ H s) : ∀ b∈frs X.stack,b∈X.env.locals :: X.fs:=fun b hb=>by
  rcases I.ok.stk with e | ⟨e,hf⟩
  · rw [e] at hb;exact List.mem_cons_of_mem _ hb
  · rw [e] at hb
    unfold frs at hb
    rw [List.filterMap_cons,hf] at hb
    exact hb
theorem Inv.stkFree (I : Inv X pins σ H s) : ∀ b∈frs X.stack,H b = none:=fun b hb=>by
  rcases List.mem_cons.mp (I.stkSub b hb) with e | hb
  · rw [e];exact I.free
  · obtain ⟨_,o,ho,_⟩:=I.ok.funs.mem hb
    exact I.base.free b o ho (I.ok.frf b hb) fun z=>I.ok.exfs b z hb
theorem Inv.step {g' : Array GenState} {t' : Nat} {d' : Drawn} {ch : List Addr} (I : Inv X pins σ H s)
    (hch : ∀ b∈ch,(b∈X.ex\/X.s₀.heap.objs.size<=b)/\b≠X.env.locals/\(∀ x c,X.env.cells.lookup x = some c->c≠b)/\∀ p∈X.pn ++ pins,p.1≠b)
    (keep : ∀ b o,b≠X.env.locals->b ∉ X.fs->b ∉ ch->s.heap.get? b = some o->H b = none->h'.get? b = some o)
    (slot : ∀ b o,b≠X.env.locals->b∈X.fs->b ∉ ch->s.heap.get? b = some o->H b = none->∃ sl,h'.get? b = some { o with slots:=sl }) (free : ∀ b o,b ∉ ch->s.heap.get? b = some o->H b = none->H' b = none)
    (there : ∀ b o,b ∉ ch->s.heap.get? b = some o->∃ o',h'.get? b = some o')
    (tups : ∀ b xs,H b = some (.tup xs)->H' b = some (.tup xs)) (frzs : ∀ b o u,H b = some (.frz o u)->H' b = some (.frz o u)) (tbls : ∀ b ps,H b = some (.tbl ps)->∃ more,H' b = some (.tbl (ps ++ more)))
    (ns : ∀ m,s.heap.Ns X.env.locals m->h'.Ns X.env.locals m) (hok : HOk X.prog X.w H' h') (hg : AllBare g') :
    Inv X pins σ H' { s with heap:=h',gens:=g',drawn:=d',toks:=t' }:=by
  have neL : ∀ b o,X.s₀.heap.get? b = some o->b≠X.env.locals:=fun b o e=>Nat.ne_of_lt (Nat.lt_of_lt_of_le (Heap.lt_size e) I.ok.above)
  have neC : ∀ b o,X.s₀.heap.get? b = some o->b ∉ X.ex->b ∉ ch:=fun b o e hx hb=>by
    rcases (hch b hb).1 with z | z
    · exact hx z
    · exact absurd (Nat.lt_of_lt_of_le (Heap.lt_size e) z) (Nat.lt_irrefl _)
  have cellK : ∀ x c,X.env.cells.lookup x = some c->∀ v,s.heap.IsCell c v->h'.IsCell c v:=fun x c e v ⟨o,ho,hd⟩=>by
    have nch : c ∉ ch:=fun z=>(hch c z).2.2.1 x c e rfl
    by_cases hc : c∈X.fs
    · obtain ⟨sl,q⟩:=slot c o (I.cne x c e) hc nch ho (I.freeC x c e)
      exact ⟨_,q,hd⟩
    · exact ⟨o,keep c o (I.cne x c e) hc nch ho (I.freeC x c e),hd⟩
  refine ⟨I.ok,I.os,hg,⟨fun b o e n hb hx=>?_,fun b o e n hb hx=>?_,fun b o e n hx=>?_,fun b o e hx=>?_,fun b xs e=>tups b xs (I.base.tups b xs e),fun b o xs e=>frzs b o xs (I.base.frzs b o xs e),fun b ps e=>?_⟩,?_,fun x c e=>?_,?_,fun x c e=>?_,fun p hp=>?_,hok,I.len⟩
  · exact keep b o (neL b o e) hb (neC b o e hx) (I.base.keep b o e n hb hx) (I.base.free b o e n hx)
  · obtain ⟨sl,e1⟩:=I.base.slot b o e n hb hx
    obtain ⟨sl',e2⟩:=slot b _ (neL b o e) hb (neC b o e hx) e1 (I.base.free b o e n hx)
    exact ⟨sl',e2⟩
  · obtain ⟨o',e1⟩:=I.base.there b o e hx
    exact free b o' (neC b o e hx) e1 (I.base.free b o e n hx)
  · obtain ⟨o',e1⟩:=I.base.there b o e hx
    exact there b o' (neC b o e hx) e1
  · obtain ⟨m1,e1⟩:=I.base.tbls b ps e
    obtain ⟨m2,e2⟩:=tbls b _ e1
    exact ⟨m1 ++ m2,by rw [e2,Array.append_assoc]⟩
  · obtain ⟨m,hn,hl⟩:=I.loc
    refine ⟨m,ns m hn,fun i x v e1 e2 e3=>?_⟩
    obtain ⟨u,r,l⟩:=hl i x v e1 e2 e3
    refine ⟨u,r,?_⟩
    rcases l with l | ⟨k,c,e,z⟩
    · exact .inl l
    · exact .inr ⟨k,c,e,cellK x c e _ z⟩
  · obtain ⟨v,z⟩:=I.cell x c e
    exact ⟨v,cellK x c e v z⟩
  · obtain ⟨m,⟨o,_,_,ho,_⟩,_⟩:=I.loc
    exact free _ o (fun z=>(hch _ z).2.1 rfl) ho I.free
  · obtain ⟨v,o,ho,hd⟩:=I.cell x c e
    exact free c o (fun z=>(hch c z).2.2.1 x c e rfl) ho (I.freeC x c e)
  · obtain ⟨e,n,ne,nf,d⟩:=I.pin p hp
    have nch : p.1 ∉ ch:=fun z=>(hch p.1 z).2.2.2 p hp rfl
    exact ⟨keep p.1 p.2 ne nf nch e n,free p.1 p.2 nch e n,ne,nf,d⟩
theorem Inv.un {t' : Nat} (I : Inv X pins σ H s) (u : Un X.fs [] H H' s.heap h') (hok : HOk X.prog X.w H' h') : Inv X pins σ H' { s with heap:=h',toks:=t' }:=by
  obtain ⟨m,⟨o,es,ep,ho,r⟩,_⟩:=id I.loc
  obtain ⟨sl,hL⟩:=u.any ho I.free (by simp)
  exact I.step (g':=s.gens) (d':=s.drawn) (ch:=[]) (fun _ z=>nomatch z) (fun b o _ hb _ e n=>u.keep b o e n hb (by simp)) (fun b o _ hb _ e n=>u.slot b o e n hb (by simp)) (fun b o _ e n=>u.free b o e n (by simp)) (fun b o _ e=>u.there b o e (by simp)) u.tups u.frzs u.tbls (fun m' hm=>by
    obtain ⟨o',es',ep',ho',r'⟩:=hm
    rw [ho] at ho';cases ho'
    exact ⟨_,es',ep',hL,r'⟩) hok I.bare
theorem Inv.call {g' : Array GenState} {t' : Nat} {d' : Drawn} {ch : List Addr} (I : Inv X pins σ H s) (u : Un (frs X.stack) ch H H' s.heap h') (hok : HOk X.prog X.w H' h') (hg : AllBare g')
    (hch : ∀ b∈ch,(b∈X.ex\/X.s₀.heap.objs.size<=b)/\b≠X.env.locals/\(∀ x c,X.env.cells.lookup x = some c->c≠b)/\∀ p∈X.pn ++ pins,p.1≠b) :
    Inv X pins σ H' { s with heap:=h',gens:=g',drawn:=d',toks:=t' }:=by
  obtain ⟨m,⟨o,es,ep,ho,r⟩,_⟩:=id I.loc
  obtain ⟨sl,hL⟩:=u.any ho I.free fun z=>(hch _ z).2.1 rfl
  exact I.step (ch:=ch) hch (fun b o hL hb hc e n=>u.keep b o e n (fun z=>(List.mem_cons.mp (I.stkSub b z)).elim hL hb) hc) (fun b o _ _ hc e n=>u.any e n hc) (fun b o hc e n=>u.free b o e n hc) (fun b o hc e=>u.there b o e hc) u.tups u.frzs u.tbls (fun m' hm=>by
    obtain ⟨o',es',ep',ho',r'⟩:=hm
    rw [ho] at ho';cases ho'
    exact ⟨_,es',ep',hL,r'⟩) hok hg
theorem Inv.turned {t' : Nat} {it : Addr} (I : Inv X pins σ H s) (k : ∀ b o,b≠it->s.heap.get? b = some o->h'.get? b = some o) (hn : H it = none) (hL : it≠X.env.locals)
    (h1 : it∈X.ex\/X.s₀.heap.objs.size<=it) (h2 : ∀ x c,X.env.cells.lookup x = some c->c≠it) (h3 : ∀ p∈X.pn ++ pins,p.1≠it) : Inv X pins σ H { s with heap:=h',toks:=t' }:=by
  have nit : ∀ b u,H b = some u->b≠it:=fun b u e z=>by rw [z,hn] at e;cases e
  refine I.step (g':=s.gens) (d':=s.drawn) (ch:=[it]) (fun b hb=>?_) (fun b o _ _ hc e _=>k b o (fun z=>hc (by simp [z])) e) (fun b o _ _ hc e _=>⟨o.slots,k b o (fun z=>hc (by simp [z])) e⟩) (fun _ _ _ _ n=>n)
    (fun b o hc e=>⟨o,k b o (fun z=>hc (by simp [z])) e⟩) (fun _ _ e=>e) (fun _ _ _ e=>e) (fun b ps e=>⟨#[],by rw [e];simp⟩) (fun m hm=>?_) (fun b u e=>?_) I.bare
  · have e : b = it:=by simpa using hb
    subst e
    exact ⟨h1,hL,h2,h3⟩
  · obtain ⟨o,es,ep,ho,r⟩:=hm
    exact ⟨o,es,ep,k _ o (Ne.symm hL) ho,r⟩
  · refine (I.hok b u e).stay (fun c v hc q=>k c v ?_ q) (fun _ q=>q) (fun _ _ q=>q) fun _ _ _ q=>q
    rcases hc with z | z
    · rw [z];exact nit b u e
    · exact nit c _ z
theorem Inv.tok (I : Inv X pins σ H s) (t : Nat) : Inv X pins σ H { s with toks:=t }:=I.un (h':=s.heap) (t':=t) Un.refl I.hok
theorem Inv.kept {t' : Nat} (I : Inv X pins σ H s) (k : ∀ b u,s.heap.get? b = some u->h'.get? b = some u) : Inv X pins σ H { s with heap:=h',toks:=t' }:=I.un (Un.kept k) (I.hok.kept k)
theorem Inv.laid {a : Addr} {o : HO} {t' : Nat} (I : Inv X pins σ H s) (k : ∀ b u,s.heap.get? b = some u->h'.get? b = some u) (hp : s.heap.objs.size<=a) (new : c7 X.prog X.w (upd H a o) h' a o) :
    Inv X pins σ (upd H a o) { s with heap:=h',toks:=t' }:=I.un (Un.laid k hp (I.hok.fresh hp)) (I.hok.laid k hp new)
theorem Inv.write {x e : Addr} {o : HO} {t' : Nat} (I : Inv X pins σ H s) (mu : Mut (H x)) (he : e = x\/H e = some (.own x)) (k : ∀ b u,b≠e->s.heap.get? b = some u->h'.get? b = some u) (heo : ∃ u,h'.get? e = some u)
    (new : c7 X.prog X.w (upd H x o) h' x o) : Inv X pins σ (upd H x o) { s with heap:=h',toks:=t' }:=I.un (Un.write mu he k heo) (I.hok.write mu he k heo new)
theorem Inv.pins_of {pins' : List (Addr × Obj)} (I : Inv X pins σ H s) (h : ∀ p∈pins',s.heap.get? p.1 = some p.2/\H p.1 = none/\p.1≠X.env.locals/\p.1 ∉ X.fs/\∀ v,p.2.data≠.cell v) : Inv X pins' σ H s :=
  ⟨I.ok,I.os,I.bare,I.base,I.loc,I.cell,I.free,I.freeC,fun p hp=>(List.mem_append.mp hp).elim (fun z=>I.pin p (List.mem_append_left _ z)) (h p),I.hok,I.len⟩
theorem xW {N : List Str} (hN : N.Nodup) {i j : Nat} {x : Str} (a : N[i]? = some x) (b : N[j]? = some x) : i = j:=by
  obtain ⟨h1,e1⟩:=List.getElem?_eq_some_iff.mp a
  obtain ⟨h2,e2⟩:=List.getElem?_eq_some_iff.mp b
  exact (List.getElem_inj hN).mp (e1.trans e2.symm)
theorem uh {M : Model} {A : Around} {E : Value->Shared->Prop} {i : Nat} {x : Str} {v : V} {u : Value} {Q : Unit->Shared->Prop} (I : Inv X pins σ H s) (hN : X.N.Nodup) (hi : X.N[i]? = some x) (hx : Loc X.env.scope x) (r : bo v u)
    (h : ∀ s',Inv X pins (σ.set i (some v)) H s'->(∃ a,Heap.SameBut a s.heap s'.heap/\(a = X.env.locals\/X.env.cells.lookup x = some a))->Q () s') (hf : X.fn x = true\/X.env.scope.names.lookup x = some .local:=by first | exact .inl rfl | exact .inr rfl | assumption) : wpAny M A (storeName X.env x u) Q E s:=by
  obtain ⟨m,hn,hl⟩:=id I.loc
  have hcls : (X.env.scope.kind == .class || (X.env.scope.kind == .module && X.env.locals != X.env.globals)) = false:=by rw [I.ok.kind];rfl
  have hiσ : i < σ.length:=by rw [I.len];exact (List.getElem?_eq_some_iff.mp hi).1
  have cne:=I.cne
  have tracked : ∀ {a : Addr} {h' : Heap},(∃ o,s.heap.get? a = some o/\H a = none)->Heap.SameBut a s.heap h'->HOk X.prog X.w H h':=fun {a h'} ha hs b ob e=>by
    obtain ⟨_,_,hfree⟩:=ha
    refine (I.hok b ob e).stay (fun c w' hc q=>(hs.2 c ?_).trans q) (fun _ q=>q) (fun _ _ q=>q) fun _ _ _ q=>q
    rintro rfl
    rcases hc with rfl | hc
    · rw [hfree] at e;cases e
    · rw [hfree] at hc;cases hc
  rcases hx with hk | hk
  · refine wpAny_storeName_local hk hn (fun h' hn' hs=>?_) hcls
    obtain ⟨oL,_,_,hoL,_⟩:=id hn
    refine h _ ⟨I.ok,I.os,I.bare,⟨fun b o e n hb hx=>?_,fun b o e n hb hx=>?_,I.base.free,fun b o e hx=>?_,I.base.tups,I.base.frzs,I.base.tbls⟩,⟨_,hn',fun j y v' e1 e2 e3=>?_⟩,fun y c e=>?_,I.free,I.freeC,fun p hp=>?_,tracked ⟨oL,hoL,I.free⟩ hs,by simpa using I.len⟩ ⟨_,hs,.inl rfl⟩
    · exact (hs.2 b (Nat.ne_of_lt (Nat.lt_of_lt_of_le (Heap.lt_size e) I.ok.above))).trans (I.base.keep b o e n hb hx)
    · obtain ⟨sl,e1⟩:=I.base.slot b o e n hb hx
      exact ⟨sl,(hs.2 b (Nat.ne_of_lt (Nat.lt_of_lt_of_le (Heap.lt_size e) I.ok.above))).trans e1⟩
    · obtain ⟨o',e1⟩:=I.base.there b o e hx
      exact ⟨o',(hs.2 b (Nat.ne_of_lt (Nat.lt_of_lt_of_le (Heap.lt_size e) I.ok.above))).trans e1⟩
    · by_cases hj : j = i
      · subst hj
        rw [hi] at e1;cases e1
        rw [List.getElem?_set_self hiσ] at e2
        cases e2
        exact ⟨u,r,.inl ⟨hk,by simp⟩⟩
      · rw [List.getElem?_set_ne (Ne.symm hj)] at e2
        obtain ⟨u',r',q⟩:=hl j y v' e1 e2 e3
        refine ⟨u',r',?_⟩
        rcases q with ⟨k,e⟩ | ⟨k,c,e,z⟩
        · refine .inl ⟨k,?_⟩
          have : y≠x:=fun e=>hj (xW hN e1 (e ▸ hi))
          simp [this,e]
        · exact .inr ⟨k,c,e,z.sameBut hs (cne y c e)⟩
    · obtain ⟨w',z⟩:=I.cell y c e
      exact ⟨w',z.sameBut hs (cne y c e)⟩
    · obtain ⟨e,n,ne,nf,d⟩:=I.pin p hp
      exact ⟨(hs.2 p.1 ne).trans e,n,ne,nf,d⟩
  · have hfn : X.fn x = true:=by
      rcases hf with z | z
      · exact z
      · rw [z] at hk;cases hk
    obtain ⟨c,hc⟩:=I.ok.has x (.inl hk)
    obtain ⟨w',z⟩:=I.cell x c hc
    refine wpAny_storeName_cell I.ok.kind hk hc z (fun h' hc' hs=>?_)
    obtain ⟨oc,hoc,hocd⟩:=id z
    refine h { s with heap:=h' } ⟨I.ok,I.os,I.bare,⟨fun b o e n hb hx=>?_,fun b o e n hb hx=>?_,I.base.free,fun b o e hx=>?_,I.base.tups,I.base.frzs,I.base.tbls⟩,⟨m,hn.sameBut hs (Ne.symm (cne x c hc)),fun j y v' e1 e2 e3=>?_⟩,fun y c' e=>?_,I.free,I.freeC,fun p hp=>?_,tracked ⟨oc,hoc,I.freeC x c hc⟩ hs,by simpa using I.len⟩ ⟨c,hs,.inr hc⟩
    · exact (hs.2 b (Nat.ne_of_lt (Nat.lt_of_lt_of_le (Heap.lt_size e) (I.ok.cab x c hfn hc)))).trans (I.base.keep b o e n hb hx)
    · obtain ⟨sl,e1⟩:=I.base.slot b o e n hb hx
      exact ⟨sl,(hs.2 b (Nat.ne_of_lt (Nat.lt_of_lt_of_le (Heap.lt_size e) (I.ok.cab x c hfn hc)))).trans e1⟩
    · obtain ⟨o',e1⟩:=I.base.there b o e hx
      exact ⟨o',(hs.2 b (Nat.ne_of_lt (Nat.lt_of_lt_of_le (Heap.lt_size e) (I.ok.cab x c hfn hc)))).trans e1⟩
    · by_cases hj : j = i
      · subst hj
        rw [hi] at e1;cases e1
        rw [List.getElem?_set_self hiσ] at e2
        cases e2
        exact ⟨u,r,.inr ⟨.inl hk,c,hc,hc'⟩⟩
      · rw [List.getElem?_set_ne (Ne.symm hj)] at e2
        obtain ⟨u',r',q⟩:=hl j y v' e1 e2 e3
        refine ⟨u',r',?_⟩
        rcases q with q | ⟨k,c',e,z'⟩
        · exact .inl q
        · refine .inr ⟨k,c',e,z'.sameBut hs ?_⟩
          rintro rfl
          exact hj (xW hN e1 (I.ok.inj _ _ _ e hc ▸ hi))
    · by_cases hcc : c' = c
      · subst hcc;exact ⟨_,hc'⟩
      · obtain ⟨w2,z2⟩:=I.cell y c' e
        exact ⟨w2,z2.sameBut hs hcc⟩
    · obtain ⟨e,n,ne,nf,d⟩:=I.pin p hp
      refine ⟨(hs.2 p.1 ?_).trans e,n,ne,nf,d⟩
      intro q
      rw [q,hoc] at e
      have q' : oc = p.2:=Option.some.inj e
      exact d w' (by rw [← q'];exact hocd)
theorem jP {M : Model} {A : Around} {E : Value->Shared->Prop} {i : Nat} {x : Str} {v : V} {u : Value} {Q : Unit->Shared->Prop} (I : Inv X pins σ H s) (hN : X.N.Nodup) (hi : X.N[i]? = some x) (hx : Loc X.env.scope x) (r : bo v u)
    (h : ∀ s',Inv X pins (σ.set i (some v)) H s'->Q () s') (hf : X.fn x = true\/X.env.scope.names.lookup x = some .local:=by first | exact .inl rfl | exact .inr rfl | assumption) : wpAny M A (storeName X.env x u) Q E s :=
  uh I hN hi hx r (fun s' I' _=>h s' I') hf
theorem Inv.call' {s' : Shared} {ch : List Addr} (I : Inv X pins σ H s) (ho : s'.os = s.os) (u : Un (frs X.stack) ch H H' s.heap s'.heap) (hok : HOk X.prog X.w H' s'.heap) (hg : AllBare s'.gens)
    (hch : ∀ b∈ch,(b∈X.ex\/X.s₀.heap.objs.size<=b)/\b≠X.env.locals/\(∀ x c,X.env.cells.lookup x = some c->c≠b)/\∀ p∈X.pn ++ pins,p.1≠b) : Inv X pins σ H' s':=by
  obtain ⟨h',g',d',t',o'⟩:=s'
  have e : o' = s.os:=ho
  subst e
  exact I.call (g':=g') (t':=t') (d':=d') u hok hg hch
end
abbrev XK:=Value->Option Addr->Hp->Prop
abbrev St:=List (Option V)
abbrev VK:=V->Hp->Prop
abbrev TE:=St->Hp->VK->Prop
abbrev TT:=St->Hp->(Bool->Hp->Prop)->Prop
abbrev TA:=St->Hp->(List V->Hp->Prop)->Prop
structure jJ where
  nx : St->Hp->Prop
  rt : VK
  bk : St->Hp->Prop:=fun _ _=>False
  ct : St->Hp->Prop:=fun _ _=>False
abbrev TS:=jJ->St->Hp->Prop
def EP (X : Cx) (pins : List (Addr × Obj)) (σ : St) (Q : VK) (u : Value) (s' : Shared) : Prop:=∃ v H',Inv X pins σ H' s'/\bo v u/\Q v H'
def TP (X : Cx) (pins : List (Addr × Obj)) (σ : St) (Q : Bool->Hp->Prop) (b : Bool) (s' : Shared) : Prop:=∃ H',Inv X pins σ H' s'/\Q b H'
def AP (X : Cx) (pins : List (Addr × Obj)) (σ : St) (Q : List V->Hp->Prop) (us : List Value) (s' : Shared) : Prop:=∃ vs H',Inv X pins σ H' s'/\ba vs us/\Q vs H'
def SP (X : Cx) (pins : List (Addr × Obj)) (D : jJ) (f : Flow) (s' : Shared) : Prop :=
  match f with
  | .next=>∃ σ' H',Inv X pins σ' H' s'/\D.nx σ' H'
  | .brk=>∃ σ' H',Inv X pins σ' H' s'/\D.bk σ' H'
  | .cont=>∃ σ' H',Inv X pins σ' H' s'/\D.ct σ' H'
  | .ret u=>∃ v σ' H',Inv X pins σ' H' s'/\bo v u/\D.rt v H'
def PEd (X : Cx) (e : Expr) (t : TE) : Prop :=
  ∀ (pins : List (Addr × Obj)) (s : Shared) (σ : St) (H : Hp) (Q : VK),Inv X pins σ H s->t σ H Q->wpAny (model X.prog X.w) X.A (eval e X.env) (EP X pins σ Q) X.xe s
structure PE (X : Cx) (e : Expr) (t : TE) : Prop where
  run : PEd X e t
noncomputable instance {X : Cx} {e : Expr} {t : TE} : CoeFun (PE X e t) (fun _=>PEd X e t):=⟨PE.run⟩
noncomputable instance {X : Cx} {e : Expr} {t : TE} : Coe (PE X e t) (PEd X e t):=⟨PE.run⟩
def PT (X : Cx) (e : Expr) (t : TT) : Prop :=
  ∀ (pins : List (Addr × Obj)) (s : Shared) (σ : St) (H : Hp) (Q : Bool->Hp->Prop),Inv X pins σ H s->t σ H Q->wpAny (model X.prog X.w) X.A (isTrue e X.env (eval e X.env)) (TP X pins σ Q) X.xe s
def PW (X : Cx) (e : Expr) (t : TT) : Prop :=
  ∀ (whole : Sem Value) (pins : List (Addr × Obj)) (s : Shared) (σ : St) (H : Hp) (Q : Bool->Hp->Prop),Inv X pins σ H s->t σ H Q->wpAny (model X.prog X.w) X.A (isTrue e X.env whole) (TP X pins σ Q) X.xe s
theorem PW.pt {X : Cx} {e : Expr} {t : TT} (h : PW X e t) : PT X e t:=h _
def PAd (X : Cx) (es : List Expr) (t : TA) : Prop :=
  ∀ (pos : Pos) (pins : List (Addr × Obj)) (s : Shared) (σ : St) (H : Hp) (Q : List V->Hp->Prop),Inv X pins σ H s->t σ H Q->wpAny (model X.prog X.w) X.A (spliced (backTo pos (starEach es X.env))) (AP X pins σ Q) X.xe s
structure PA (X : Cx) (es : List Expr) (t : TA) : Prop where
  run : PAd X es t
noncomputable instance {X : Cx} {es : List Expr} {t : TA} : CoeFun (PA X es t) (fun _=>PAd X es t):=⟨PA.run⟩
noncomputable instance {X : Cx} {es : List Expr} {t : TA} : Coe (PA X es t) (PAd X es t):=⟨PA.run⟩
def PSd (X : Cx) (st : Stmt) (t : TS) : Prop :=
  ∀ (pins : List (Addr × Obj)) (s : Shared) (σ : St) (H : Hp) (D : jJ),Inv X pins σ H s->t D σ H->wpAny (model X.prog X.w) X.A (exec st X.env) (SP X pins D) X.xe s
structure PS (X : Cx) (st : Stmt) (t : TS) : Prop where
  run : PSd X st t
noncomputable instance {X : Cx} {st : Stmt} {t : TS} : CoeFun (PS X st t) (fun _=>PSd X st t):=⟨PS.run⟩
noncomputable instance {X : Cx} {st : Stmt} {t : TS} : Coe (PS X st t) (PSd X st t):=⟨PS.run⟩
def IW (X : Cx) (st : List Stmt) (t : TS) : Prop :=
  ∀ (pins : List (Addr × Obj)) (s : Shared) (σ : St) (H : Hp) (D : jJ),Inv X pins σ H s->t D σ H->wpAny (model X.prog X.w) X.A (execs st X.env) (SP X pins D) X.xe s
structure PSs (X : Cx) (st : List Stmt) (t : TS) : Prop where
  run : IW X st t
noncomputable instance {X : Cx} {st : List Stmt} {t : TS} : CoeFun (PSs X st t) (fun _=>IW X st t):=⟨PSs.run⟩
noncomputable instance {X : Cx} {st : List Stmt} {t : TS} : Coe (PSs X st t) (IW X st t):=⟨PSs.run⟩
theorem thn {α : Type} {t : Sem α} {Q Q' : α->Shared->Prop} {M : Model} {A : Around} {E : Value->Shared->Prop} {s : Shared} (h : wpAny M A t Q E s) (hQ : ∀ a s,Q a s->Q' a s) : wpAny M A t Q' E s:=wpAny_mono h hQ fun _ _ x=>x
section
variable {X : Cx}
def FJ (i : Nat) : TE:=fun σ H Q=>∃ v,σ[i]? = some (some v)/\Q v H
def tC (v : V) : TE:=fun _ H Q=>Q v H
theorem CD {i : Nat} {x : Str} {pos : Pos} (hN : X.N[i]? = some x) (hv : Vis X.env.scope x) (hd : (x == ("__debug__" : Str)) = false:=by decide) (hcd : (x == ("__classdict__" : Str)) = false:=by decide) : PE X (.Name x pos) (FJ i):=.mk <| by
  intro pins s σ H Q I h
  obtain ⟨v,e,h⟩:=h
  obtain ⟨m,hn,hl⟩:=I.loc
  obtain ⟨u,r,l⟩:=hl i x v hN e hv
  have fin : EP X pins σ Q u s:=⟨v,H,I,r,h⟩
  rcases l with ⟨hk,hm⟩ | ⟨hk,c,hc,hcell⟩
  · exact wpAny_Name (wpAny_loadName_local I.ok.kind hk hn hm fin) hd
  · rcases hk with hk | hk
    · exact wpAny_Name (wpAny_loadName_cell I.ok.kind hk hc hcell fin) hd
    · exact wpAny_Name (wpAny_loadName_free I.ok.kind hk hc hcell fin hcd) hd
theorem ag {i j pos} : PE X (.Constant (.int i) j pos) (tC (.int i)):=.mk <| fun _ _ _ H _ I h=>wpAny_Constant_int ⟨.int i,H,I.tok _,⟨_,rfl⟩,h⟩
theorem eM {b j pos} : PE X (.Constant (.bool b) j pos) (tC (.bl b)):=.mk <| fun _ _ _ H _ I h=>Constant_bool ⟨.bl b,H,I,rfl,h⟩
theorem o9 {j pos} : PE X (.Constant .none j pos) (tC .non):=.mk <| fun _ _ _ H _ I h=>Constant_none ⟨.non,H,I,rfl,h⟩
theorem aP {x j pos} : PE X (.Constant (.str x) j pos) (tC (.str x)):=.mk <| fun _ _ _ H _ I h=>Calls.Constant_str ⟨.str x,H,I.tok _,⟨_,rfl⟩,h⟩
def Gl (X : Cx) (x : Str) : Prop:=X.env.kindOf x = some .globalImplicit
theorem kT {E : Value->Shared->Prop} {pins : List (Addr × Obj)} {s : Shared} {σ : St} {H : Hp} {x : Str} {u : Value} {pos : Pos} {Q : Value->Shared->Prop} (I : Inv X pins σ H s) (hg : Gl X x) (hm : X.mg x = some u) (h : Q u s)
    (hd : (x == ("__debug__" : Str)) = false:=by decide) : wpAny (model X.prog X.w) X.A (eval (.Name x pos) X.env) Q E s :=
  Calls.Name_function_global I.ok.kind hg (Calls.loadGlobal_global (by rw [I.ok.glob];exact I.mod.glob.keeps I.bk) hm h) hd
theorem pf {E : Value->Shared->Prop} {pins : List (Addr × Obj)} {s : Shared} {σ : St} {H : Hp} {x : Str} {u : Value} {pos : Pos} {Q : Value->Shared->Prop} (I : Inv X pins σ H s) (hg : Gl X x) (hm : X.mg x = none) (hv : bootBuiltins x = some u) (h : Q u s)
    (hn : x≠"__name__":=by decide) (hd : (x == ("__debug__" : Str)) = false:=by decide) : wpAny (model X.prog X.w) X.A (eval (.Name x pos) X.env) Q E s:=by
  obtain ⟨mb,h1,h2⟩:=I.mod.blt
  exact Calls.Name_function_global I.ok.kind hg (Calls.loadGlobal_builtin (by rw [I.ok.glob];exact I.mod.glob.keeps I.bk) hm (by rw [I.ok.blt];exact h1.keeps I.bk) ((h2 x hn).trans hv) h) hd
theorem FW {x : Str} {v : V} {u : Value} {pos : Pos} (hg : Gl X x) (hm : X.mg x = some u) (r : bo v u) (hd : (x == ("__debug__" : Str)) = false:=by decide) : PE X (.Name x pos) (tC v):=.mk <|
  fun _ _ _ H _ I h=>kT I hg hm ⟨v,H,I,r,h⟩ hd
variable {a b : Expr} {ta tb : TE} {pos : Pos}
variable {tA tB' : TT} {bv : List Expr}
def JZ (t u : TT) : TT:=fun σ H Q=>t σ H fun c H1=>if c = true then u σ H1 Q else Q false H1
def tOr (t u : TT) : TT:=fun σ H Q=>t σ H fun c H1=>if c = true then Q true H1 else u σ H1 Q
def Kp (t : TT) : TT:=fun σ H Q=>t σ H fun c H1=>Q (!c) H1
theorem qx (ha : PT X a tA) : PW X (.BoolOp .And [a] pos) tA:=by
  intro wh pins s σ H Q I h
  refine isTrue_and (thn (ha pins s σ H Q I h) fun c s1 e=>?_)
  cases c with
  | true=>exact isTrue_and_nil e
  | false=>exact e
theorem mB (ha : PT X a tA) : PW X (.BoolOp .Or [a] pos) tA:=by
  intro wh pins s σ H Q I h
  refine isTrue_or (thn (ha pins s σ H Q I h) fun c s1 e=>?_)
  cases c with
  | false=>exact isTrue_or_nil e
  | true=>exact e
theorem wn (ha : PT X a tA) (hb : PW X (.BoolOp .And (b :: bv) pos) tB') : PW X (.BoolOp .And (a :: b :: bv) pos) (JZ tA tB'):=by
  intro wh pins s σ H Q I h
  refine isTrue_and (thn (ha pins s σ H _ I h) fun c s1 ⟨H1,I1,q1⟩=>?_)
  cases c with
  | true=>exact hb wh pins s1 σ H1 Q I1 q1
  | false=>exact ⟨H1,I1,q1⟩
theorem ri (ha : PT X a tA) (hb : PW X (.BoolOp .Or (b :: bv) pos) tB') : PW X (.BoolOp .Or (a :: b :: bv) pos) (tOr tA tB'):=by
  intro wh pins s σ H Q I h
  refine isTrue_or (thn (ha pins s σ H _ I h) fun c s1 ⟨H1,I1,q1⟩=>?_)
  cases c with
  | true=>exact ⟨H1,I1,q1⟩
  | false=>exact hb wh pins s1 σ H1 Q I1 q1
theorem gW (ha : PT X a tA) : PT X (.UnaryOp .Not a pos) (Kp tA):=by
  intro pins s σ H Q I h
  exact isTrue_not (ha pins s σ H (fun c H1=>Q (!c) H1) I h)
theorem pC {op} {t : TE} (h : PE X a t) : PE X (.BoolOp op [a] pos) t:=.mk <| fun pins s σ H Q I hw=>BoolOp_one (h pins s σ H Q I hw)
def tIf (t : TT) (ta tb : TE) : TE:=fun σ H Q=>t σ H fun c H1=>if c = true then ta σ H1 Q else tb σ H1 Q
theorem im {c : Expr} (hc : PT X c tA) (ha : PE X a ta) (hb : PE X b tb) : PE X (.IfExp c a b pos) (tIf tA ta tb):=.mk <| by
  intro pins s σ H Q I h
  refine wpAny_IfExp (thn (hc pins s σ H _ I h) fun d s1 ⟨H1,I1,q1⟩=>?_)
  cases d with
  | true=>exact ha pins s1 σ H1 Q I1 q1
  | false=>exact hb pins s1 σ H1 Q I1 q1
end
def SqL (K : PySem.W.Frag) (H : Hp) (a : Addr) (xs : List V) : Prop :=
  Rd H a (.lst xs) \/
    ∃ (o : Obj) (its : Array Value) (n : Nat),K.lookup a = some o/\o.cls = .type "list"/\o.dict = none/\o.data = .seq its n/\its.size<=sizeLine/\ba xs its.toList
def SqT (K : PySem.W.Frag) (H : Hp) (a : Addr) (xs : List V) : Prop :=
  Rd H a (.tup xs) \/
    ∃ (o : Obj) (its : Array Value) (n : Nat),K.lookup a = some o/\o.cls = .type "tuple"/\o.data = .seq its n/\its.size<=sizeLine/\ba xs its.toList
def KP : Value->Option V
  | .none=>some .non
  | .bool b=>some (.bl b)
  | .int i _=>some (.int i)
  | .str x _=>some (.str x)
  | .bytes b _=>some (.byt b)
  | .float b _=>some (.flt b)
  | .ref a=>some (.ref a)
  | .type n=>some (.ty n)
  | _=>none
theorem bo.abs {x : V} {u : Value} (r : bo x u) : KP u = some x:=by
  cases x with
  | non=>cases r;rfl
  | bl _=>cases r;rfl
  | int _=>obtain ⟨t,rfl⟩:=r;rfl
  | str _=>obtain ⟨t,rfl⟩:=r;rfl
  | byt _=>obtain ⟨t,rfl⟩:=r;rfl
  | flt _=>obtain ⟨t,rfl⟩:=r;rfl
  | ref _=>cases r;rfl
  | ty _=>cases r;rfl
theorem bo.inj {x y : V} {u : Value} (r : bo x u) (q : bo y u) : x = y:=Option.some.inj (r.abs.symm.trans q.abs)
theorem ba.inj : ∀ {xs ys : List V} {us : List Value},ba xs us->ba ys us->xs = ys
  | _,_,_,.nil,.nil=>rfl
  | _,_,_,.cons r t,.cons r' t'=>by rw [r.inj r',ba.inj t t']
section
variable {X : Cx} {pins : List (Addr × Obj)} {σ : St} {H : Hp} {s : Shared} {a : Addr} {xs ys : List V}
theorem SqL.of {K : PySem.W.Frag} (h : H a = some (.lst xs)) : SqL K H a xs:=.inl (.inl h)
theorem SqT.of {K : PySem.W.Frag} (h : H a = some (.tup xs)) : SqT K H a xs:=.inl (.inl h)
theorem Inv.list (I : Inv X pins σ H s) (h : SqL X.K H a xs) : ∃ its : List Value,ba xs its/\PlainL s.heap a its.toArray/\xs.length<=sizeLine:=by
  rcases h with h | ⟨o,its,n,hk,hc,hd,hs,hz,r⟩
  · obtain ⟨z,its,n,r,e⟩:=h.ok I.hok
    exact ⟨its,r,⟨_,n,e,rfl,rfl,rfl⟩,z⟩
  · refine ⟨its.toList,r,⟨o,n,I.kIn a o hk,hc,hd,by simpa using hs⟩,?_⟩
    have e:=r.length
    simp only [Array.length_toList] at e
    omega
theorem Inv.tuple (I : Inv X pins σ H s) (h : SqT X.K H a xs) : ∃ its : List Value,ba xs its/\IsTup s.heap a its.toArray/\xs.length<=sizeLine:=by
  rcases h with h | ⟨o,its,n,hk,hc,hs,hz,r⟩
  · obtain ⟨z,its,r,p⟩:=h.ok I.hok
    exact ⟨its,r,p.1,z⟩
  · refine ⟨its.toList,r,⟨o,I.kIn a o hk,hc,n,by simpa using hs⟩,?_⟩
    have e:=r.length
    simp only [Array.length_toList] at e
    omega
theorem Inv.list_inj (I : Inv X pins σ H s) (h : SqL X.K H a xs) (h' : SqL X.K H a ys) : xs = ys:=by
  obtain ⟨its,r,⟨o,n,e,_,_,d⟩,_⟩:=I.list h
  obtain ⟨its',r',⟨o',n',e',_,_,d'⟩,_⟩:=I.list h'
  rw [e] at e';cases e'
  rw [d] at d'
  injection d' with d1 _
  have : its = its':=by simpa using congrArg Array.toList d1
  subst this
  exact r.inj r'
theorem Inv.tuple_inj (I : Inv X pins σ H s) (h : SqT X.K H a xs) (h' : SqT X.K H a ys) : xs = ys:=by
  obtain ⟨its,r,⟨o,e,_,n,d⟩,_⟩:=I.tuple h
  obtain ⟨its',r',⟨o',e',_,n',d'⟩,_⟩:=I.tuple h'
  rw [e] at e';cases e'
  rw [d] at d'
  injection d' with d1 _
  have : its = its':=by simpa using congrArg Array.toList d1
  subst this
  exact r.inj r'
end
abbrev Cx.wish (X : Cx) (E : Value->Shared->Prop) : Cx:={ X with xe:=E }
abbrev Cx.nox (X : Cx) : Cx:=X.wish fun _ _=>False
theorem Cx.Ok.wish {X : Cx} (ok : X.Ok) (E : Value->Shared->Prop) : (X.wish E).Ok :=
  ⟨ok.mod,ok.kind,ok.glob,ok.blt,ok.above,ok.inj,ok.has,ok.cab,ok.hd,ok.frames,ok.stk,ok.exf,ok.bs,ok.bsz,ok.noex,ok.exfs,ok.funs,ok.frf,ok.tt⟩
theorem Cx.Ok.unwish {X : Cx} {E : Value->Shared->Prop} (ok : (X.wish E).Ok) : X.Ok :=
  ⟨ok.mod,ok.kind,ok.glob,ok.blt,ok.above,ok.inj,ok.has,ok.cab,ok.hd,ok.frames,ok.stk,ok.exf,ok.bs,ok.bsz,ok.noex,ok.exfs,ok.funs,ok.frf,ok.tt⟩
section
variable {X : Cx} {pins : List (Addr × Obj)} {σ : St} {H : Hp} {s : Shared} {E : Value->Shared->Prop}
theorem Inv.wish (I : Inv X pins σ H s) (E : Value->Shared->Prop) : Inv (X.wish E) pins σ H s:=⟨I.ok.wish E,I.os,I.bare,I.base,I.loc,I.cell,I.free,I.freeC,I.pin,I.hok,I.len⟩
theorem Inv.unwish (I : Inv (X.wish E) pins σ H s) : Inv X pins σ H s:=⟨I.ok.unwish,I.os,I.bare,I.base,I.loc,I.cell,I.free,I.freeC,I.pin,I.hok,I.len⟩
theorem SP.unwish {D : jJ} {f : Flow} {s' : Shared} (h : SP (X.wish E) pins D f s') : SP X pins D f s':=by
  cases f with
  | next=>obtain ⟨σ',H',I,q⟩:=h;exact ⟨σ',H',I.unwish,q⟩
  | brk=>obtain ⟨σ',H',I,q⟩:=h;exact ⟨σ',H',I.unwish,q⟩
  | cont=>obtain ⟨σ',H',I,q⟩:=h;exact ⟨σ',H',I.unwish,q⟩
  | ret u=>obtain ⟨v,σ',H',I,r,q⟩:=h;exact ⟨v,σ',H',I.unwish,r,q⟩
theorem PT.nox {e : Expr} {t : TT} (h : PT X.nox e t) : PT X e t:=fun pins s σ H Q I hw =>
  wpAny_mono (h pins s σ H Q (I.wish _) hw) (fun _ _ ⟨H',I',q⟩=>⟨H',I'.unwish,q⟩) fun _ _ z=>False.elim z
theorem PSs.nox {st : List Stmt} {t : TS} (h : PSs X.nox st t) : PSs X st t:=.mk <| fun pins s σ H D I hw =>
  wpAny_mono (h pins s σ H D (I.wish _) hw) (fun _ _ q=>q.unwish) fun _ _ z=>False.elim z
end
section
variable {X : Cx} {st : Stmt} {bv : List Stmt} {t u : TS} {e : Expr} {te : TE} {pos : Pos}
def Hf : TS:=fun D σ H=>D.nx σ H
def Id (t u : TS) : TS:=fun D σ H=>t { D with nx:=u D } σ H
theorem aY : PSs X [] Hf:=.mk <| fun _ _ σ H _ I h=>wpAny_execs_nil ⟨σ,H,I,h⟩
theorem ah (h1 : PS X st t) (h2 : PSs X bv u) : PSs X (st :: bv) (Id t u):=.mk <| by
  intro pins s σ H D I h
  refine wpAny_execs_cons (thn (h1 pins s σ H { D with nx:=u D } I h) fun f s1 q=>?_)
  cases f with
  | next =>
    obtain ⟨σ',H',I',q⟩:=q
    exact h2 pins s1 σ' H' D I' q
  | ret v=>exact q
  | brk=>exact q
  | cont=>exact q
theorem al (h1 : PS X st t) : PSs X [st] t:=.mk <| by
  intro pins s σ H D I h
  refine wpAny_execs_cons (thn (h1 pins s σ H D I h) fun f s1 q=>?_)
  cases f with
  | next=>exact wpAny_execs_nil q
  | ret v=>exact q
  | brk=>exact q
  | cont=>exact q
def Hb : TS:=fun D σ H=>D.ct σ H
theorem wM : PS X (.Continue pos) Hb:=.mk <| fun _ _ σ H _ I h=>wpAny_Continue ⟨σ,H,I,h⟩
theorem Inv.quiet {pins : List (Addr × Obj)} {σ : St} {H : Hp} {s : Shared} (I : Inv X pins σ H s) : interactive X.env = false:=by simp [interactive,I.ok.kind]
def G4 (te : TE) : TS:=fun D σ H=>te σ H fun _ H1=>D.nx σ H1
theorem bZ (he : PE X e te) (hs : swapsWith e none pos.line X.env = pure false:=by rfl) : PS X (.Expr e pos) (G4 te):=.mk <| by
  intro pins s σ H D I h
  exact wpAny_Expr_any (thn (he pins s σ H _ I h) fun v s1 ⟨x,H1,I1,r1,q1⟩=>⟨σ,H1,I1,q1⟩) I.quiet hs
def JG (te : TE) : TS:=fun D σ H=>te σ H D.rt
theorem aD (he : PE X e te) : PS X (.Return (some e) pos) (JG te):=.mk <| by
  intro pins s σ H D I h
  exact wpAny_Return_some (thn (he pins s σ H _ I h) fun v s1 ⟨x,H1,I1,r1,q1⟩=>⟨x,σ,H1,I1,r1,q1⟩)
def IP (c : TT) (t u : TS) : TS:=fun D σ H=>c σ H fun b H1=>if b = true then t D σ H1 else u D σ H1
theorem bz {c : Expr} {a b : List Stmt} {tc : TT} (hc : PT X c tc) (ha : PSs X a t) (hb : PSs X b u) : PS X (.If c a b pos) (IP tc t u):=.mk <| by
  intro pins s σ H D I h
  refine wpAny_If (thn (hc pins s σ H _ I h) fun d s1 ⟨H1,I1,q1⟩=>?_)
  cases d with
  | true=>exact ha pins s1 σ H1 D I1 q1
  | false=>exact hb pins s1 σ H1 D I1 q1
def Jn : TS:=fun _ _ _=>False
theorem xq : PS X st Jn:=.mk <| fun _ _ _ _ _ _ h=>h.elim
end
abbrev TG:=V->St->Hp->(St->Hp->Prop)->Prop
abbrev TGs:=List V->St->Hp->(St->Hp->Prop)->Prop
def PG (X : Cx) (target : Expr) (t : TG) : Prop :=
  ∀ (pins : List (Addr × Obj)) (s : Shared) (σ : St) (H : Hp) (v : V) (u : Value) (Q : St->Hp->Prop),Inv X pins σ H s->bo v u->t v σ H Q ->
    wpAny (model X.prog X.w) X.A (assign target X.env u) (fun _ s'=>∃ σ' H',Inv X pins σ' H' s'/\Q σ' H') X.xe s
def PGs (X : Cx) (ts : List Expr) (t : TGs) : Prop :=
  ∀ (pins : List (Addr × Obj)) (s : Shared) (σ : St) (H : Hp) (vs : List V) (us : List Value) (Q : St->Hp->Prop),Inv X pins σ H s->ba vs us->t vs σ H Q ->
    wpAny (model X.prog X.w) X.A (assignInOrder ((assignEach ts X.env).map (·.2)) us) (fun _ s'=>∃ σ' H',Inv X pins σ' H' s'/\Q σ' H') X.xe s
section
variable {X : Cx} {pos : Pos}
def uy (i : Nat) : TG:=fun v σ H Q=>Q (σ.set i (some v)) H
theorem aG {i : Nat} {x : Str} (hN : X.N.Nodup) (hi : X.N[i]? = some x) (hx : Loc X.env.scope x) (hf : X.fn x = true\/X.env.scope.names.lookup x = some .local:=by first | exact .inl rfl | exact .inr rfl | assumption) : PG X (.Name x pos) (uy i):=by
  intro pins s σ H v u Q I r h
  exact wpAny_assign_Name (jP I hN hi hx r (fun s' I'=>⟨_,H,I',h⟩) hf)
def Ju : TGs:=fun vs σ H Q=>vs = []/\Q σ H
def GK (t : TG) (u : TGs) : TGs:=fun vs σ H Q=>∃ v r,vs = v :: r/\t v σ H fun σ' H'=>u r σ' H' Q
theorem dU : PGs X [] Ju:=by
  intro pins s σ H vs us Q I r h
  obtain ⟨e,h⟩:=h
  subst e
  cases r
  exact assignInOrder_nil ⟨σ,H,I,h⟩
theorem a8 {e : Expr} {es : List Expr} {t : TG} {u : TGs} (h1 : PG X e t) (h2 : PGs X es u)
    (hs : (assignEach (e :: es) X.env).map (·.2) = assign e X.env :: (assignEach es X.env).map (·.2):=by rfl) : PGs X (e :: es) (GK t u):=by
  intro pins s σ H vs us Q I r h
  obtain ⟨v,vr,e1,h⟩:=h
  subst e1
  cases r with
  | cons r rr =>
    rw [hs]
    refine assignInOrder_cons (thn (h1 pins s σ H _ _ _ I r h) fun _ s1 ⟨σ1,H1,I1,q1⟩=>?_)
    exact h2 pins s1 σ1 H1 _ _ Q I1 rr q1
def IA (K : PySem.W.Frag) (n : Nat) (t : TGs) : TG:=fun v σ H Q=>∃ a xs,v = .ref a/\SqT K H a xs/\xs.length = n/\t xs σ H Q
theorem IS {es : List Expr} {k : Nat} {t : TGs} {n : Nat} (hc : X.calm = true) (h : PGs X es t)
    (hn : (assignEach es X.env).length = n:=by rfl) (hst : (assignEach es X.env).findIdx? (·.1) = none:=by rfl) : PG X (.Tuple es k pos) (IA X.K n t):=by
  intro pins s σ H v u Q I r hw
  obtain ⟨a,xs,e1,hq,hl,hw⟩:=hw
  subst e1
  cases r
  obtain ⟨its,rv,ht,hz⟩:=I.tuple hq
  refine assign_Tuple_tuple (I.ok.hd hc) ht (by simp [hn,← hl,rv.length]) hst fun h' hx=>?_
  have I1 : Inv X pins σ H { s with heap:=h' }:=I.kept (t':=s.toks) fun b o e=>hx b o (Nat.ne_of_lt (Heap.lt_size e)) e
  exact h pins _ σ H xs _ Q I1 (by simpa using rv) hw
def B9 (te : TE) (g : TG) : TS:=fun D σ H=>te σ H fun x H1=>g x σ H1 D.nx
theorem mR {tg e : Expr} {te : TE} {g : TG} (he : PE X e te) (hg : PG X tg g) (hs : swapsWithSole [tg] e pos.line X.env = pure false:=by rfl) (hw : swappedStores [tg] e X.env = pure none:=by rfl)
    (h1 : (assignEach [tg] X.env).map (·.2) = [assign tg X.env]:=by rfl) : PS X (.Assign [tg] e pos) (B9 te g):=.mk <| by
  intro pins s σ H D I h
  refine wpAny_Assign_stores (thn (he pins s σ H _ I h) fun v s1 ⟨x,H1,I1,r1,q1⟩=>?_) hs hw
  rw [h1]
  exact thn (hg pins s1 σ H1 x v _ I1 r1 q1) fun _ s2 q=>q
theorem aL {i : Nat} {x : Str} {e : Expr} {te : TE} {pos' : Pos} (hN : X.N.Nodup) (hi : X.N[i]? = some x) (hx : Loc X.env.scope x) (he : PE X e te) (hs : swapsWith e (some (.Name x pos')) pos.line X.env = pure false:=by rfl) (hf : X.fn x = true\/X.env.scope.names.lookup x = some .local:=by first | exact .inl rfl | exact .inr rfl | assumption) :
    PS X (.Assign [.Name x pos'] e pos) (B9 te (uy i)):=.mk <| by
  intro pins s σ H D I h
  refine wpAny_Assign_Name (thn (he pins s σ H _ I h) fun v s1 ⟨y,H1,I1,r1,q1⟩=>?_) hs
  exact jP I1 hN hi hx r1 (fun s2 I2=>⟨_,H1,I2,q1⟩) hf
def JR (i j : Nat) (ta : TA) : TS:=fun D σ H=>ta σ H fun vs H1=>∃ v w,vs = [v,w]/\D.nx ((σ.set i (some v)).set j (some w)) H1
theorem HE {i j : Nat} {x y : Str} {a b : Expr} {ta : TA} {px py pt : Pos} {kt k2 pt2} (hc : X.calm = true) (hN : X.N.Nodup) (hi : X.N[i]? = some x) (hj : X.N[j]? = some y) (hij : i≠j)
    (hx : X.env.scope.names.lookup x = some .local) (hy : X.env.scope.names.lookup y = some .local) (ha : PA X [a,b] ta)
    (hw : swappedStores [.Tuple [.Name x px,.Name y py] kt pt] (.Tuple [a,b] k2 pt2) X.env = pure (some [x,y]))
    (hs : swapsWithSole [.Tuple [.Name x px,.Name y py] kt pt] (.Tuple [a,b] k2 pt2) pos.line X.env = pure false:=by rfl) :
    PS X (.Assign [.Tuple [.Name x px,.Name y py] kt pt] (.Tuple [a,b] k2 pt2) pos) (JR i j ta):=.mk <| by
  intro pins s σ H D I h
  rw [exec_Assign_arm]
  refine wpAny_bind (wpAny_standAt ?_)
  rw [hs]
  refine wpAny_bind (wpAny_pure ?_)
  rw [if_neg (by decide)]
  refine wpAny_bind (Tuple_ (thn (ha _ pins s σ H _ I h) fun us s1 ⟨vs,H1,I1,r1,q1⟩=>?_))
  obtain ⟨v,w,e1,q1⟩:=q1
  subst e1
  obtain ⟨u1,u2,rfl,rv,rw'⟩ : ∃ u1 u2,us = [u1,u2]/\bo v u1/\bo w u2:=by
    cases r1 with
    | cons p q =>
      cases q with
      | cons p' q' =>
        cases q'
        exact ⟨_,_,rfl,p,p'⟩
  refine wpAny_newObj_type ?_ (by show 2<=sizeLine;decide)
  have I2 : Inv X pins σ H1 { s1 with heap:=s1.heap.push { cls:=.type "tuple",data:=.seq [u1,u2].toArray } }:=I1.kept (t':=s1.toks) fun b o e=>Heap.get?_push_of_some _ e
  rw [hw]
  refine wpAny_bind (wpAny_pure ?_)
  show wpAny (model X.prog X.w) X.A (do rule "assign.swapped-stores";let items ← unpackItems (.ref s1.heap.objs.size) 2 none;assignInOrder [fun v=>bindName X.env y v,fun v=>bindName X.env x v] items.reverse;pure Flow.next) _ _ _
  refine wpAny_bind (wpAny_rule (wpAny_bind (unpackItems_tuple (items:=#[u1,u2]) (I.ok.hd hc) (IsTup.new s1.heap _) fun h' hx'=>?_)))
  have I3:=I2.kept (h':=h') (t':=s1.toks) fun b o e=>hx' b o (Nat.ne_of_lt (Heap.lt_size e)) e
  show wpAny _ _ (assignInOrder [fun v=>bindName X.env y v,fun v=>bindName X.env x v] [u2,u1] >>= fun _=>pure Flow.next) _ _ _
  refine wpAny_bind (assignInOrder_cons (wpAny_bindName (jP I3 hN hj (.inl hy) rw' (fun s2 I4=>?_) (.inr hy))))
  refine assignInOrder_cons (wpAny_bindName (jP I4 hN hi (.inl hx) rv (fun s3 I5=>assignInOrder_nil (wpAny_pure ?_)) (.inr hx)))
  rw [List.set_comm _ _ (Ne.symm hij)] at I5
  exact ⟨_,H1,I5,q1⟩
end
section
variable {X : Cx} {pos : Pos}
def CK (c : TT) (tb : TS) : TS:=fun D σ H=>∃ W : Nat->St->Hp->Prop,(∃ m,W m σ H)/\∀ m σ H,W m σ H ->
  c σ H fun b H1=>if b = true then ∃ N : St->Hp->Prop,(∀ σ' H',N σ' H'->∃ m',m' < m/\W m' σ' H')/\tb { D with nx:=N,ct:=N,bk:=D.nx } σ H1 else D.nx σ H1
theorem mY {c : Expr} {body : List Stmt} {tc : TT} {tb : TS} (hp : PassesOwn (model X.prog X.w) X.A X.env X.xe) (hc : PT X c tc) (hb : PSs X body tb) : PS X (.While c body [] pos) (CK tc tb):=.mk <| by
  intro pins s σ H D I h
  obtain ⟨W,⟨m0,w0⟩,turn⟩:=h
  refine wpAny_While (codeAny_whileLoop (fun n s'=>∃ σ' H',Inv X pins σ' H' s'/\W n σ' H') ?_ m0 ⟨σ,H,I,w0⟩)
  rintro n s1 ⟨σ1,H1,I1,w1⟩
  refine wpAny_passesOwn hp (thn (hc pins s1 σ1 H1 _ I1 (turn n σ1 H1 w1)) fun b s2 ⟨H2,I2,q2⟩=>?_)
  cases b with
  | true =>
    obtain ⟨N,hN,q2⟩:=q2
    rw [if_pos rfl]
    refine wpAny_passesOwn hp (thn (hb pins s2 σ1 H2 _ I2 q2) fun f s3 q3=>?_)
    cases f with
    | next =>
      obtain ⟨σ3,H3,I3,n3⟩:=q3
      obtain ⟨m',hm,w3⟩:=hN σ3 H3 n3
      exact ⟨m',hm,σ3,H3,I3,w3⟩
    | cont =>
      obtain ⟨σ3,H3,I3,n3⟩:=q3
      obtain ⟨m',hm,w3⟩:=hN σ3 H3 n3
      exact ⟨m',hm,σ3,H3,I3,w3⟩
    | brk=>exact q3
    | ret v=>exact q3
  | false =>
    rw [if_neg Bool.false_ne_true]
    exact wpAny_execs_nil ⟨σ1,H2,I2,q2⟩
end
structure It where
  go : Nat->Hp->Prop
  yld : Nat->Hp->V->Hp->Prop
  stop : Nat->Hp->Prop
def lR (X : Cx) (pins : List (Addr × Obj)) (H : Hp) (b : Addr) : Prop :=
  H b = none/\b≠X.env.locals/\b ∉ X.fs/\(b∈X.ex\/X.s₀.heap.objs.size<=b)/\(∀ x c,X.env.cells.lookup x = some c->c≠b)/\∀ p∈X.pn ++ pins,p.1≠b
theorem Inv.fpOk {X : Cx} {pins : List (Addr × Obj)} {σ : St} {H H' : Hp} {s : Shared} {b : Addr} (I : Inv X pins σ H s) (hb : s.heap.objs.size<=b) (hn : H' b = none) : lR X pins H' b:=by
  refine ⟨hn,Nat.ne_of_gt (Nat.lt_of_lt_of_le I.lt hb),I.nofs hb,.inr (Nat.le_trans I.sz hb),fun x c e z=>?_,fun p hp z=>?_⟩
  · obtain ⟨v,q⟩:=I.cell x c e
    exact absurd (Nat.lt_of_lt_of_le q.lt (by rw [z];exact hb)) (Nat.lt_irrefl _)
  · exact absurd (Nat.lt_of_lt_of_le (Heap.lt_size (I.pin p hp).1) (by rw [z];exact hb)) (Nat.lt_irrefl _)
structure yx (P : Program) (w : World) (K : PySem.W.Frag) (tg : Expr) (J : It) (fp : List Addr) (it : Addr) (tn : Nat->Heap->Prop) : Prop where
  mem : it∈fp
  obj : ∀ i h,tn i h->∀ b∈fp,∃ o,h.get? b = some o/\∀ v,o.data≠.cell v
  keep : ∀ i h h',tn i h->(∀ b∈fp,∀ o,h.get? b = some o->h'.get? b = some o)->tn i h'
  item : ∀ (X : Cx),X.prog = P->X.w = w->X.K = K->X.calm = true->∀ (i : Nat) (pins : List (Addr × Obj)) (s : Shared) (σ : St) (H : Hp) (E : Value->Shared->Prop),Inv X pins σ H s->(∀ b∈fp,lR X pins H b)->tn i s.heap->J.go i H ->
    wpAny (model P w) X.A (pyNext (.ref it)) (fun r s1=>∃ u,r = some u /\
      wpAny (model P w) X.A (letOwnedTupleGo tg (.ref it) u) (fun _ s2=>∃ x H',Inv X pins σ H' s2/\bo x u/\J.yld i H x H'/\tn (i + 1) s2.heap/\∀ b∈fp,H' b = none) E s1) E s
  done : ∀ (X : Cx),X.prog = P->X.w = w->X.K = K->X.calm = true->∀ (i : Nat) (pins : List (Addr × Obj)) (s : Shared) (σ : St) (H : Hp) (E : Value->Shared->Prop),Inv X pins σ H s->(∀ b∈fp,lR X pins H b)->tn i s.heap->J.stop i H ->
    wpAny (model P w) X.A (pyNext (.ref it)) (fun r s1=>r = none/\Inv X pins σ H s1) E s
  self : ∀ (A : Around) (i : Nat) (s : Shared) (Q : Value->Shared->Prop) (E : Value->Shared->Prop),tn i s.heap->Q (.ref it) s->wpAny (model P w) A (pyIter (.ref it)) Q E s
abbrev TI:=St->Hp->(It->Hp->Prop)->Prop
def PIE (X : Cx) (pins : List (Addr × Obj)) (σ : St) (tg : Expr) (R : It->Hp->Prop) (itv : Value) (s2 : Shared) : Prop :=
  ∃ (it : Addr) (fp : List Addr) (tn : Nat->Heap->Prop) (J : It) (H' : Hp),itv = .ref it/\Inv X pins σ H' s2/\yx X.prog X.w X.K tg J fp it tn/\tn 0 s2.heap/\(∀ b∈fp,lR X pins H' b)/\R J H'
def PI (X : Cx) (tg iter : Expr) (wi : TI) : Prop :=
  ∀ (pins : List (Addr × Obj)) (s : Shared) (σ : St) (H : Hp) (R : It->Hp->Prop),Inv X pins σ H s->wi σ H R ->
    wpAny (model X.prog X.w) X.A (eval iter X.env) (fun v s1=>wpAny (model X.prog X.w) X.A (pyIter v) (PIE X pins σ tg R) X.xe s1) X.xe s
theorem Bp {M : Model} {A : Around} {E : Value->Shared->Prop} {s : Shared} {tg : Expr} {it : Addr} {u : Value} {o : Obj} {n : String} {vs : Array Value} {Q : Unit->Shared->Prop} (ho : s.heap.get? it = some o) (hc : o.cls = .type n) (hd : o.data = .fields vs)
    (hn : ["enumerate","zip","dict_itemiterator","dict_reverseitemiterator","odict_iterator","itertools.zip_longest","itertools.pairwise"].contains n = false) (hQ : Q () s) : wpAny M A (letOwnedTupleGo tg (.ref it) u) Q E s:=by
  unfold letOwnedTupleGo
  cases tg<;>first
    | exact wpAny_pure hQ
    | (cases u<;>first
        | exact wpAny_pure hQ
        | (refine wpAny_bind (wpAny_load ho ?_)
           rw [hc,hd]
           show wpAny M A (if (["enumerate","zip","dict_itemiterator","dict_reverseitemiterator","odict_iterator","itertools.zip_longest","itertools.pairwise"].contains n && vs[0]? == some (rawInt _)) = true then _ else _) Q E s
           rw [if_neg (by intro h;rw [hn,Bool.false_and] at h;cases h)]
           exact wpAny_pure hQ))
def Itl (K : PySem.W.Frag) (a : Addr) : It :=
  ⟨fun i H=>∃ xs x,SqL K H a xs/\xs[i]? = some x,fun i H x H'=>H' = H/\∀ xs,SqL K H a xs->xs[i]? = some x,fun i H=>∃ xs,SqL K H a xs/\xs.length<=i⟩
def Itt (K : PySem.W.Frag) (a : Addr) : It :=
  ⟨fun i H=>∃ xs x,SqT K H a xs/\xs[i]? = some x,fun i H x H'=>H' = H/\∀ xs,SqT K H a xs->xs[i]? = some x,fun i H=>∃ xs,SqT K H a xs/\xs.length<=i⟩
def Itr (lo : Int) (n : Nat) : It:=⟨fun i _=>i < n,fun i H x H'=>H' = H/\x = .int (lo + i),fun i _=>n<=i⟩
theorem B3 {P : Program} {w : World} {K : PySem.W.Frag} {tg : Expr} (a it : Addr) : yx P w K tg (Itl K a) [it] it (fun i h=>h.IsListIter it a i) where
  mem:=by simp
  obj:=fun i h st b hb=>by
    have e : b = it:=by simpa using hb
    subst e
    obtain ⟨o,e,c,d⟩:=st
    exact ⟨o,e,fun v z=>by rw [d] at z;cases z⟩
  keep:=fun i h h' st k=>st.at fun o e=>k it (by simp) o e
  item:=by
    intro X hP hw hK hc i pins s σ H E I hf st hg
    subst hP hw hK
    obtain ⟨xs,x,hq,hx⟩:=hg
    obtain ⟨its,rv,p,hz⟩:=I.list hq
    obtain ⟨u,hu,ru⟩:=rv.get hx
    obtain ⟨f0,f1,f2,f3,f4,f5⟩:=hf it (by simp)
    refine wpAny_pyNext_list_item st p.isList (x:=u) (by simpa using hu) fun h' st' sb=>?_
    have I1 : Inv X pins σ H { s with heap:=h' }:=I.turned (t':=s.toks) (fun b o hb e=>(sb.2 b hb).trans e) f0 f1 f3 f4 f5
    obtain ⟨o,e,c,d⟩:=id st'
    exact ⟨u,rfl,Bp (s:={ s with heap:=h' }) e c d (by decide) ⟨x,H,I1,ru,⟨rfl,fun ys hy=>by rw [I.list_inj hy hq];exact hx⟩,st',fun b hb=>(hf b hb).1⟩⟩
  done:=by
    intro X hP hw hK hc i pins s σ H E I hf st hg
    subst hP hw hK
    obtain ⟨xs,hq,hx⟩:=hg
    obtain ⟨its,rv,p,hz⟩:=I.list hq
    obtain ⟨f0,f1,f2,f3,f4,f5⟩:=hf it (by simp)
    have hl:=rv.length
    exact wpAny_pyNext_list_end (I.ok.hd hc) st p.isList (by simp;omega) fun h' eb=>⟨rfl,I.turned (t':=s.toks) (fun b o hb e=>eb b o hb e) f0 f1 f3 f4 f5⟩
  self:=fun _ _ _ _ _ st h=>wpAny_pyIter_listiter st h
theorem zh {P : Program} {w : World} {K : PySem.W.Frag} {tg : Expr} (a it : Addr) : yx P w K tg (Itt K a) [it] it (fun i h=>h.IsTupleIter it a i) where
  mem:=by simp
  obj:=fun i h st b hb=>by
    have e : b = it:=by simpa using hb
    subst e
    obtain ⟨o,e,c,d⟩:=st
    exact ⟨o,e,fun v z=>by rw [d] at z;cases z⟩
  keep:=fun i h h' st k=>st.at fun o e=>k it (by simp) o e
  item:=by
    intro X hP hw hK hc i pins s σ H E I hf st hg
    subst hP hw hK
    obtain ⟨xs,x,hq,hx⟩:=hg
    obtain ⟨its,rv,p,hz⟩:=I.tuple hq
    obtain ⟨u,hu,ru⟩:=rv.get hx
    obtain ⟨f0,f1,f2,f3,f4,f5⟩:=hf it (by simp)
    refine wpAny_pyNext_tuple_item st (show s.heap.IsTuple a its.toArray from p) (x:=u) (by simpa using hu) fun h' st' sb=>?_
    have I1 : Inv X pins σ H { s with heap:=h' }:=I.turned (t':=s.toks) (fun b o hb e=>(sb.2 b hb).trans e) f0 f1 f3 f4 f5
    obtain ⟨o,e,c,d⟩:=id st'
    exact ⟨u,rfl,Bp (s:={ s with heap:=h' }) e c d (by decide) ⟨x,H,I1,ru,⟨rfl,fun ys hy=>by rw [I.tuple_inj hy hq];exact hx⟩,st',fun b hb=>(hf b hb).1⟩⟩
  done:=by
    intro X hP hw hK hc i pins s σ H E I hf st hg
    subst hP hw hK
    obtain ⟨xs,hq,hx⟩:=hg
    obtain ⟨its,rv,p,hz⟩:=I.tuple hq
    obtain ⟨f0,f1,f2,f3,f4,f5⟩:=hf it (by simp)
    have hl:=rv.length
    exact wpAny_pyNext_tuple_end (I.ok.hd hc) st (show s.heap.IsTuple a its.toArray from p) (by simp;omega) fun h' eb=>⟨rfl,I.turned (t':=s.toks) (fun b o hb e=>eb b o hb e) f0 f1 f3 f4 f5⟩
  self:=fun _ _ _ _ _ st h=>wpAny_pyIter_tupleiter st h
theorem zG {P : Program} {w : World} {K : PySem.W.Frag} {tg : Expr} (it : Addr) (lo : Int) (n : Nat) : yx P w K tg (Itr lo n) [it] it (fun i h=>IsRangeIter h it (lo + (i : Nat) * 1) ((n : Int) - (i : Nat)) 1) where
  mem:=by simp
  obj:=fun i h st b hb=>by
    have e : b = it:=by simpa using hb
    subst e
    exact ⟨_,st,fun v z=>by
      have z' : Data.fields _ = Data.cell v:=z
      cases z'⟩
  keep:=fun i h h' st k=>k it (by simp) _ st
  item:=by
    intro X hP hw hK hc i pins s σ H E I hf st hg
    subst hP hw hK
    obtain ⟨f0,f1,f2,f3,f4,f5⟩:=hf it (by simp)
    have W:=Walks.range (prog:=X.prog) (w:=X.w) (I.ok.hd hc) it lo 1 n
    refine W.item i s _ _ hg st fun v h' tk hv st' kk=>?_
    obtain ⟨t,rfl⟩:=hv
    have I1 : Inv X pins σ H { s with heap:=h',toks:=tk }:=I.turned (fun b o hb e=>kk b o (by simpa using hb) e) f0 f1 f3 f4 f5
    refine ⟨_,rfl,Bp (s:={ s with heap:=h',toks:=tk }) (n:="range_iterator") st' rfl rfl (by decide) ⟨.int (lo + i),H,I1,⟨t,?_⟩,⟨rfl,rfl⟩,st',fun b hb=>(hf b hb).1⟩⟩
    rw [Int.mul_one]
  done:=by
    intro X hP hw hK hc i pins s σ H E I hf st hg
    subst hP hw hK
    obtain ⟨f0,f1,f2,f3,f4,f5⟩:=hf it (by simp)
    exact wpAny_pyNext_range_end (I.ok.hd hc) st (by have : n<=i:=hg;omega) fun h' eb=>⟨rfl,I.turned (t':=s.toks) (fun b o hb e=>eb b o hb e) f0 f1 f3 f4 f5⟩
  self:=fun _ _ _ _ _ st h=>wpAny_pyIter_rangeiter st h
section
variable {X : Cx} {tg : Expr}
theorem DD {pins : List (Addr × Obj)} {σ : St} {H : Hp} {s : Shared} {R : It->Hp->Prop} {E : Value->Shared->Prop} {lo hi : Int} {t u v : Tok} {tk : Nat} (I : Inv X pins σ H s) (h1 : -(2 ^ 62)<=lo) (h2 : lo < 2 ^ 62) (h3 : -(2 ^ 62)<=hi) (h4 : hi < 2 ^ 62)
    (q : R (Itr lo (hi - lo).toNat) H) : wpAny (model X.prog X.w) X.A (pyIter (.ref s.heap.objs.size)) (PIE X pins σ tg R) E { s with heap:=s.heap.push { cls:=.type "range",data:=.fields #[.int lo t,.int hi u,.int 1 v] },toks:=tk }:=by
  refine wpAny_pyIter_range (IsRange.new ..) (small_one h1 h2 h3 h4) ?_
  have I1 : Inv X pins σ H { s with heap:=s.heap.push { cls:=.type "range",data:=.fields #[.int lo t,.int hi u,.int 1 v] },toks:=tk }:=I.kept fun b o e=>Heap.get?_push_of_some _ e
  refine ⟨(s.heap.push { cls:=.type "range",data:=.fields #[.int lo t,.int hi u,.int 1 v] }).objs.size,[(s.heap.push { cls:=.type "range",data:=.fields #[.int lo t,.int hi u,.int 1 v] }).objs.size],_,_,H,rfl,
    I1.kept (t':=tk) fun b o e=>Heap.get?_push_of_some _ e,zG _ lo (hi - lo).toNat,?_,fun b hb=>?_,q⟩
  · have e1 : lo + ((0 : Nat) : Int) * 1 = lo:=by simp
    have e2 : (((hi - lo).toNat : Nat) : Int) - ((0 : Nat) : Int) = Builtin.Range.rangeSize lo hi 1:=by rw [rangeSize_one];split<;>omega
    show IsRangeIter _ _ (lo + ((0 : Nat) : Int) * 1) ((((hi - lo).toNat : Nat) : Int) - ((0 : Nat) : Int)) 1
    rw [e1,e2]
    exact Heap.get?_push_size _ rfl
  · have e : b = (s.heap.push { cls:=.type "range",data:=.fields #[.int lo t,.int hi u,.int 1 v] }).objs.size:=by simpa using hb
    subst e
    exact I1.fpOk (Nat.le_refl _) (I1.hok.fresh (Nat.le_refl _))
def G0 (ta : TA) : TI:=fun σ H R=>ta σ H fun vs H1=>∃ j : Int,vs = [.int j]/\-(2 ^ 62)<=j/\j < 2 ^ 62/\R (Itr 0 j.toNat) H1
theorem oW {a : Expr} {ta : TA} {p pos : Pos} (hg : Gl X "range") (hm : X.mg "range" = none) (ha : PA X [a] ta) (hs : starEach [a] X.env = [(false,eval a X.env)]:=by rfl) : PI X tg (.Call (.Name "range" p) [a] [] pos) (G0 ta):=by
  intro pins s σ H R I h
  refine Call_ (pf I hg hm boot_range (PyProof.Rows.callWith_type1 (thn (ha pos pins s σ H _ I h) fun us s1 ⟨vs,H1,I1,r1,q1⟩=>?_) hs rfl))
  obtain ⟨j,e,q1,q2,q⟩:=q1
  subst e
  cases r1 with
  | cons r rr =>
    cases rr
    obtain ⟨t,rfl⟩:=r
    exact call_range_1 (DD I1 (by omega) (by omega) q1 q2 (by simpa using q))
def H9 (wi : TI) (g : TG) (tb : TS) : TS:=fun D σ H=>wi σ H fun J H1=>∃ W : Nat->Nat->St->Hp->Prop,(∃ m,W 0 m σ H1)/\∀ i m σ H,W i m σ H ->
  (J.stop i H/\D.nx σ H)\/(J.go i H/\∃ N : St->Hp->Prop,(∀ σ' H',N σ' H'->∃ m',m' < m/\W (i + 1) m' σ' H')/\∀ x H',J.yld i H x H'->g x σ H' fun σ2 H2=>tb { D with nx:=N,ct:=N,bk:=D.nx } σ2 H2)
def qY (fp : List Addr) (h : Heap) : List (Addr × Obj):=fp.filterMap fun b=>(h.get? b).map fun o=>(b,o)
theorem ja {fp : List Addr} {h : Heap} {b : Addr} {o : Obj} (hb : b∈fp) (e : h.get? b = some o) : (b,o)∈qY fp h:=List.mem_filterMap.mpr ⟨b,hb,by rw [e];rfl⟩
theorem BK {fp : List Addr} {h : Heap} {p : Addr × Obj} (hp : p∈qY fp h) : p.1∈fp/\h.get? p.1 = some p.2:=by
  obtain ⟨b,hb,e⟩:=List.mem_filterMap.mp hp
  cases q : h.get? b with
  | none=>rw [q] at e;cases e
  | some o =>
    rw [q] at e
    have e' : (b,o) = p:=Option.some.inj e
    subst e'
    exact ⟨hb,q⟩
theorem Inv.pinned {pins : List (Addr × Obj)} {σ : St} {H : Hp} {s : Shared} {fp : List Addr} (I : Inv X pins σ H s) (hf : ∀ b∈fp,lR X pins H b) (ho : ∀ b∈fp,∃ o,s.heap.get? b = some o/\∀ v,o.data≠.cell v) : Inv X (pins ++ qY fp s.heap) σ H s :=
  I.pins_of fun p hp=>(List.mem_append.mp hp).elim (fun z=>I.pin p (List.mem_append_right _ z)) fun z=>by
    obtain ⟨hb,e⟩:=BK z
    obtain ⟨f0,f1,f2,_⟩:=hf p.1 hb
    obtain ⟨o,e',d⟩:=ho p.1 hb
    rw [e] at e';cases e'
    exact ⟨e,f0,f1,f2,d⟩
theorem Inv.unpinned {pins pl : List (Addr × Obj)} {σ : St} {H : Hp} {s : Shared} (I : Inv X (pins ++ pl) σ H s) : Inv X pins σ H s:=I.pins_of fun p hp=>I.pin p (List.mem_append_right _ (List.mem_append_left _ hp))
theorem gp {iter : Expr} {body : List Stmt} {wi : TI} {g : TG} {tb : TS} {pos : Pos} (hp : PassesOwn (model X.prog X.w) X.A X.env X.xe) (hc : X.calm = true) (hi : PI X tg iter wi) (hg : PG X tg g) (hb : PSs X body tb)
    (hs : ∀ x,foldedSetIterable iter X.env x = pure x:=by intro _;rfl) : PS X (.For tg iter body [] pos) (H9 wi g tb):=.mk <| by
  intro pins s σ H D I h
  refine wpAny_For (thn (hi pins s σ H _ I h) fun v s1 h1=>thn h1 fun itv s2 h2=>?_) hs
  obtain ⟨it,fp,tn,J,H2,e,I2,T,st2,f2,W,⟨m0,w0⟩,turn⟩:=h2
  subst e
  have stat : ∀ {H' : Hp},(∀ b∈fp,H' b = none)->∀ b∈fp,lR X pins H' b:=fun hn b hb=>⟨hn b hb,(f2 b hb).2⟩
  refine codeAny_forLoop_any (fun n s'=>∃ i σ' H',Inv X pins σ' H' s'/\tn i s'.heap/\(∀ b∈fp,H' b = none)/\W i n σ' H') ?_ m0 ⟨0,σ,H2,I2,st2,fun b hb=>(f2 b hb).1,w0⟩
  rintro n s3 ⟨i,σ3,H3,I3,st3,fr3,w3⟩
  rcases turn i n σ3 H3 w3 with ⟨stop,qn⟩ | ⟨go,N,hN,step⟩
  · refine wpAny_passesOwn hp (thn (T.done X rfl rfl rfl hc i pins s3 σ3 H3 X.xe I3 (stat fr3) st3 stop) fun r s4 ⟨hr,I4⟩=>?_)
    subst hr
    exact wpAny_execs_nil ⟨σ3,H3,I4,qn⟩
  · refine wpAny_passesOwn hp (thn (T.item X rfl rfl rfl hc i pins s3 σ3 H3 X.xe I3 (stat fr3) st3 go) fun r s4 ⟨u,hr,h4⟩=>?_)
    subst hr
    refine wpAny_passesOwn hp (thn h4 fun _ s5 ⟨x,H5,I5,r5,y5,st5,fr5⟩=>?_)
    have I5':=I5.pinned (stat fr5) (T.obj _ _ st5)
    refine wpAny_passesOwn hp (thn (hg _ s5 σ3 H5 x u _ I5' r5 (step x H5 y5)) fun _ s6 ⟨σ6,H6,I6,q6⟩=>?_)
    refine wpAny_passesOwn hp (thn (hb _ s6 σ6 H6 _ I6 q6) fun f s7 q7=>?_)
    have again : ∀ {σ7 : St} {H7 : Hp},Inv X (pins ++ qY fp s5.heap) σ7 H7 s7->N σ7 H7->∃ m,m < n/\∃ i σ' H',Inv X pins σ' H' s7/\tn i s7.heap/\(∀ b∈fp,H' b = none)/\W i m σ' H':=fun {σ7 H7} I7 n7=>by
      obtain ⟨m',hm,w7⟩:=hN σ7 H7 n7
      refine ⟨m',hm,i + 1,σ7,H7,I7.unpinned,T.keep _ _ _ st5 fun b hb o e=>(I7.pin (b,o) (List.mem_append_right _ (List.mem_append_right _ (ja hb e)))).1,fun b hb=>?_,w7⟩
      obtain ⟨o,e,d⟩:=T.obj _ _ st5 b hb
      exact (I7.pin (b,o) (List.mem_append_right _ (List.mem_append_right _ (ja hb e)))).2.1
    cases f with
    | next=>obtain ⟨σ7,H7,I7,n7⟩:=q7;exact again I7 n7
    | cont=>obtain ⟨σ7,H7,I7,n7⟩:=q7;exact again I7 n7
    | brk=>obtain ⟨σ7,H7,I7,q7⟩:=q7;exact ⟨σ7,H7,I7.unpinned,q7⟩
    | ret v=>obtain ⟨x7,σ7,H7,I7,r7,q7⟩:=q7;exact ⟨x7,σ7,H7,I7.unpinned,r7,q7⟩
end
abbrev R2:=V->V->Hp->VK->Prop
def OpR (X : Cx) (f : Value->Value->Sem Value) (r : R2) : Prop :=
  ∀ (pins : List (Addr × Obj)) (s : Shared) (σ : St) (H : Hp) (x y : V) (v u : Value) (Q : VK),Inv X pins σ H s->bo x v->bo y u->r x y H Q ->
    wpAny (model X.prog X.w) X.A (f v u) (EP X pins σ Q) X.xe s
def UnR (X : Cx) (f : Value->Sem Value) (r : V->Hp->VK->Prop) : Prop :=
  ∀ (pins : List (Addr × Obj)) (s : Shared) (σ : St) (H : Hp) (x : V) (v : Value) (Q : VK),Inv X pins σ H s->bo x v->r x H Q ->
    wpAny (model X.prog X.w) X.A (f v) (EP X pins σ Q) X.xe s
def lU (X : Cx) (f : Value) (r : List V->Hp->VK->Prop) : Prop :=
  ∀ (pins : List (Addr × Obj)) (s : Shared) (σ : St) (H : Hp) (xs : List V) (us : List Value) (Q : VK),Inv X pins σ H s->ba xs us->r xs H Q ->
    wpAny (model X.prog X.w) X.A (call f us) (EP X pins σ Q) X.xe s
def KG (X : Cx) (r : V->Hp->(Bool->Hp->Prop)->Prop) : Prop :=
  ∀ (pins : List (Addr × Obj)) (s : Shared) (σ : St) (H : Hp) (x : V) (v : Value) (Q : Bool->Hp->Prop),Inv X pins σ H s->bo x v->r x H Q ->
    wpAny (model X.prog X.w) X.A (truthy v) (TP X pins σ Q) X.xe s
def tOp (r : R2) (ta tb : TE) : TE:=fun σ H Q=>ta σ H fun x H1=>tb σ H1 fun y H2=>r x y H2 Q
def tUn (r : V->Hp->VK->Prop) (ta : TE) : TE:=fun σ H Q=>ta σ H fun x H1=>r x H1 Q
def rI (C : Int->Int->Prop) (g : Int->Int->V) : R2:=fun x y H Q=>∃ i j,x = .int i/\y = .int j/\C i j/\Q (g i j) H
def rI0 (g : Int->Int->V) : R2:=fun x y H Q=>∃ i j,x = .int i/\y = .int j/\Q (g i j) H
def rU (g : Int->V) : V->Hp->VK->Prop:=fun x H Q=>∃ i,x = .int i/\Q (g i) H
section
variable {X : Cx} {a b c : Expr} {ta tb tc : TE} {pos : Pos}
theorem HV (ha : PE X a ta) (hb : PE X b tb) {pins : List (Addr × Obj)} {s : Shared} {σ : St} {H : Hp} {R : V->V->Hp->Prop} (I : Inv X pins σ H s)
    (h : ta σ H fun x H1=>tb σ H1 fun y H2=>R x y H2) {Q : Value->Shared->Prop} {f : Value->Value->Sem Value}
    (hf : ∀ v u s2 x y H2,Inv X pins σ H2 s2->bo x v->bo y u->R x y H2->wpAny (model X.prog X.w) X.A (f v u) Q X.xe s2) :
    wpAny (model X.prog X.w) X.A (eval a X.env) (fun v s₁=>wpAny (model X.prog X.w) X.A (eval b X.env) (fun u s₂=>wpAny (model X.prog X.w) X.A (f v u) Q X.xe s₂) X.xe s₁) X.xe s:=by
  refine thn (ha pins s σ H _ I h) fun v s1 ⟨x,H1,I1,r1,q1⟩=>?_
  refine thn (hb pins s1 σ H1 _ I1 q1) fun u s2 ⟨y,H2,I2,r2,q2⟩=>?_
  exact hf v u s2 x y H2 I2 r1 r2 q2
theorem bb {op : Operator} {r : R2} (ho : OpR X (binaryOp op) r) (ha : PE X a ta) (hb : PE X b tb) : PE X (.BinOp a op b pos) (tOp r ta tb):=.mk <| by
  intro pins s σ H Q I h
  exact wpAny_BinOp (HV ha hb I h fun v u s2 x y H2 I2 rx ry q=>ho pins s2 σ H2 x y v u Q I2 rx ry q)
theorem wZ {op : UnaryOp} {r : V->Hp->VK->Prop} (ho : UnR X (unaryOp op) r) (ha : PE X a ta) : PE X (.UnaryOp op a pos) (tUn r ta):=.mk <| by
  intro pins s σ H Q I h
  exact UnaryOp_ (thn (ha pins s σ H _ I h) fun v s1 ⟨x,H1,I1,r1,q1⟩=>ho pins s1 σ H1 x v Q I1 r1 q1)
theorem opI {f : Value->Value->Sem Value} {C : Int->Int->Prop} {g : Int->Int->Int}
    (rule : ∀ (i j : Int) (t u : Tok) (s : Shared) (Q : Value->Shared->Prop) (E : Value->Shared->Prop),C i j->Q (.int (g i j) s.toks) { s with toks:=s.toks + 1 }->wpAny (model X.prog X.w) X.A (f (.int i t) (.int j u)) Q E s) :
    OpR X f (rI C fun i j=>.int (g i j)):=by
  intro pins s σ H x y v u Q I rx ry h
  obtain ⟨i,j,rfl,rfl,hc,q⟩:=h
  obtain ⟨t,rfl⟩:=rx
  obtain ⟨t',rfl⟩:=ry
  exact rule i j t t' s _ _ hc ⟨.int (g i j),H,I.tok _,⟨_,rfl⟩,q⟩
theorem Jo {f : Value->Value->Sem Value} {g : Int->Int->Int}
    (rule : ∀ (i j : Int) (t u : Tok) (s : Shared) (Q : Value->Shared->Prop) (E : Value->Shared->Prop),Q (.int (g i j) s.toks) { s with toks:=s.toks + 1 }->wpAny (model X.prog X.w) X.A (f (.int i t) (.int j u)) Q E s) :
    OpR X f (rI0 fun i j=>.int (g i j)):=by
  intro pins s σ H x y v u Q I rx ry h
  obtain ⟨i,j,rfl,rfl,q⟩:=h
  obtain ⟨t,rfl⟩:=rx
  obtain ⟨t',rfl⟩:=ry
  exact rule i j t t' s _ _ ⟨.int (g i j),H,I.tok _,⟨_,rfl⟩,q⟩
theorem F8 {f : Value->Value->Sem Value} {g : Int->Int->Bool}
    (rule : ∀ (i j : Int) (t u : Tok) (s : Shared) (Q : Value->Shared->Prop) (E : Value->Shared->Prop),Q (.bool (g i j)) s->wpAny (model X.prog X.w) X.A (f (.int i t) (.int j u)) Q E s) :
    OpR X f (rI0 fun i j=>.bl (g i j)):=by
  intro pins s σ H x y v u Q I rx ry h
  obtain ⟨i,j,rfl,rfl,q⟩:=h
  obtain ⟨t,rfl⟩:=rx
  obtain ⟨t',rfl⟩:=ry
  exact rule i j t t' s _ _ ⟨.bl (g i j),H,I,rfl,q⟩
def KF (i j : Int) : Prop:=0 < j/\j < 1073741824
def Kg (i j : Int) : Prop:=0<=j/\j<=1000000/\i.natAbs < 2 ^ 64
def tm (i j : Int) : Prop:=(-(2 ^ 64) < i/\i < 2 ^ 64)\/(-(2 ^ 64) < j/\j < 2 ^ 64)
theorem tm.ok {i j : Int} (h : tm i j) : IntMulOk i j:=by
  rcases h with ⟨h1,h2⟩ | ⟨h1,h2⟩
  · exact .of_left (intBits_le_64 h1 h2)
  · exact .of_right (intBits_le_64 h1 h2)
theorem cH : OpR X (binaryOp .Add) (rI0 fun i j=>.int (i + j)):=Jo fun _ _ _ _ _ _ _ q=>add_int q
theorem kJ : OpR X (binaryOp .Sub) (rI0 fun i j=>.int (i - j)):=Jo fun _ _ _ _ _ _ _ q=>sub_int q
theorem oR : OpR X (binaryOp .Mult) (rI tm fun i j=>.int (i * j)):=opI fun _ _ _ _ _ _ _ hc q=>mul_int q hc.ok
theorem lj : OpR X (binaryOp .FloorDiv) (rI KF fun i j=>.int (i / j)):=opI fun i j _ _ _ _ _ hc q=>by
  have h1 : (0 : Int) < j:=hc.1
  have h2 : j < 1073741824:=hc.2
  exact floordiv_int (by omega) (by rw [Int.fdiv_eq_ediv_of_nonneg i (by omega)];exact q) (.inl (PyProof.noPylong_small (by omega)))
theorem iS : OpR X (binaryOp .Mod) (rI (fun _ j=>0 < j) fun i j=>.int (i % j)):=opI fun i j _ _ _ _ _ hc q=>by
  have h1 : (0 : Int) < j:=hc
  exact mod_int' (by omega) (by rw [Int.fmod_eq_emod_of_nonneg i (by omega)];exact q)
theorem Iz : OpR X (binaryOp .Pow) (rI Kg fun i j=>.int (i ^ j.toNat)):=opI fun _ _ _ _ _ _ _ hc q=>pow_int_small hc.1 hc.2.1 hc.2.2 q
theorem zK : OpR X (binaryOp .LShift) (rI Kg fun i j=>.int (i * 2 ^ j.toNat)):=opI fun _ _ _ _ _ _ _ hc q=>lshift_int_small hc.1 hc.2.1 hc.2.2 q
theorem IT : OpR X (binaryOp .BitAnd) (rI0 fun i j=>.int (Builtin.bitAnd i j)):=Jo fun _ _ _ _ _ _ _ q=>and_int q
theorem unI {f : Value->Sem Value} {g : Int->Int}
    (rule : ∀ (i : Int) (t : Tok) (s : Shared) (Q : Value->Shared->Prop) (E : Value->Shared->Prop),Q (.int (g i) s.toks) { s with toks:=s.toks + 1 }->wpAny (model X.prog X.w) X.A (f (.int i t)) Q E s) :
    UnR X f (rU fun i=>.int (g i)):=by
  intro pins s σ H x v Q I rx h
  obtain ⟨i,rfl,q⟩:=h
  obtain ⟨t,rfl⟩:=rx
  exact rule i t s _ _ ⟨.int (g i),H,I.tok _,⟨_,rfl⟩,q⟩
theorem rC : UnR X (unaryOp .USub) (rU fun i=>.int (-i)):=unI fun _ _ _ _ _ q=>neg_int q
end
section
variable {X : Cx} {a b c : Expr} {ta tb tc : TE} {pos : Pos}
theorem DN {pins : List (Addr × Obj)} {σ : St} {H : Hp} {s : Shared} {Q : VK} {k k' : Bool} (I : Inv X pins σ H s) (q : Q (.bl k) H) (e : k = k') : EP X pins σ Q (.bool k') s:=by
  subst e
  exact ⟨.bl k,H,I,rfl,q⟩
theorem Hh : OpR X (compareOp .Lt) (rI0 fun i j=>.bl (decide (i < j))):=F8 fun _ _ _ _ _ _ _ q=>lt_int q
theorem Hg : OpR X (compareOp .LtE) (rI0 fun i j=>.bl (decide (i<=j))):=F8 fun _ _ _ _ _ _ _ q=>le_int q
theorem j3 : OpR X (compareOp .Gt) (rI0 fun i j=>.bl (decide (j < i))):=F8 fun _ _ _ _ _ _ _ q=>gt_int q
theorem JK : OpR X (compareOp .GtE) (rI0 fun i j=>.bl (decide (j<=i))):=F8 fun _ _ _ _ _ _ _ q=>ge_int q
theorem DL : OpR X (compareOp .Is) (fun x y H Q=>y = .non/\Q (.bl (decide (x = .non))) H):=by
  intro pins s σ H x y v u Q I rx ry h
  obtain ⟨rfl,q⟩:=h
  cases ry
  refine is_none_gen (DN I q ?_)
  cases x<;>first
    | (cases rx;rfl)
    | (obtain ⟨t,rfl⟩:=rx;rfl)
theorem aK (b : Expr) {op : CmpOp} (h : op≠.In:=by decide) (h2 : op≠.NotIn:=by decide) : behindInMarks op b = false:=by
  have e1 : (op == CmpOp.In) = false:=by cases op<;>first | rfl | exact absurd rfl h
  have e2 : (op == CmpOp.NotIn) = false:=by cases op<;>first | rfl | exact absurd rfl h2
  cases b<;>simp [behindInMarks,e1,e2]
theorem cr {op : CmpOp} {r : R2} (ho : OpR X (compareOp op) r) (ha : PE X a ta) (hb : PE X b tb) (hm : behindInMarks op b = false) : PE X (.Compare a [op] [b] pos) (tOp r ta tb):=.mk <| by
  intro pins s σ H Q I h
  exact wpAny_Compare1 (HV ha hb I h fun v u s2 x y H2 I2 rx ry q=>ho pins s2 σ H2 x y v u Q I2 rx ry q) hm
def Hm (t : TE) : TT:=fun σ H Q=>t σ H fun x H'=>∃ k,x = .bl k/\Q k H'
theorem aE {op : CmpOp} {r : R2} (ho : OpR X (compareOp op) r) (ha : PE X a ta) (hb : PE X b tb) (hm : behindInMarks op b = false) : PT X (.Compare a [op] [b] pos) (Hm (tOp r ta tb)):=by
  intro pins s σ H Q I h
  refine wpAny_isTrue_Compare1 (thn (ha pins s σ H _ I h) fun v s1 ⟨x,H1,I1,r1,q1⟩=>thn (hb pins s1 σ H1 _ I1 q1) fun u s2 ⟨y,H2,I2,r2,q2⟩ =>
    thn (ho pins s2 σ H2 x y v u _ I2 r1 r2 q2) fun c s3 ⟨z,H3,I3,r3,k,e,q3⟩=>?_) hm
  subst e
  cases r3
  exact wpAny_truthy_bool ⟨H3,I3,q3⟩
def w6 (K : PySem.W.Frag) (x : V) (H : Hp) (k : Bool) : Prop :=
  match x with
  | .non=>k = false
  | .bl b=>k = b
  | .int i=>k = (i != 0)
  | .str y=>y.length<=sizeLine/\k = ((y.length : Int) != 0)
  | .byt y=>y.size<=sizeLine/\k = ((y.size : Int) != 0)
  | .ref p=>(∃ xs,SqL K H p xs/\k = !xs.isEmpty)\/(∃ xs,SqT K H p xs/\k = !xs.isEmpty)\/∃ kvs,H p = some (.dK kvs)/\k = !kvs.isEmpty
  | _=>False
theorem yS {κ : Type} {kvs : List (κ × V)} {vs : List (κ × Value)} (r : KV kvs vs) : (!vs.isEmpty) = !kvs.isEmpty:=by
  cases r<;>rfl
theorem qN {xs : List V} {its : List Value} (r : ba xs its) : (!its.toArray.isEmpty) = !xs.isEmpty:=by
  cases r<;>simp
theorem rN : (sizeLine : Nat) < 2 ^ 63:=by rw [sizeLine_eq];decide
theorem yE : KG X (fun x H Q=>∃ k,w6 X.K x H k/\Q k H):=by
  intro pins s σ H x v Q I rx h
  obtain ⟨k,e,q⟩:=h
  have hl:=rN
  have hs : sizeLine = 16777216:=sizeLine_eq
  cases x with
  | non =>
    cases rx
    have e' : k = false:=e
    subst e'
    exact truthy_none ⟨H,I,q⟩
  | bl b =>
    cases rx
    have e' : k = b:=e
    subst e'
    exact wpAny_truthy_bool ⟨H,I,q⟩
  | int i =>
    obtain ⟨t,rfl⟩:=rx
    have e' : k = (i != 0):=e
    subst e'
    exact PySem.P.truthy_int ⟨H,I,q⟩
  | str y =>
    obtain ⟨t,rfl⟩:=rx
    obtain ⟨hy,e'⟩ : y.length<=sizeLine/\k = ((y.length : Int) != 0):=e
    subst e'
    exact PySem.P.truthy_str (by omega) ⟨H,I.tok _,q⟩
  | byt y =>
    obtain ⟨t,rfl⟩:=rx
    obtain ⟨hy,e'⟩ : y.size<=sizeLine/\k = ((y.size : Int) != 0):=e
    subst e'
    exact PySem.W.truthy_bytes (by omega) ⟨H,I.tok _,q⟩
  | ref p =>
    cases rx
    have e' : (∃ xs,SqL X.K H p xs/\k = !xs.isEmpty)\/(∃ xs,SqT X.K H p xs/\k = !xs.isEmpty)\/∃ kvs,H p = some (.dK kvs)/\k = !kvs.isEmpty:=e
    rcases e' with ⟨xs,hx,e'⟩ | ⟨xs,hx,e'⟩ | ⟨kvs,hx,e'⟩
    · subst e'
      obtain ⟨its,r,pl,hz⟩:=I.list hx
      have hlen:=r.length
      exact wpAny_truthy_list pl.isList (by simp only [List.size_toArray];omega) ⟨H,I.tok _,by rw [qN r];exact q⟩
    · subst e'
      obtain ⟨its,r,pl,hz⟩:=I.tuple hx
      have hlen:=r.length
      exact truthy_tuple pl (by simp only [List.size_toArray];omega) ⟨H,I.tok _,by rw [qN r];exact q⟩
    · subst e'
      obtain ⟨hz,hS,vs,r,m⟩ : kvs.length<=sizeLine/\(p == sysModules) = false/\∃ vs,KV kvs vs/\s.heap.DictOf (bx X.prog X.w) p vs:=I.hok p _ hx
      have hlen : kvs.length = vs.length:=Paired.length r
      exact wpAny_truthy_dict hS m (by omega) ⟨H,I.tok _,by rw [yS r];exact q⟩
  | _=>exact (show False from e).elim
theorem Ds (ha : PE X a ta) (he : ∀ whole,isTrue a X.env whole = (do let v ← whole;standAt a.pos;holding [v] (truthy v))) :
    PT X a (fun σ H Q=>ta σ H fun x H'=>∃ k,w6 X.K x H' k/\Q k H'):=by
  intro pins s σ H Q I h
  exact isTrue_plain (thn (ha pins s σ H _ I h) fun v s1 ⟨x,H1,I1,r1,q1⟩=>yE pins s1 σ H1 x v Q I1 r1 q1) (he _)
theorem xx {x : V} {us : List Value} (r : ba [x] us) : ∃ u,us = [u]/\bo x u:=by
  cases r with
  | cons r1 r2=>cases r2;exact ⟨_,rfl,r1⟩
theorem GX {x y : V} {us : List Value} (r : ba [x,y] us) : ∃ u w',us = [u,w']/\bo x u/\bo y w':=by
  cases r with
  | cons r1 r2 =>
    cases r2 with
    | cons r3 r4=>cases r4;exact ⟨_,_,rfl,r1,r3⟩
theorem sN : lU X (.builtin "abs") (fun xs H Q=>∃ i,xs = [.int i]/\Q (.int (if i < 0 then -i else i)) H):=by
  intro pins s σ H xs us Q I r h
  obtain ⟨i,rfl,q⟩:=h
  obtain ⟨u,rfl,t,rfl⟩:=xx r
  exact call_abs_int fun u tk=>⟨.int (if i < 0 then -i else i),H,I.tok _,⟨_,rfl⟩,q⟩
theorem oN (hc : X.calm = true) : lU X (.builtin "max") (fun xs H Q=>∃ i j,xs = [.int i,.int j]/\Q (.int (if j > i then j else i)) H):=by
  intro pins s σ H xs us Q I r h
  obtain ⟨i,j,rfl,q⟩:=h
  obtain ⟨u,w',rfl,⟨t,rfl⟩,⟨t',rfl⟩⟩:=GX r
  refine max_two_ints (I.ok.hd hc) fun h' tk k=>⟨_,H,I.kept k,?_,q⟩
  by_cases hj : j > i
  · rw [if_pos hj,if_pos hj];exact ⟨_,rfl⟩
  · rw [if_neg hj,if_neg hj];exact ⟨_,rfl⟩
theorem uG (hc : X.calm = true) : lU X (.builtin "min") (fun xs H Q=>∃ i j,xs = [.int i,.int j]/\Q (.int (if j < i then j else i)) H):=by
  intro pins s σ H xs us Q I r h
  obtain ⟨i,j,rfl,q⟩:=h
  obtain ⟨u,w',rfl,⟨t,rfl⟩,⟨t',rfl⟩⟩:=GX r
  refine min_two_ints (I.ok.hd hc) fun h' tk k=>⟨_,H,I.kept k,?_,q⟩
  by_cases hj : j < i
  · rw [if_pos hj,if_pos hj];exact ⟨_,rfl⟩
  · rw [if_neg hj,if_neg hj];exact ⟨_,rfl⟩
theorem lu : lU X (.type "int") (fun xs H Q=>(∃ i,xs = [.int i]/\Q (.int i) H)\/∃ k,xs = [.bl k]/\Q (.int (if k then 1 else 0)) H):=by
  intro pins s σ H xs us Q I r h
  rcases h with ⟨i,rfl,q⟩ | ⟨k,rfl,q⟩
  · obtain ⟨u,rfl,t,rfl⟩:=xx r
    exact call_int_int ⟨.int i,H,I,⟨_,rfl⟩,q⟩
  · obtain ⟨u,rfl,r1⟩:=xx r
    cases r1
    exact call_int_bool ⟨.int (if k then 1 else 0),H,I.tok _,⟨_,rfl⟩,q⟩
def FY (K : PySem.W.Frag) (x : V) (H : Hp) (n : Nat) : Prop :=
  match x with
  | .str y=>y.length<=sizeLine/\n = y.length
  | .byt y=>y.size<=sizeLine/\n = y.size
  | .ref p=>(∃ xs,SqL K H p xs/\n = xs.length)\/∃ xs,SqT K H p xs/\n = xs.length
  | _=>False
theorem D1 : lU X (.builtin "len") (fun xs H Q=>∃ x n,xs = [x]/\FY X.K x H n/\Q (.int n) H):=by
  intro pins s σ H xs us Q I r h
  obtain ⟨x,n,rfl,e,q⟩:=h
  obtain ⟨u,rfl,rx⟩:=xx r
  have hl:=rN
  have hs : sizeLine = 16777216:=sizeLine_eq
  cases x with
  | str y =>
    obtain ⟨t,rfl⟩:=rx
    obtain ⟨hy,e'⟩ : y.length<=sizeLine/\n = y.length:=e
    subst e'
    exact len_str (by omega) ⟨.int _,H,I.tok _,⟨_,rfl⟩,q⟩
  | byt y =>
    obtain ⟨t,rfl⟩:=rx
    obtain ⟨hy,e'⟩ : y.size<=sizeLine/\n = y.size:=e
    subst e'
    exact PySem.W.len_bytes (by omega) ⟨.int _,H,I.tok _,⟨_,rfl⟩,q⟩
  | ref p =>
    cases rx
    have e' : (∃ xs,SqL X.K H p xs/\n = xs.length)\/∃ xs,SqT X.K H p xs/\n = xs.length:=e
    rcases e' with ⟨xs,hx,e'⟩ | ⟨xs,hx,e'⟩
    · subst e'
      obtain ⟨its,r',pl,hz⟩:=I.list hx
      have hlen:=r'.length
      exact Calls.call_len_list pl.isList (by simp only [List.size_toArray];omega) ⟨.int xs.length,H,I.tok _,⟨_,by simp only [List.size_toArray];rw [hlen]⟩,q⟩
    · subst e'
      obtain ⟨its,r',pl,hz⟩:=I.tuple hx
      have hlen:=r'.length
      exact len_tuple pl (by simp only [List.size_toArray];omega) ⟨.int xs.length,H,I.tok _,⟨_,by simp only [List.size_toArray];rw [hlen]⟩,q⟩
  | _=>exact (show False from e).elim
end
structure KZ (h : Heap) (x dx C : Addr) (mA : Str->Option Value) : Prop where
  obj : h.get? x = some (PySem.W.instObj C dx)
  ns : h.Ns1 dx mA
  ne : dx≠x
section
variable {prog : Program} {w : World} {A : Around} {E : Value->Shared->Prop} {s : Shared} {K : PySem.W.Frag} {x dx C f : Addr} {mA : Str->Option Value} {name : Str} {v : Value}
end
theorem sZ.some_of {v : V} {o : Option Value} (r : sZ (some v) o) : ∃ u,o = some u/\bo v u:=by
  cases o with
  | none=>exact (show False from r).elim
  | some u=>exact ⟨u,rfl,r⟩
section
variable {P : Program} {w : World} {H H' : Hp} {h h' : Heap} {a C dx : Addr} {fs fs' : List (Str × V)}
end
structure Cls (K : PySem.W.Frag) (C : Addr) : Prop where
  pg : PySem.W.plainGet K C Str.empty = true
  hd : PySem.W.hasDictIn K C = true
  po : PySem.W.plainOver K C = true
  sa : PySem.W.findIn K (.ref C) "__setattr__" = some (some (.builtin "object.__setattr__"))
structure Con (K : PySem.W.Frag) (C : Addr) (f : Str) (v : V) (u : Value) : Prop where
  at_ : PySem.W.findIn K (.ref C) f = some (some u)
  rel : bo v u
  get : PySem.W.specialIn K u "__get__" = some none
  cp : PySem.W.copiedNames.contains f = false
structure K0 (K : PySem.W.Frag) (C : Addr) (m : Str) (f : Addr) : Prop where
  at_ : PySem.W.findIn K (.ref C) m = some (some (.ref f))
  fn : PySem.W.isFn K (.ref f) = true
  kp : PySem.W.keepIn K (.ref f) = true
section
variable {X : Cx} {pins : List (Addr × Obj)} {σ : St} {H : Hp} {s : Shared} {a C dx : Addr} {fs : List (Str × V)} {f : Str} {v : V} {A : Around} {E : Value->Shared->Prop}
end
section
variable {X : Cx} {o e value : Expr} {f : Str} {pos pos' tpos : Pos} {ta tv : TE}
end
section
variable {X : Cx} {pins : List (Addr × Obj)} {σ : St} {H : Hp} {s : Shared} {A : Around} {E : Value->Shared->Prop} {Q : Value->Shared->Prop} {c : Value} {b : Bool}
inductive rj (K : PySem.W.Frag) (H : Hp) : V->Value->Prop where
  | non : rj K H .non (.type "NoneType")
  | bl (x : Bool) : rj K H (.bl x) (.type "bool")
  | int (i : Int) : rj K H (.int i) (.type "int")
  | str (x : Str) : rj K H (.str x) (.type "str")
  | flt (x : UInt64) : rj K H (.flt x) (.type "float")
  | lst {a : Addr} {xs : List V} (e : H a = some (.lst xs)) : rj K H (.ref a) (.type "list")
  | frz {a : Addr} {o : Obj} {xs : List V} (e : H a = some (.frz o (.lst xs))) : rj K H (.ref a) (.type "list")
  | tup {a : Addr} {xs : List V} (e : H a = some (.tup xs)) : rj K H (.ref a) (.type "tuple")
  | dK {a : Addr} {kvs : List (Key × V)} (e : H a = some (.dK kvs)) : rj K H (.ref a) (.type "dict")
  | dT {a : Addr} {kvs : List (List Key × V)} (e : H a = some (.dT kvs)) : rj K H (.ref a) (.type "dict")
  | ins {a C dx : Addr} {fs : List (Str × V)} (e : H a = some (.ins C dx fs)) (cl : Cls K C) (ha : PySem.W.findIn K (.ref C) "__class__" = some (some (.builtin "object.__class__")))
      (hn : PySem.W.specialIn K (.builtin "object.__class__") "__get__" = some (some (.builtin "getset_descriptor.__get__"))) (htk : PySem.W.takesIn K (.builtin "object.__class__") = some true)
      (hm : PySem.W.mroIn K C (.type "object") = some true) : rj K H (.ref a) (.ref C)
end
structure dN (k : Nat) (A : Around) : Prop where
  hd : A.handled = none
  dp : A.depth + 3 * k + 5 < recursionLimit
  un : A.units + 16 * k + 200 < cLine
  gd : A.guards = some []
theorem dN.mono {j k : Nat} {A : Around} (r : dN k A) (h : j<=k) : dN j A:=⟨r.hd,by have:=r.dp;omega,by have:=r.un;omega,r.gd⟩
theorem dN.deeper {k : Nat} {A : Around} (r : dN (k + 1) A) (env : Env) : dN k (A.deeper env) :=
  ⟨r.hd,by have:=r.dp;show A.depth + 1 + 3 * k + 5 < _;omega,by have:=r.un;show A.units + 3 + 16 * k + 200 < _;omega,r.gd⟩
theorem dN.depth {k : Nat} {A : Around} (r : dN k A) : A.depth < recursionLimit:=by have:=r.dp;omega
theorem dN.units {k : Nat} {A : Around} (r : dN k A) : A.units + 64 < cLine:=by have:=r.un;omega
def Et : TA:=fun _ H Q=>Q [] H
def iA (ta : TE) (tr : TA) : TA:=fun σ H Q=>ta σ H fun x H1=>tr σ H1 fun xs H2=>Q (x :: xs) H2
section
variable {X : Cx} {e : Expr} {es : List Expr} {te : TE} {t : TA} {pos : Pos}
theorem af : PA X [] Et:=.mk <| fun _ _ _ _ H Q I h=>Calls.spliced_nil ⟨[],H,I,.nil,h⟩
theorem aa (ha : PE X e te) (hr : PA X es t) (hs : starEach (e :: es) X.env = (false,eval e X.env) :: starEach es X.env:=by rfl) : PA X (e :: es) (iA te t):=.mk <| by
  intro pos pins s σ H Q I h
  rw [hs]
  show wpAny _ _ (spliced ((false,eval e X.env) :: backTo pos (starEach es X.env))) _ _ s
  refine Calls.spliced_cons (thn (ha pins s σ H _ I h) fun u s1 ⟨x,H1,I1,r1,q1⟩=>?_)
  exact thn (hr pos pins s1 σ H1 _ I1 q1) fun us s2 ⟨xs,H2,I2,r2,q2⟩=>⟨x :: xs,H2,I2,.cons r1 r2,q2⟩
def Gq (t : TA) : TE:=fun σ H Q=>t σ H fun xs H1=>xs.length<=sizeLine/\∀ p,H1 p = none->Q (.ref p) (upd H1 p (.tup xs))
def HP (t : TA) : TE:=fun σ H Q=>t σ H fun xs H1=>xs.length<=sizeLine/\∀ p,H1 p = none->Q (.ref p) (upd H1 p (.lst xs))
theorem aR {x1} (h : PA X es t) : PE X (.Tuple es x1 pos) (Gq t):=.mk <| by
  intro pins s σ H Q I hq
  refine wpAny_Tuple_spliced (thn (h pos pins s σ H _ I hq) fun us s1 ⟨xs,H1,I1,r,z,q⟩=>⟨by rw [← r.length];exact z,?_⟩)
  have hf : H1 s1.heap.objs.size = none:=I1.hok.fresh (Nat.le_refl _)
  refine ⟨.ref s1.heap.objs.size,upd H1 s1.heap.objs.size (.tup xs),I1.laid (t':=s1.toks) (fun b u e=>Heap.get?_push_of_some _ e) (Nat.le_refl _) ?_,rfl,q _ hf⟩
  exact ⟨z,us,r,⟨_,Heap.get?_push_size _ rfl,rfl,_,rfl⟩,_,Heap.get?_push_size _ rfl,rfl⟩
theorem dr (h : PA X es t) : PE X (.List es pos) (HP t):=.mk <| by
  intro pins s σ H Q I hq
  refine wpAny_List_spliced (thn (h pos pins s σ H _ I hq) fun us s1 ⟨xs,H1,I1,r,z,q⟩=>⟨by rw [← r.length];exact z,?_⟩)
  have hf : H1 s1.heap.objs.size = none:=I1.hok.fresh (Nat.le_refl _)
  refine ⟨.ref s1.heap.objs.size,upd H1 s1.heap.objs.size (.lst xs),I1.laid (t':=s1.toks) (fun b u e=>Heap.get?_push_of_some _ e) (Nat.le_refl _) ?_,rfl,q _ hf⟩
  exact ⟨z,us,0,r,Heap.get?_push_size _ rfl⟩
end
abbrev Sp:=List V->Hp->VK->XK->Prop
abbrev CXT:=List Env->Hp->Shared->XK->Value->Shared->Prop
structure zH (P : Program) (w : World) (K : PySem.W.Frag) (mg : Str->Option Value) (base : Heap) (A : Around) (outer : List Env) (s : Shared) (H : Hp) : Prop where
  frames : A.frames = some outer
  mod : Mod K mg base
  bs : ∀ b o,base.get? b = some o->s.heap.get? b = some o/\H b = none
  bsz : base.objs.size<=s.heap.objs.size
  funs : s.heap.FunFrames base outer
  frf : ∀ b∈frs outer,H b = none
  tt : BS K H
  hok : HOk P w H s.heap
  bare : AllBare s.gens
def CE (outer : List Env) (P : Program) (w : World) (H : Hp) (s : Shared) (Q : VK) (u : Value) (s' : Shared) : Prop :=
  ∃ v H',s'.os = s.os/\AllBare s'.gens/\Un (frs outer) [] H H' s.heap s'.heap/\HOk P w H' s'.heap/\bo v u/\Q v H'
def CR (CX : CXT) (outer : List Env) (P : Program) (w : World) (H : Hp) (s : Shared) (Q : VK) (E : XK) (r : Result) (s' : Shared) : Prop :=
  match r with
  | .ok (.ret u)=>CE outer P w H s Q u s'
  | .ok _=>False
  | .error e=>CX outer H s E e s'
structure aJ (P : Program) (w : World) (K : PySem.W.Frag) (mg : Str->Option Value) (base : Heap) (CX : CXT) (k : Nat) (f : Addr) (fd : FuncData) (ps : List Str) (sp : Sp) : Prop where
  len : ∀ vs H Q E,sp vs H Q E->vs.length = ps.length
  run : ∀ (A : Around) (outer : List Env) (s : Shared) (H : Hp) (args : Args) (us : List Value) (vs : List V) (Q : VK) (E : XK),dN k A->zH P w K mg base A outer s H->BindsTo s fd args (ps.zip us)->ba vs us->sp vs H Q E ->
    codeAny (model P w) A (.call (.ref f) args) (CR CX outer P w H s Q E) s
section
variable {X : Cx} {pins : List (Addr × Obj)} {σ : St} {H : Hp} {s s' : Shared}
theorem Inv.env0 (I : Inv X pins σ H s) : zH X.prog X.w X.K X.mg X.base X.A X.stack s H :=
  ⟨I.ok.frames,I.ok.mod,I.bs,Nat.le_trans I.ok.bsz I.sz,I.stack,I.stkFree,I.ok.tt.mono I.base.tbls,I.hok,I.bare⟩
theorem Inv.after {Q : VK} {u : Value} (I : Inv X pins σ H s) (h : CE X.stack X.prog X.w H s Q u s') : EP X pins σ Q u s':=by
  obtain ⟨v,H',os,bare,un,hok,r,q⟩:=h
  obtain ⟨hh,g,d,t,os'⟩:=s'
  obtain rfl : os' = s.os:=os
  exact ⟨v,H',I.call (h':=hh) (g':=g) (d':=d) (t':=t) (ch:=[]) un hok bare (fun b z=>absurd z (by simp)),r,q⟩
end
def AJ (sp : Sp) (dvs : List V) (E : XK) (t : TA) : TE:=fun σ H Q=>t σ H fun vs H1=>sp (vs ++ dvs) H1 Q E
def a7 (K : PySem.W.Frag) (fd : FuncData) (ps : List Str) (ds : List Value) : Prop :=
  ∀ (s : Shared) (us : List Value),K.In s.heap->(us ++ ds).length = ps.length->BindsTo s fd ⟨us,[]⟩ (ps.zip (us ++ ds))
theorem a7.all {K : PySem.W.Frag} {fd : FuncData} {ps : List Str} (h : ∀ us : List Value,us.length = ps.length->bindArgs fd ⟨us,[]⟩ = pure (ps.zip us)) : a7 K fd ps []:=fun s us _ hl=>by
  rw [List.append_nil] at hl ⊢
  exact .of_eq (h us hl)
def zw (CX : CXT) (X : Cx) (E : XK) : Prop:=∀ (pins : List (Addr × Obj)) (σ : St) (H : Hp) (s : Shared) (e : Value) (s' : Shared),Inv X pins σ H s->CX X.stack H s E e s'->X.xe e s'
section
variable {X : Cx} {CX : CXT} {k : Nat} {f C : Addr} {fd : FuncData} {ps : List Str} {sp : Sp} {dvs : List V} {ds : List Value} {E : XK} {x m : Str} {p pos apos : Pos} {e o : Expr} {es : List Expr} {ta : TE} {t : TA}
theorem HZ {pins : List (Addr × Obj)} {σ : St} {H : Hp} {s : Shared} {Q : VK} {us : List Value} {vs : List V} (F : aJ X.prog X.w X.K X.mg X.base CX k f fd ps sp) (hr : dN k X.A) (hb : a7 X.K fd ps ds) (hd : ba dvs ds) (hx : zw CX X E)
    (I : Inv X pins σ H s) (r : ba vs us) (h : sp (vs ++ dvs) H Q E) : wpAny (model X.prog X.w) X.A (call (.ref f) us) (EP X pins σ Q) X.xe s:=by
  have r2 : ba (vs ++ dvs) (us ++ ds):=r.append hd
  have hl : (us ++ ds).length = ps.length:=by rw [← r2.length];exact F.len _ _ _ _ h
  refine wpAny_call (codeAny_mono (F.run X.A X.stack s H ⟨us,[]⟩ (us ++ ds) (vs ++ dvs) Q E hr I.env0 (hb s us I.kIn hl) r2 h) fun r s' hq=>?_)
  cases r with
  | error e=>exact hx pins σ H s e s' I hq
  | ok fl =>
    cases fl with
    | ret u=>exact I.after hq
    | next=>exact False.elim hq
    | brk=>exact False.elim hq
    | cont=>exact False.elim hq
theorem am (F : aJ X.prog X.w X.K X.mg X.base CX k f fd ps sp) (hr : dN k X.A) (hg : Gl X x) (hm : X.mg x = some (.ref f)) (hk : PySem.W.keepIn X.K (.ref f) = true) (hb : a7 X.K fd ps ds) (hd : ba dvs ds) (hx : zw CX X E)
    (ha : PA X (e :: es) t) (hdb : (x == ("__debug__" : Str)) = false:=by decide) (he : starEach (e :: es) X.env = (false,eval e X.env) :: starEach es X.env:=by rfl) (hpl : (backTo pos (starEach es X.env)).any (·.1) = false:=by rfl) :
    PE X (.Call (.Name x p) (e :: es) [] pos) (AJ sp dvs E t):=.mk <| by
  intro pins s σ H Q I h
  refine wpAny_Call_Name_kw (kT I hg hm ?_ hdb)
  refine PySem.W.callWith_K (h₀:=X.base) I.ok.mod.kin hk (thn (ha pos pins s σ H _ I h) fun us s1 ⟨vs,H1,I1,r,q⟩=>⟨I1.kIn,?_⟩) he hpl
  exact HZ F hr hb hd hx I1 r q
structure Mk (K : PySem.W.Frag) (C f : Addr) : Prop where
  makes : PySem.W.makesIn K C = true
  init : PySem.W.findIn K (.ref C) "__init__" = some (some (.ref f))
  fn : PySem.W.isFn K (.ref f) = true
  kp : PySem.W.keepIn K (.ref C) = true
end
section
variable {X : Cx} {CX : CXT} {k : Nat} {f C : Addr} {fd : FuncData} {ps ks : List Str} {sp : Sp} {E : XK} {x m : Str} {p pos apos kpos : Pos} {e o : Expr} {es : List Expr} {kws : List Keyword} {te ta : TE} {t tk : TA} {nm : Option Str}
structure KR (K : PySem.W.Frag) (fd : FuncData) (ps ks : List Str) (g : List Value->List Value->List Value) (gV : List V->List V->List V) : Prop where
  to : ∀ (s : Shared) (us ws : List Value),K.In s.heap->(g us ws).length = ps.length->BindsTo s fd ⟨us,ks.zip ws⟩ (ps.zip (g us ws))
  rel : ∀ {vs : List V} {us : List Value} {zs : List V} {ws : List Value},ba vs us->ba zs ws->ba (gV vs zs) (g us ws)
variable {g : List Value->List Value->List Value} {gV : List V->List V->List V}
end
structure aH (N P : List Str) (sc : Scope) : Prop where
  kind : sc.kind = .function
  co : sc.isCoroutine = false
  gen : sc.isGenerator = false
  nd : N.Nodup
  pre : N.take P.length = P
  par : ∀ x∈P,sc.names.lookup x = some .local\/sc.names.lookup x = some .cell
  nofree : ∀ y∈sc.names,y.2≠.free
theorem tS {kindOf : Str->Option NameKind} {x : Str} : ∀ {binds : List (Str × Value)} {m : Str->Option Value},(∀ v,(x,v) ∉ binds)->bindL kindOf binds m x = m x
  | [],_,_=>rfl
  | (n,v) :: r,m,h=>by
    unfold bindL
    rw [tS fun w hw=>h w (List.mem_cons_of_mem _ hw)]
    split
    · have : x≠n:=by rintro rfl;exact h v List.mem_cons_self
      simp [this]
    · rfl
theorem uf {kindOf : Str->Option NameKind} {x : Str} : ∀ {binds : List (Str × Value)} {m : Str->Option Value},(∀ v,(x,v) ∉ binds)->bindC kindOf binds m x = m x
  | [],_,_=>rfl
  | (n,v) :: r,m,h=>by
    unfold bindC
    rw [uf fun w hw=>h w (List.mem_cons_of_mem _ hw)]
    split
    · rfl
    · have : x≠n:=by rintro rfl;exact h v List.mem_cons_self
      simp [this]
theorem tP {kindOf : Str->Option NameKind} {x : Str} {v : Value} : ∀ {P : List Str} {vs : List Value} {i : Nat} {m : Str->Option Value},P.Nodup->P[i]? = some x->vs[i]? = some v->kindOf x = some .local ->
    bindL kindOf (P.zip vs) m x = some v
  | [],_,_,_,_,h,_,_=>by simp at h
  | _ :: _,[],_,_,_,_,h,_=>by simp at h
  | p :: P,w :: vs,0,m,nd,h1,h2,hk=>by
    simp at h1 h2;subst h1;subst h2
    show bindL kindOf ((p,w) :: P.zip vs) m p = _
    unfold bindL
    rw [tS fun v hv=>(List.nodup_cons.mp nd).1 (List.of_mem_zip hv).1,if_pos hk]
    simp
  | p :: P,w :: vs,i + 1,m,nd,h1,h2,hk=>by
    show bindL kindOf ((p,w) :: P.zip vs) m x = _
    unfold bindL
    exact tP (i:=i) (List.nodup_cons.mp nd).2 (by simpa using h1) (by simpa using h2) hk
theorem ur {kindOf : Str->Option NameKind} {x : Str} {v : Value} : ∀ {P : List Str} {vs : List Value} {i : Nat} {m : Str->Option Value},P.Nodup->P[i]? = some x->vs[i]? = some v->kindOf x≠some .local ->
    bindC kindOf (P.zip vs) m x = some v
  | [],_,_,_,_,h,_,_=>by simp at h
  | _ :: _,[],_,_,_,_,h,_=>by simp at h
  | p :: P,w :: vs,0,m,nd,h1,h2,hk=>by
    simp at h1 h2;subst h1;subst h2
    show bindC kindOf ((p,w) :: P.zip vs) m p = _
    unfold bindC
    rw [uf fun v hv=>(List.nodup_cons.mp nd).1 (List.of_mem_zip hv).1,if_neg hk]
    simp
  | p :: P,w :: vs,i + 1,m,nd,h1,h2,hk=>by
    show bindC kindOf ((p,w) :: P.zip vs) m x = _
    unfold bindC
    exact ur (i:=i) (List.nodup_cons.mp nd).2 (by simpa using h1) (by simpa using h2) hk
def start (N : List Str) (vs : List V) : St:=vs.map some ++ List.replicate (N.length - vs.length) none
def kE (CX : CXT) (P : Program) (w : World) (K : PySem.W.Frag) (mg : Str->Option Value) (base : Heap) (N : List Str) (qual : Str) (scope : Scope) (f : Addr) (cd : Value) (A : Around) (outer : List Env) (s : Shared) (H : Hp) (E : XK) : Cx where
  prog:=P
  w:=w
  K:=K
  mg:=mg
  base:=base
  A:=A.deeper (envOfC qual scope s.heap.objs.size f cd)
  N:=N
  s₀:=s
  H₀:=H
  env:=envOfC qual scope s.heap.objs.size f cd
  outer:=outer
  stack:=envOfC qual scope s.heap.objs.size f cd :: outer
  ex:=[]
  calm:=true
  fn:=fun _=>true
  pn:=[]
  xe:=fun e s'=>wpAny (model P w) (A.deeper (envOfC qual scope s.heap.objs.size f cd)) (leaving (envOfC qual scope s.heap.objs.size f cd) e) (fun _ s''=>CX outer H s E e s'') (fun e' s''=>CX outer H s E e' s'') s'
theorem wL {sc : Scope} {n : Nat} {x : Str} (h : sc.names.lookup x = some .cell) : ∃ c,(cellsFrom n sc.names []).lookup x = some c:=by
  have q:=PySem.W.cellsFrom_some sc.names n [] (.inl h)
  exact Option.isSome_iff_exists.mp q
theorem BI {CX : CXT} {P : Program} {w : World} {K : PySem.W.Frag} {mg : Str->Option Value} {base : Heap} {N ps : List Str} {qual : Str} {scope : Scope} {f : Addr} {cd : Value} {A : Around} {outer : List Env} {s s1 : Shared} {H : Hp} {E : XK} {us : List Value} {vs : List V}
    (S : aH N ps scope) (hd : A.handled = none) (e0 : zH P w K mg base A outer s H) (hl : vs.length = ps.length) (r : ba vs us)
    (x : InCallC s s.heap.objs.size (bindL (envOfC qual scope s.heap.objs.size f cd).kindOf (ps.zip us) fun _=>none) (cellsFrom (s.heap.objs.size + 1) scope.names []) (bindC (envOfC qual scope s.heap.objs.size f cd).kindOf (ps.zip us) fun _=>none) s1) :
    Inv (kE CX P w K mg base N qual scope f cd A outer s H E) [] (start N vs) H s1:=by
  have hpl : ps.length<=N.length:=by have:=congrArg List.length S.pre;rw [List.length_take] at this;omega
  obtain ⟨h1,tk,rfl,hk⟩:=x.done
  have noA : ∀ b : Addr,b ∉ (kE CX P w K mg base N qual scope f cd A outer s H E).ex:=fun b z=>absurd (show b∈([] : List Addr) from z) (by simp)
  refine ⟨⟨e0.mod,S.kind,rfl,rfl,Nat.le_refl _,fun y z c h1 h2=>?_,fun y hy=>?_,fun y c _ h=>?_,fun _=>hd,Around.frames_deeper e0.frames,.inr ⟨rfl,rfl⟩,fun b z=>absurd z (noA b),e0.bs,e0.bsz,fun b _ _=>noA b,fun b z=>absurd z (noA b),e0.funs,e0.frf,e0.tt⟩,
    rfl,e0.bare,Un.kept hk,⟨_,x.toInCall.ns,fun i y v h1 h2 h3=>?_⟩,fun y c h=>⟨_,x.cell y c h⟩,e0.hok.fresh (Nat.le_refl _),fun y c h=>?_,fun p hp=>absurd (show p∈([] : List (Addr × Obj)) from hp) (by simp),e0.hok.kept hk,?_⟩
  · exact name_of_addr x.apart (PySem.mem_of_lookup h1) (PySem.mem_of_lookup h2)
  · have hy : scope.names.lookup y = some .cell\/scope.names.lookup y = some .free:=hy
    rcases hy with hy | hy
    · exact wL hy
    · exact absurd rfl (S.nofree _ (PySem.mem_of_lookup hy))
  · exact Nat.le_of_lt (x.above y c (PySem.mem_of_lookup h))
  · have hi : i < vs.length:=by
      unfold start at h2
      by_cases hi : i < vs.length
      · exact hi
      · rw [List.getElem?_append_right (by simpa using hi)] at h2
        rw [List.getElem?_replicate] at h2
        split at h2<;>cases h2
    have ha : vs[i]? = some v:=by
      unfold start at h2
      rw [List.getElem?_append_left (by simpa using hi),List.getElem?_map] at h2
      cases e : vs[i]? with
      | none=>rw [e] at h2;cases h2
      | some a=>rw [e] at h2;cases h2;rfl
    obtain ⟨u,hu,rv⟩:=r.get ha
    have hp : ps[i]? = some y:=by
      rw [← S.pre,List.getElem?_take_of_lt (by omega)];exact h1
    have ndP : ps.Nodup:=by rw [← S.pre];exact S.nd.sublist (List.take_sublist _ _)
    refine ⟨u,rv,?_⟩
    rcases S.par y (List.mem_of_getElem? hp) with k | k
    · exact .inl ⟨k,tP ndP hp hu k⟩
    · obtain ⟨c,e⟩:=wL (n:=s.heap.objs.size + 1) k
      refine .inr ⟨.inl k,c,e,?_⟩
      have q:=x.cell y c e
      rw [ur ndP hp hu (by show scope.names.lookup y≠_;rw [k];decide)] at q
      exact q
  · exact e0.hok.fresh (Nat.le_of_lt (x.above y c (PySem.mem_of_lookup h)))
  · unfold start
    show _ = N.length
    rw [List.length_append,List.length_map,List.length_replicate]
    omega
theorem Ea {CX : CXT} {P : Program} {w : World} {K : PySem.W.Frag} {mg : Str->Option Value} {base : Heap} {k : Nat} {f : Addr} {name qual : Str} {params : Arguments} {body : List Stmt} {scope : Scope} {dV kV doc pm cdv ct oc : Value} {an od : Option Addr}
    {osl : Array (Option Value)} {N ps : List Str} {sp : Sp} (lk : K.lookup f = some ⟨oc,od,.func (PySem.W.fnOf name qual params body scope dV kV doc pm an cdv ct),osl⟩) (hcd : PySem.W.codeIn K cdv qual = true) (S : aH N ps scope)
    (len : ∀ vs H Q E,sp vs H Q E->vs.length = ps.length)
    (hbody : ∀ (A : Around) (outer : List Env) (s : Shared) (H : Hp) (vs : List V) (Q : VK) (E : XK),dN k (A.deeper (envOfC qual scope s.heap.objs.size f cdv))->sp vs H Q E ->
      ∃ t,PSs (kE CX P w K mg base N qual scope f cdv A outer s H E) body t/\t { nx:=fun _ H'=>Q .non H',rt:=Q } (start N vs) H) :
    aJ P w K mg base CX (k + 1) f (PySem.W.fnOf name qual params body scope dV kV doc pm an cdv ct) ps sp:=by
  refine ⟨len,fun A outer s H args us vs Q E hr e0 hb r hsp=>?_⟩
  have hl:=len _ _ _ _ hsp
  have KX : K.In s.heap:=e0.mod.kin.keeps fun b o e=>(e0.bs b o e).1
  have lim : s.heap.NoLimit:=e0.mod.nolimit.keeps fun b o e=>(e0.bs b o e).1
  have hkind : ∀ y∈ps.zip us,scope.names.lookup y.1 = some .local\/(scope.names.lookup y.1 = some .cell/\((cellsFrom (s.heap.objs.size + 1) scope.names []).lookup y.1).isSome = true):=fun ⟨n,v⟩ hy=>by
    rcases S.par n (List.of_mem_zip hy).1 with q | q
    · exact .inl q
    · exact .inr ⟨q,PySem.W.cellsFrom_some _ _ _ (.inl q)⟩
  refine codeAny_call_function hr.depth (KX _ _ lk) rfl S.co S.gen rfl (PySem.W.codeRec_of KX hcd) (hb _ _ _ _ ?_)
  refine wpAny_newFunctionEnv_cells S.kind hkind fun env he s1 x=>?_
  subst he
  refine ⟨lim.keeps x.toInCall.keep,codeAny_func ?_⟩
  obtain ⟨t,ht,hq⟩:=hbody A outer s H vs Q E (hr.deeper _) hsp
  have I : Inv (kE CX P w K mg base N qual scope f cdv A outer s H E) [] (start N vs) H s1:=BI S hr.hd e0 hl r x
  refine wpAny_mono (ht [] s1 (start N vs) H _ I hq) (fun fl s' hs=>?_) fun e s' hs=>hs
  have fin : ∀ {σ' : St} {H' : Hp} {v : V} {u : Value},Inv (kE CX P w K mg base N qual scope f cdv A outer s H E) [] σ' H' s'->bo v u->Q v H'->CE outer P w H s Q u s' :=
    fun {σ' H' v u} J rv q=>⟨v,H',J.os,J.bare,J.base,J.hok,rv,q⟩
  cases fl with
  | ret u =>
    obtain ⟨v,σ',H',J,rv,q⟩:=hs
    exact fin J rv q
  | next =>
    obtain ⟨σ',H',J,q⟩:=hs
    exact fin (v:=V.non) (u:=Value.none) J rfl q
  | brk =>
    obtain ⟨_,_,_,q⟩:=hs
    exact False.elim q
  | cont =>
    obtain ⟨_,_,_,q⟩:=hs
    exact False.elim q
section
variable {X : Cx} {x : Str} {p pos : Pos} {e : Expr} {es : List Expr} {t : TA} {id T : String} {r : List V->Hp->VK->Prop}
def tCB (r : List V->Hp->VK->Prop) (t : TA) : TE:=fun σ H Q=>t σ H fun vs H1=>r vs H1 Q
theorem bA (hc : lU X (.builtin id) r) (hg : Gl X x) (hm : X.mg x = none) (hv : bootBuiltins x = some (.builtin id)) (ha : PA X (e :: es) t) (hn : x≠"__name__":=by decide) (hdb : (x == ("__debug__" : Str)) = false:=by decide)
    (he : starEach (e :: es) X.env = (false,eval e X.env) :: starEach es X.env:=by rfl) (hpl : (backTo pos (starEach es X.env)).any (·.1) = false:=by rfl) : PE X (.Call (.Name x p) (e :: es) [] pos) (tCB r t):=.mk <| by
  intro pins s σ H Q I h
  refine wpAny_Call_Name_kw (pf I hg hm hv ?_ hn hdb)
  exact PyProof.Rows.callWith_builtin1 (thn (ha pos pins s σ H _ I h) fun us s1 ⟨vs,H1,I1,r1,q1⟩=>hc pins s1 σ H1 vs us Q I1 r1 q1) he hpl
theorem da (hc : lU X (.type T) r) (hg : Gl X x) (hm : X.mg x = none) (hv : bootBuiltins x = some (.type T)) (ha : PA X (e :: es) t) (hn : x≠"__name__":=by decide) (hdb : (x == ("__debug__" : Str)) = false:=by decide)
    (he : starEach (e :: es) X.env = (false,eval e X.env) :: starEach es X.env:=by rfl) (hpl : (backTo pos (starEach es X.env)).any (·.1) = false:=by rfl) : PE X (.Call (.Name x p) (e :: es) [] pos) (tCB r t):=.mk <| by
  intro pins s σ H Q I h
  refine wpAny_Call_Name_kw (pf I hg hm hv ?_ hn hdb)
  exact PyProof.Rows.callWith_type1 (thn (ha pos pins s σ H _ I h) fun us s1 ⟨vs,H1,I1,r1,q1⟩=>hc pins s1 σ H1 vs us Q I1 r1 q1) he hpl
end
end L2
namespace HT
open PySem PyProof.Rows
section
open PySem.SeqAt
open PySem.AutoSeq1 (wpAny_loadPart')
open PySem.MeetsSeq PySem.MeetsSeq2 PySem.MeetsSeq3
end
section
variable {prog : Program} {w : World} {A : Around} {E : Value->Shared->Prop} {s : Shared}
theorem cat_tup {t b : Addr} {vs ws : List Value} {Q : Value->Shared->Prop} (ht : IsTup s.heap t vs.toArray) (hb : IsTup s.heap b ws.toArray) (hv : vs≠[])
    (h1 : ws = []->Q (.ref t) s) (h2 : ws≠[]->Q (.ref s.heap.objs.size) { s with heap:=s.heap.push { cls:=.type "tuple",data:=.seq (vs ++ ws).toArray } })
    (hsz : vs.length + ws.length<=sizeLine) : wpAny (model prog w) A (binaryOp .Add (.ref t) (.ref b)) Q E s:=by
  obtain ⟨⟨cls,dd,data,sl⟩,ho,hc,n,hd⟩:=id ht
  obtain ⟨⟨cls2,dd2,data2,sl2⟩,ho2,hc2,n2,hd2⟩:=id hb
  simp only at hc hd hc2 hd2
  subst hc hd hc2 hd2
  have e : vs.toArray ++ ws.toArray = (vs ++ ws).toArray:=by simp
  by_cases hw : ws = []
  · exact concat_meets ⟨_,ho,rfl⟩ ⟨_,ho2,rfl⟩ noFill_tuple_add seq_tuple_add PySem.F.slot_tuple_add PySem.F.entry_tuple_add (PySem.F.args_tuple_add_2 _ _)
      (tuple_addW1 t b vs.toArray ws.toArray n n2 dd dd2 sl sl2 (by simpa using hv) (by simp [hw])) ⟨ho,ho2,h1 hw⟩
  · refine concat_meets ⟨_,ho,rfl⟩ ⟨_,ho2,rfl⟩ noFill_tuple_add seq_tuple_add PySem.F.slot_tuple_add PySem.F.entry_tuple_add (PySem.F.args_tuple_add_2 _ _)
      (tuple_addW2 t b vs.toArray ws.toArray n n2 dd dd2 sl sl2 (by simpa using hv) (by simpa using hw) (by rw [List.size_toArray,List.size_toArray];exact hsz)) ⟨ho,ho2,?_⟩
    rw [e]
    exact h2 hw
def sIx (n d : Nat) : Option Int->Nat
  | none=>d
  | some v=>if v < 0 then (v + (n : Int)).toNat else min v.toNat n
theorem Jb (n d : Nat) (hd : d<=n) (o : Option Int) : sIx n d o<=n:=by
  cases o with
  | none=>exact hd
  | some v =>
    show (if v < 0 then (v + (n : Int)).toNat else min v.toNat n)<=n
    by_cases hv : v < 0
    · rw [if_pos hv];omega
    · rw [if_neg hv];exact Nat.min_le_right _ _
theorem Aq (v : Int) (n d : Nat) : (if v < 0 then max (v + (n : Int)) 0 else min v (n : Int)) = ((sIx n d (some v) : Nat) : Int):=by
  show (if v < 0 then max (v + (n : Int)) 0 else min v (n : Int)) = (((if v < 0 then (v + (n : Int)).toNat else min v.toNat n) : Nat) : Int)
  by_cases hv : v < 0
  · simp only [if_pos hv];omega
  · simp only [if_neg hv];omega
theorem yD (lo hi : Option Int) (n : Nat) : Builtin.Slice.sliceAdjust lo hi 1 (n : Int) = (((sIx n 0 lo : Nat) : Int),((sIx n n hi : Nat) : Int)):=by
  have h1 : ¬ ((1 : Int) < 0):=by omega
  unfold Builtin.Slice.sliceAdjust
  simp only [h1,if_false]
  refine Prod.ext ?_ ?_
  · cases lo with
    | none=>rfl
    | some v=>exact Aq v n 0
  · cases hi with
    | none=>rfl
    | some v=>exact Aq v n n
theorem y8 (i j : Nat) : Builtin.Slice.slicePlaces (i : Int) (j : Int) 1 = j - i:=by
  unfold Builtin.Slice.slicePlaces
  have h1 : (1 : Int) > 0:=by omega
  simp only [h1,if_true,Int.ediv_one]
  split<;>omega
theorem sq {v : Value} {o : Option Int} {Q : Option Int->Shared->Prop} (p : IsPart v o) (h : Q o s) : wpAny (model prog w) A (Builtin.Slice.slicePartIndex v) Q E s:=by
  cases p with
  | none=>exact slicePart_none h
  | int i t=>exact slicePart_int h
theorem sliceApplied_gen {sl : Addr} {vl vu : Value} {lo hi : Option Int} {n : Nat} {Q : Int × Int × Nat->Shared->Prop} (hs : s.heap.IsSliceOf sl vl vu .none) (pl : IsPart vl lo) (pu : IsPart vu hi)
    (h : Q (((sIx n 0 lo : Nat) : Int),1,sIx n n hi - sIx n 0 lo) s) : wpAny (model prog w) A (Builtin.Slice.sliceApplied (.ref sl) (pure (n : Int))) Q E s:=by
  obtain ⟨os,hos,hcs,hds⟩:=id hs
  unfold Builtin.Slice.sliceApplied Builtin.Slice.sliceFields
  refine wpAny_bind (wpAny_bind (wpAny_field hos hds (x:=vl) rfl (wpAny_bind (wpAny_field hos hds (x:=vu) rfl (wpAny_bind (wpAny_field hos hds (x:=.none) rfl (wpAny_pure ?_)))))))
  refine wpAny_bind (slicePart_none ?_)
  show wpAny _ _ (if ((1 : Int) == 0) = true then _ else _) _ _ s
  rw [if_neg (by decide)]
  refine wpAny_bind (sq pl (wpAny_bind (sq pu (wpAny_bind (wpAny_pure ?_)))))
  show wpAny _ _ (match Builtin.Slice.sliceAdjust lo hi 1 (n : Int) with | (lo,hi)=>pure (lo,(1 : Int),Builtin.Slice.slicePlaces lo hi 1)) _ _ s
  rw [yD lo hi n]
  show wpAny _ _ (pure (((sIx n 0 lo : Nat) : Int),(1 : Int),Builtin.Slice.slicePlaces ((sIx n 0 lo : Nat) : Int) ((sIx n n hi : Nat) : Int) 1)) _ _ s
  rw [y8]
  exact wpAny_pure h
theorem ES (xs : Array Value) (i k : Nat) : ((List.range k).filterMap fun (m : Nat)=>xs[((i : Int) + (m : Int) * 1).toNat]?).toArray = ((xs.toList.drop i).take k).toArray:=by
  have e : (fun (m : Nat)=>xs[((i : Int) + (m : Int) * 1).toNat]?) = fun m=>xs[i + m]?:=by
    funext m
    have : ((i : Int) + (m : Int) * 1).toNat = i + m:=by omega
    rw [this]
  rw [e]
  have:=pick_run xs i k
  rw [List.filterMap_map] at this
  have e2 : ((fun x=>xs[x]?) ∘ fun x=>i + x) = fun m=>xs[i + m]?:=rfl
  rw [e2] at this
  rw [this]
theorem getItem_tuple_cut {t sl : Addr} {items : Array Value} {vl vu : Value} {lo hi : Option Int} {Q : Value->Shared->Prop} (ht : IsTup s.heap t items) (hs : s.heap.IsSliceOf sl vl vu .none) (pl : IsPart vl lo) (pu : IsPart vu hi)
    (hw : ¬ (sIx items.size 0 lo = 0/\sIx items.size items.size hi = items.size))
    (h : Q (.ref s.heap.objs.size) { s with heap:=s.heap.push { cls:=.type "tuple",data:=.seq ((items.toList.drop (sIx items.size 0 lo)).take (sIx items.size items.size hi - sIx items.size 0 lo)).toArray } })
    (hsz : items.size<=sizeLine) : wpAny (model prog w) A (getItem (.ref t) (.ref sl)) Q E s:=by
  have htake : sizeOk (.seq ((items.toList.drop (sIx items.size 0 lo)).take (sIx items.size items.size hi - sIx items.size 0 lo)).toArray):=by
    show ((items.toList.drop (sIx items.size 0 lo)).take (sIx items.size items.size hi - sIx items.size 0 lo)).toArray.size<=sizeLine
    rw [List.size_toArray,List.length_take,List.length_drop,Array.length_toList]
    omega
  have hj : sIx items.size items.size hi<=items.size:=Jb _ _ (Nat.le_refl _) hi
  obtain ⟨os,hos,hcs,hds⟩:=id hs
  have hTs : s.TypeIs (.ref sl) "slice":=⟨os,hos,hcs⟩
  unfold getItem
  try with_reducible refine wpAny_holding ?_
  first | refine wpAny_bind (wpAny_pure ?_) | skip
  refine wpAny_bind (wpAny_sequenceKey ht.typeIs (by decide) ?_)
  refine wpAny_bind (wpAny_callSpecial?_slot (name:=Str.ofString "__getitem__") ht.typeIs PyProof.Rows.slot_tuple_getitem
    (wpAny_call_entry PyProof.Rows.slot_tuple_getitem ht.typeIs entry_tuple_getitem ?_ (args_tuple_getitem _ _)))
  show wpAny _ _ (Builtin.Tuple.tupleItemsOf (.ref t) >>= _) _ _ s
  refine wpAny_bind (tupleItemsOf_ ht ?_)
  refine wpAny_bind (wpAny_typeOf hTs ?_)
  rw [if_pos (by decide)]
  refine wpAny_bind (sliceApplied_gen hs pl pu ?_)
  have hno : ¬ ((((sIx items.size 0 lo : Nat) : Int) == 0 && (1 : Int) == 1 && (sIx items.size items.size hi - sIx items.size 0 lo) == items.size) = true):=by
    intro q
    rw [Bool.and_eq_true,Bool.and_eq_true] at q
    have q1 : ((sIx items.size 0 lo : Nat) : Int) = 0:=eq_of_beq q.1.1
    have q2 : sIx items.size items.size hi - sIx items.size 0 lo = items.size:=eq_of_beq q.2
    exact hw ⟨by omega,by omega⟩
  show wpAny _ _ (if (((sIx items.size 0 lo : Nat) : Int) == 0 && (1 : Int) == 1 && (sIx items.size items.size hi - sIx items.size 0 lo) == items.size) = true then _ else _) _ _ s
  rw [if_neg hno,ES]
  first
    | exact wpAny_bind (m:=Builtin.Tuple.tupleExact _) (wpAny_newObj_type (wpAny_pure ⟨_,rfl,wpAny_pure h⟩) htake)
    | exact wpAny_bind (m:=Builtin.Tuple.tupleExact _) (wpAny_newObj_type (wpAny_bind (wpAny_pure (wpAny_pure ⟨_,rfl,wpAny_pure h⟩))) htake)
    | exact wpAny_bind (wpAny_bind (m:=Builtin.Tuple.tupleExact _) (wpAny_newObj_type (wpAny_pure (wpAny_pure ⟨_,rfl,wpAny_pure h⟩)) htake))
    | exact wpAny_bind (wpAny_bind (m:=Builtin.Tuple.tupleExact _) (wpAny_newObj_type (wpAny_pure ⟨_,rfl,wpAny_pure h⟩) htake))
end
end HT
namespace L2
open PySem PySem.Spec PyProof.Rows
abbrev TO:=St->Hp->(Option Int->Hp->Prop)->Prop
def PO (X : Cx) (e : Option Expr) (t : TO) : Prop :=
  ∀ (pins : List (Addr × Obj)) (s : Shared) (σ : St) (H : Hp) (Q : Option Int->Hp->Prop),Inv X pins σ H s->t σ H Q ->
    wpAny (model X.prog X.w) X.A (evalPart e X.env) (fun u s'=>∃ o H',Inv X pins σ H' s'/\IsPart u o/\Q o H') X.xe s
def Bo : TO:=fun _ H Q=>Q none H
def GI (t : TE) : TO:=fun σ H Q=>t σ H fun x H1=>∃ i,x = .int i/\Q (some i) H1
section
variable {X : Cx} {e : Expr} {te : TE} {lo hi : Option Expr} {tl th : TO} {pos p2 : Pos}
theorem nJ : PO X none Bo:=by
  intro pins s σ H Q I h
  rw [evalPart_none]
  exact wpAny_pure ⟨none,H,I,.none,h⟩
theorem nv (h : PE X e te) : PO X (some e) (GI te):=by
  intro pins s σ H Q I hw
  rw [evalPart_some]
  refine thn (h pins s σ H _ I hw) fun u s1 ⟨x,H1,I1,r1,q1⟩=>?_
  obtain ⟨i,rfl,q⟩:=q1
  obtain ⟨t,rfl⟩:=r1
  exact ⟨some i,H1,I1,.int i t,q⟩
def SlR (X : Cx) (r : V->Option Int->Option Int->Hp->VK->Prop) : Prop :=
  ∀ (pins : List (Addr × Obj)) (s : Shared) (σ : St) (H : Hp) (x : V) (v vl vu : Value) (lo hi : Option Int) (sl : Addr) (Q : VK),Inv X pins σ H s->bo x v->s.heap.IsSliceOf sl vl vu .none->IsPart vl lo->IsPart vu hi->r x lo hi H Q ->
    ∃ T id,typeLookup (.type T) "__getitem__" = pure (some (.builtin id))/\s.TypeIs v T/\wpAny (model X.prog X.w) X.A (getItem v (.ref sl)) (EP X pins σ Q) X.xe s
def tSl (r : V->Option Int->Option Int->Hp->VK->Prop) (te : TE) (tl th : TO) : TE:=fun σ H Q=>te σ H fun x H1=>tl σ H1 fun l H2=>th σ H2 fun u H3=>r x l u H3 Q
theorem ko {r : V->Option Int->Option Int->Hp->VK->Prop} (hr : SlR X r) (he : PE X e te) (hl : PO X lo tl) (hu : PO X hi th) : PE X (.Subscript e (.Slice lo hi none p2) pos) (tSl r te tl th):=.mk <| by
  intro pins s σ H Q I h
  refine Subscript_ (thn (he pins s σ H _ I h) fun v s1 ⟨x,H1,I1,r1,q1⟩=>?_)
  refine wpAny_Slice (thn (hl pins s1 σ H1 _ I1 q1) fun vl s2 ⟨l,H2,I2,pl,q2⟩=>thn (hu pins s2 σ H2 _ I2 q2) fun vu s3 ⟨u,H3,I3,pu,q3⟩=>?_)
  rw [evalPart_none]
  refine wpAny_pure ?_
  have I4 : Inv X pins σ H3 { s3 with heap:=s3.heap.push { cls:=.type "slice",data:=.fields #[vl,vu,.none] } }:=I3.kept (t':=s3.toks) fun b ob q=>Heap.get?_push_of_some _ q
  obtain ⟨T,id,hT,ht,hg⟩:=hr pins { s3 with heap:=s3.heap.push { cls:=.type "slice",data:=.fields #[vl,vu,.none] } } σ H3 x v vl vu l u s3.heap.objs.size Q I4 r1 (Heap.IsSliceOf.new ..) pl pu q3
  show wpAny (model X.prog X.w) X.A (subscriptTail e (.Slice lo hi none p2) v (.ref s3.heap.objs.size)) (EP X pins σ Q) X.xe { s3 with heap:=s3.heap.push { cls:=.type "slice",data:=.fields #[vl,vu,.none] } }
  exact tail_any (ops:=[.ref s3.heap.objs.size,v]) ht hT hg (by with_unfolding_all rfl)
def vi (xs : List V) (lo hi : Option Int) : List V:=(xs.drop (HT.sIx xs.length 0 lo)).take (HT.sIx xs.length xs.length hi - HT.sIx xs.length 0 lo)
theorem pJ (xs : List V) (lo hi : Option Int) : (vi xs lo hi).length<=xs.length:=by
  unfold vi
  rw [List.length_take,List.length_drop]
  omega
def KA (K : PySem.W.Frag) : V->Option Int->Option Int->Hp->VK->Prop:=fun x lo hi H Q=>∃ a xs,x = .ref a/\SqT K H a xs /\
  ¬ (HT.sIx xs.length 0 lo = 0/\HT.sIx xs.length xs.length hi = xs.length)/\∀ p,H p = none->Q (.ref p) (upd H p (.tup (vi xs lo hi)))
theorem IU : SlR X (KA X.K):=by
  intro pins s σ H x v vl vu lo hi sl Q I rx hs pl pu h
  obtain ⟨a,xs,rfl,hx,hw,q⟩:=h
  cases rx
  obtain ⟨its,r,ht,hz⟩:=I.tuple hx
  have hlen : its.toArray.size = xs.length:=by rw [List.size_toArray];exact r.length.symm
  refine ⟨"tuple",_,PyProof.Rows.slot_tuple_getitem.lookup,ht.typeIs,?_⟩
  refine HT.getItem_tuple_cut ht hs pl pu (by rw [hlen];exact hw) ?_ (by rw [hlen];exact hz)
  rw [hlen]
  refine ⟨.ref s.heap.objs.size,_,I.laid (t':=s.toks) (o:=.tup (vi xs lo hi)) (fun b ob q=>Heap.get?_push_of_some _ q) (Nat.le_refl _) ?_,rfl,q _ (I.hok.fresh (Nat.le_refl _))⟩
  exact ⟨Nat.le_trans (pJ xs lo hi) hz,_,(r.drop (HT.sIx xs.length 0 lo)).take (HT.sIx xs.length xs.length hi - HT.sIx xs.length 0 lo),wV.new _ _⟩
def Ki (K : PySem.W.Frag) : R2:=fun x y H Q=>∃ a b xs ys,x = .ref a/\y = .ref b/\SqT K H a xs/\SqT K H b ys/\xs≠[]/\xs.length + ys.length<=sizeLine /\
  (ys = []->Q (.ref a) H)/\(ys≠[]->∀ p,H p = none->Q (.ref p) (upd H p (.tup (xs ++ ys))))
theorem ba.nil_iff {xs : List V} {us : List Value} (r : ba xs us) : us = []↔xs = []:=by
  cases r with
  | nil=>simp
  | cons _ _=>simp
theorem Gr : OpR X (binaryOp .Add) (Ki X.K):=by
  intro pins s σ H x y v u Q I rx ry h
  obtain ⟨a,b,xs,ys,rfl,rfl,ha,hb,hx,hz,q1,q2⟩:=h
  cases rx
  cases ry
  obtain ⟨its,r1,p1,_⟩:=I.tuple ha
  obtain ⟨its2,r2,p2,_⟩:=I.tuple hb
  refine HT.cat_tup p1 p2 (fun z=>hx (r1.nil_iff.mp z)) (fun z=>⟨.ref a,H,I,rfl,q1 (r2.nil_iff.mp z)⟩) (fun z=>?_) (by rw [← r1.length,← r2.length];exact hz)
  refine ⟨.ref s.heap.objs.size,_,I.laid (t':=s.toks) (o:=.tup (xs ++ ys)) (fun b ob q=>Heap.get?_push_of_some _ q) (Nat.le_refl _) ?_,rfl,q2 (fun w=>z (r2.nil_iff.mpr w)) _ (I.hok.fresh (Nat.le_refl _))⟩
  exact ⟨by rw [List.length_append];exact hz,_,r1.append r2,wV.new _ _⟩
end
def ixN (n : Nat) (i : Int) : Option Nat:=if 0<=i then (if i < n then some i.toNat else none) else if -(n : Int)<=i then some (i + n).toNat else none
def atI {α : Type} (xs : List α) (i : Int) : Option α:=(ixN xs.length i).bind fun j=>xs[j]?
theorem Fu {n : Nat} {i : Int} {j : Nat} (h : ixN n i = some j) : seqIndex? i n = some j/\j < n/\-(n : Int)<=i/\i < n:=by
  unfold ixN at h
  by_cases h0 : 0<=i
  · rw [if_pos h0] at h
    by_cases h1 : i < n
    · rw [if_pos h1] at h
      have e : i.toNat = j:=Option.some.inj h
      exact ⟨by rw [seqIndex_of h0 h1,e],by omega,by omega,h1⟩
    · rw [if_neg h1] at h;cases h
  · rw [if_neg h0] at h
    by_cases h1 : -(n : Int)<=i
    · rw [if_pos h1] at h
      have e : (i + n).toNat = j:=Option.some.inj h
      exact ⟨by rw [seqIndex_neg (by omega) h1,e],by omega,h1,by omega⟩
    · rw [if_neg h1] at h;cases h
theorem vN {α : Type} {xs : List α} {i : Int} {v : α} (h : atI xs i = some v) : ∃ j,seqIndex? i xs.length = some j/\xs[j]? = some v/\j < xs.length/\-(xs.length : Int)<=i/\i < xs.length:=by
  unfold atI at h
  cases e : ixN xs.length i with
  | none=>rw [e] at h;cases h
  | some j =>
    rw [e] at h
    obtain ⟨h1,h2,h3,h4⟩:=Fu e
    exact ⟨j,h1,h,h2,h3,h4⟩
theorem Fw {α : Type} {xs : List α} {j : Nat} {v : α} (h : xs[j]? = some v) : atI xs (j : Int) = some v:=by
  have hj : j < xs.length:=(List.getElem?_eq_some_iff.mp h).1
  have e : ixN xs.length (j : Int) = some j:=by
    unfold ixN
    rw [if_pos (by omega),if_pos (by omega)];simp
  unfold atI;rw [e];exact h
def Gs (b : Expr) : Prop:=∀ o i,subscripted b false o i = operate [o,i] (getItem o i)
def IxR (X : Cx) (r : R2) : Prop :=
  ∀ (value slice : Expr) (pins : List (Addr × Obj)) (s : Shared) (σ : St) (H : Hp) (x y : V) (v u : Value) (Q : VK),Inv X pins σ H s->bo x v->bo y u->r x y H Q ->
    subscripted slice false v u = operate [v,u] (getItem v u)->wpAny (model X.prog X.w) X.A (subscriptTail value slice v u) (EP X pins σ Q) X.xe s
def MtR (X : Cx) (id : String) (r : V->List V->Hp->VK->Prop) : Prop :=
  ∀ (pins : List (Addr × Obj)) (s : Shared) (σ : St) (H : Hp) (x : V) (xs : List V) (v : Value) (us : List Value) (Q : VK),Inv X pins σ H s->bo x v->ba xs us->r x xs H Q ->
    wpAny (model X.prog X.w) X.A (call (.builtin id) (v :: us)) (EP X pins σ Q) X.xe s
section
variable {X : Cx} {a b : Expr} {ta tb : TE} {pos : Pos}
theorem IxR.or {r r' : R2} (h : IxR X r) (h' : IxR X r') : IxR X (fun x y H Q=>r x y H Q\/r' x y H Q):=by
  intro value slice pins s σ H x y v u Q I rx ry q hs
  rcases q with q | q
  · exact h value slice pins s σ H x y v u Q I rx ry q hs
  · exact h' value slice pins s σ H x y v u Q I rx ry q hs
theorem ar {r : R2} (hr : IxR X r) (ha : PE X a ta) (hb : PE X b tb) (hs : Gs b) : PE X (.Subscript a b pos) (tOp r ta tb):=.mk <| by
  intro pins s σ H Q I h
  exact Subscript_ (HV ha hb I h fun v u s2 x y H2 I2 rx ry q=>hr a b pins s2 σ H2 x y v u Q I2 rx ry q (hs _ _))
def Ip (K : PySem.W.Frag) : R2:=fun x y H Q=>∃ p xs i v,x = .ref p/\y = .int i/\SqL K H p xs/\atI xs i = some v/\Q v H
def IJ (K : PySem.W.Frag) : R2:=fun x y H Q=>∃ p xs i v,x = .ref p/\y = .int i/\SqT K H p xs/\atI xs i = some v/\Q v H
def J9 : R2:=fun x y H Q=>∃ z i c,x = .str z/\y = .int i/\z.length<=sizeLine/\atI z.cps.toList i = some c/\Q (.str ⟨#[c]⟩) H
theorem F6 : IxR X (Ip X.K):=by
  intro value slice pins s σ H x y v u Q I rx ry h hs
  obtain ⟨p,xs,i,z,rfl,rfl,hq,he,q⟩:=h
  cases rx
  obtain ⟨t,rfl⟩:=ry
  obtain ⟨its,r,pl,hz⟩:=I.list hq
  obtain ⟨j,h1,h2,h3,h4,h5⟩:=vN he
  obtain ⟨w,ew,rw'⟩:=r.get h2
  have hl:=r.length
  have hn:=rN
  have fin : EP X pins σ Q w s:=⟨z,H,I,rw',q⟩
  by_cases h0 : 0<=i
  · have hj : i.toNat = j:=by
      rw [seqIndex_of h0 h5] at h1
      exact Option.some.inj h1
    exact item_listR pl.isList h0 (by omega) (by rw [hj];simpa using ew) fin hs
  · have hj : (i + (its.toArray.size : Int)).toNat = j:=by
      rw [seqIndex_neg (by omega) h4] at h1
      rw [List.size_toArray,← hl]
      exact Option.some.inj h1
    exact subscriptTail_builtinR (x:=w) pl.isList.typeIs slot_list_getitem.lookup
      (wpAny_getItem_list_neg (Q:=fun r s'=>r = w/\EP X pins σ Q r s') pl.isList (by omega) (by rw [List.size_toArray]<;>omega) (by omega) (by rw [hj];simpa using ew) ⟨rfl,fin⟩) hs
theorem IE : IxR X (IJ X.K):=by
  intro value slice pins s σ H x y v u Q I rx ry h hs
  obtain ⟨p,xs,i,z,rfl,rfl,hq,he,q⟩:=h
  cases rx
  obtain ⟨t,rfl⟩:=ry
  obtain ⟨its,r,pl,hz⟩:=I.tuple hq
  obtain ⟨j,h1,h2,h3,h4,h5⟩:=vN he
  obtain ⟨w,ew,rw'⟩:=r.get h2
  have hl:=r.length
  have hn:=rN
  have fin : EP X pins σ Q w s:=⟨z,H,I,rw',q⟩
  exact subscriptTail_builtinR (x:=w) pl.typeIs slot_tuple_getitem.lookup
    (getItem_tuple (j:=j) (Q:=fun r s'=>r = w/\EP X pins σ Q r s') pl (by omega) (by omega) (by rw [List.size_toArray,← hl];exact h1) (by simpa using ew) ⟨rfl,fin⟩) hs
theorem HY : IxR X J9:=by
  intro value slice pins s σ H x y v u Q I rx ry h hs
  obtain ⟨z,i,c,rfl,rfl,hz,he,q⟩:=h
  obtain ⟨t,rfl⟩:=rx
  obtain ⟨t',rfl⟩:=ry
  obtain ⟨j,h1,h2,h3,h4,h5⟩:=vN he
  have hl : z.cps.toList.length = z.length:=by simp [Str.length]
  rw [hl] at h1 h4 h5
  have hn:=rN
  exact tail_any (typeIs_str s z t) slot_str_getitem.lookup (getItem_str (c:=c) (by
    have e1 : decide (i < -(2 ^ 63 : Int)) = false:=decide_eq_false (by omega)
    have e2 : decide (i ≥ 2 ^ 63) = false:=decide_eq_false (by omega)
    rw [e1,e2,Bool.or_false]) (by rw [h1];simpa using h2) ⟨.str ⟨#[c]⟩,H,I.tok _,⟨_,rfl⟩,q⟩) hs
def rIx (K : PySem.W.Frag) : R2:=fun x y H Q=>Ip K x y H Q\/IJ K x y H Q\/J9 x y H Q
theorem Ih : IxR X (rIx X.K):=F6.or (IE.or HY)
theorem uQ (lo hi : Option Int) (n : Nat) : (sliceBounds lo hi none n).1 = ((HT.sIx n 0 lo : Nat) : Int)/\(sliceBounds lo hi none n).2.1 = ((HT.sIx n n hi : Nat) : Int)/\(sliceBounds lo hi none n).2.2 = 1:=by
  refine ⟨?_,?_,rfl⟩
  · cases lo with
    | none=>simp [sliceBounds,HT.sIx]
    | some i =>
      simp only [sliceBounds,HT.sIx,Option.getD_none,show (1 : Int) > 0 by decide,if_true]
      by_cases h : i < 0
      · simp only [h,if_true]<;>omega
      · simp only [h,if_false]<;>omega
  · cases hi with
    | none=>simp [sliceBounds,HT.sIx]
    | some i =>
      simp only [sliceBounds,HT.sIx,Option.getD_none,show (1 : Int) > 0 by decide,if_true]
      by_cases h : i < 0
      · simp only [h,if_true]<;>omega
      · simp only [h,if_false]<;>omega
theorem tH (its : List Value) (lo hi : Option Int) : slicePick its.toArray lo hi none = ((its.drop (HT.sIx its.length 0 lo)).take (HT.sIx its.length its.length hi - HT.sIx its.length 0 lo)).toArray:=by
  obtain ⟨h1,h2,h3⟩:=uQ lo hi its.toArray.size
  unfold slicePick
  rw [h1,h2,h3]
  simp only [sliceRange_one,pick_run,List.size_toArray]<;>rfl
def JW (K : PySem.W.Frag) : V->Option Int->Option Int->Hp->VK->Prop:=fun x lo hi H Q=>∃ a xs,x = .ref a/\SqL K H a xs/\∀ p,H p = none->Q (.ref p) (upd H p (.lst (vi xs lo hi)))
theorem Go : SlR X (JW X.K):=by
  intro pins s σ H x v vl vu lo hi sl Q I rx hs pl pu h
  obtain ⟨a,xs,rfl,hx,q⟩:=h
  cases rx
  obtain ⟨its,r,ht,hz⟩:=I.list hx
  have hlen:=r.length
  refine ⟨"list",_,slot_list_getitem.lookup,ht.isList.typeIs,?_⟩
  refine wpAny_getItem_list_slice ht.isList hs pl pu .none (by simp) ?_ (by rw [List.size_toArray]<;>omega)
  rw [tH,← hlen]
  refine ⟨.ref s.heap.objs.size,_,I.laid (t':=s.toks) (o:=.lst (vi xs lo hi)) (fun b ob q=>Heap.get?_push_of_some _ q) (Nat.le_refl _) ?_,rfl,q _ (I.hok.fresh (Nat.le_refl _))⟩
  exact ⟨Nat.le_trans (pJ xs lo hi) hz,_,0,(r.drop (HT.sIx xs.length 0 lo)).take (HT.sIx xs.length xs.length hi - HT.sIx xs.length 0 lo),Heap.get?_push_size _ rfl⟩
theorem s0 : lU X (.type "tuple") (fun xs H Q=>∃ p ys,xs = [.ref p]/\((SqL X.K H p ys/\∀ l,H l = none->Q (.ref l) (upd H l (.tup ys)))\/(SqT X.K H p ys/\Q (.ref p) H))):=by
  intro pins s σ H xs us Q I r h
  obtain ⟨p,ys,rfl,h⟩:=h
  obtain ⟨u,rfl,rx⟩:=xx r
  cases rx
  rcases h with ⟨hq,q⟩ | ⟨hq,q⟩
  · obtain ⟨its,r',pl,hz⟩:=I.list hq
    have hlen:=r'.length
    refine call_tuple_list pl.isList (fun h' kp=>?_) (by simp only [List.size_toArray]<;>omega)
    have I1 : Inv X pins σ H { s with heap:=h' }:=I.kept (t':=s.toks) kp
    have I2 : Inv X pins σ (upd H h'.objs.size (.tup ys)) { s with heap:=h'.push { cls:=.type "tuple",data:=.seq its.toArray } } :=
      I1.laid (t':=s.toks) (fun b o e=>Heap.get?_push_of_some _ e) (Nat.le_refl _) (show c7 X.prog X.w _ _ _ (.tup ys) from ⟨hz,its,r',wV.new _ _⟩)
    exact ⟨.ref h'.objs.size,_,I2,rfl,q _ (I1.hok.fresh (Nat.le_refl _))⟩
  · obtain ⟨its,r',pl,hz⟩:=I.tuple hq
    exact call_tuple_same pl ⟨.ref p,H,I,rfl,q⟩
def tyV (K : PySem.W.Frag) (T : String) (x : V) (H : Hp) : Prop:=match x with
  | .str _=>T = "str"
  | .int _=>T = "int"
  | .ref p=>(T = "list"/\∃ xs,SqL K H p xs)\/(T = "tuple"/\∃ o,K.lookup p = some o/\o.cls = .type "tuple"/\o.dict = none) \/
      (T = "dict"/\((∃ kvs,H p = some (.dK kvs))\/∃ kvs,H p = some (.dT kvs)))\/(T = "set"/\∃ S n,H p = some (.set S n))
  | _=>False
theorem Dw {pins : List (Addr × Obj)} {σ : St} {H : Hp} {s : Shared} {T : String} {x : V} {v : Value} (I : Inv X pins σ H s) (r : bo x v) (ty : tyV X.K T x H) :
    s.TypeIs v T/\∀ a,v = .ref a->∃ ob,s.heap.get? a = some ob/\ob.dict = none:=by
  cases x with
  | str z =>
    obtain ⟨t,rfl⟩:=r
    cases (show T = "str" from ty)
    exact ⟨typeIs_str s z t,fun _ e=>nomatch e⟩
  | int i =>
    obtain ⟨t,rfl⟩:=r
    cases (show T = "int" from ty)
    exact ⟨typeIs_int s i t,fun _ e=>nomatch e⟩
  | ref p =>
    cases r
    rcases ty with ⟨rfl,xs,hq⟩ | ⟨rfl,o,hk,hc,hd⟩ | ⟨rfl,hk⟩ | ⟨rfl,S,n,hk⟩
    · obtain ⟨its,_,pl,_⟩:=I.list hq
      refine ⟨pl.isList.typeIs,fun a e=>?_⟩
      cases e
      obtain ⟨o,n,e,c,hd,_⟩:=pl
      exact ⟨o,e,hd⟩
    · refine ⟨⟨o,I.kIn p o hk,hc⟩,fun a e=>?_⟩
      cases e
      exact ⟨o,I.kIn _ o hk,hd⟩
    · have z : ∃ o,s.heap.get? p = some o/\o.ExactDict:=by
        rcases hk with ⟨kvs,hk⟩ | ⟨kvs,hk⟩
        · obtain ⟨_,_,_,_,o,_,_,e,ex,_⟩:=I.hok p _ hk
          exact ⟨o,e,ex⟩
        · obtain ⟨_,_,_,_,o,_,_,e,ex,_⟩:=I.hok p _ hk
          exact ⟨o,e,ex⟩
      obtain ⟨o,e,ex⟩:=z
      refine ⟨⟨o,e,ex.1⟩,fun a e2=>?_⟩
      cases e2
      exact ⟨o,e,ex.2.1⟩
    · obtain ⟨o,_,_,_,e,ex,_⟩:=I.hok p _ hk
      refine ⟨⟨o,e,ex.1⟩,fun a e2=>?_⟩
      cases e2
      exact ⟨o,e,ex.2.1⟩
  | _=>exact False.elim ty
def JP (K : PySem.W.Frag) (T : String) (r : V->List V->Hp->VK->Prop) (to : TE) : TE:=fun σ H Q=>to σ H fun x H1=>tyV K T x H1/\r x [] H1 Q
def tBM (K : PySem.W.Frag) (T : String) (r : V->List V->Hp->VK->Prop) (to : TE) (t : TA) : TE:=fun σ H Q=>to σ H fun x H1=>tyV K T x H1/\t σ H1 fun xs H2=>r x xs H2 Q
variable {o e : Expr} {es : List Expr} {to : TE} {t : TA} {name : Str} {apos cpos : Pos} {T id : String} {r : V->List V->Hp->VK->Prop}
theorem hG (pa : PlainAttrs T) (slot : Slot T name id) (hty : typeOf (.builtin id) = pure (.type "method_descriptor")) (hm : MtR X id r) (ho : PE X o to)
    (hbase : attributeBase o name X.env (eval o X.env) = eval o X.env:=by rfl) (hline : (apos.endLine == cpos.line) = true:=by rfl) : PE X (.Call (.Attribute o name apos) [] [] cpos) (JP X.K T r to):=.mk <| by
  intro pins s σ H Q I h
  refine wpAny_Call_method0_late hbase hline (thn (ho pins s σ H _ I h) fun v s1 ⟨x,H1,I1,r1,ty,q1⟩=>?_)
  obtain ⟨h1,h2⟩:=Dw I1 r1 ty
  exact ⟨T,id,pa,slot,hty,h1,h2,Calls.callWith_builtin rfl (PySem.evalArgs_none (hm pins s1 σ H1 x [] v [] Q I1 r1 .nil q1))⟩
theorem eQ (pa : PlainAttrs T) (slot : Slot T name id) (hty : typeOf (.builtin id) = pure (.type "method_descriptor")) (hm : MtR X id r) (ho : PE X o to) (ha : PA X (e :: es) t)
    (hbase : attributeBase o name X.env (eval o X.env) = eval o X.env:=by rfl)
    (hfew : ((backTo cpos (starEach (e :: es) X.env)).all (fun x=>!x.1) && (backToKw cpos (keywordEach [] X.env)).all (fun x=>x.1.isSome)
      && decide ((e :: es).length + ([] : List Keyword).length + (if ([] : List Keyword).isEmpty then 0 else 1) < 30)) = true:=by rfl)
    (hline : (apos.endLine == cpos.line) = true:=by rfl) (hs : starEach (e :: es) X.env = (false,eval e X.env) :: starEach es X.env:=by rfl) (hplain : (backTo cpos (starEach es X.env)).any (·.1) = false:=by rfl) :
    PE X (.Call (.Attribute o name apos) (e :: es) [] cpos) (tBM X.K T r to t):=.mk <| by
  intro pins s σ H Q I h
  refine wpAny_Call_method_late hbase hfew hline rfl (thn (ho pins s σ H _ I h) fun v s1 ⟨x,H1,I1,r1,ty,q1⟩=>?_)
  obtain ⟨h1,h2⟩:=Dw I1 r1 ty
  refine ⟨T,id,pa,slot,hty,h1,h2,?_⟩
  have hA:=ha cpos pins s1 σ H1 _ I1 q1
  rw [hs] at hA ⊢
  refine Calls.callWith_builtin (by show (false || (backTo cpos (starEach es X.env)).any (·.1)) = false;rw [hplain]<;>rfl) (Calls.evalArgs_plain ?_)
  exact thn hA fun us s2 ⟨vs,H2,I2,r2,q2⟩=>hm pins s2 σ H2 x vs v us Q I2 r1 r2 q2
end
def MtM (X : Cx) (id : String) (r : V->List V->Hp->VK->Prop) : Prop :=
  ∀ (pins : List (Addr × Obj)) (s : Shared) (σ : St) (H : Hp) (x : V) (xs : List V) (v : Value) (us : List Value) (Q : VK),Inv X pins σ H s->bo x v->ba xs us->r x xs H Q ->
    wpAny (model X.prog X.w) X.A (call (.builtin id) (v :: us)) (EP X pins σ Q) X.xe s
theorem ba.one : ∀ {x : V} {us : List Value},ba [x] us->∃ u,us = [u]/\bo x u
  | _,_,.cons r .nil=>⟨_,rfl,r⟩
theorem ba.zero : ∀ {us : List Value},ba [] us->us = []
  | _,.nil=>rfl
theorem ba.dropLast {xs : List V} {us : List Value} (h : ba xs us) : ba xs.dropLast us.dropLast:=by
  induction h with
  | nil=>exact .nil
  | cons r t ih =>
    cases t with
    | nil=>exact .nil
    | cons q t'=>exact .cons r ih
theorem ba.reverse {xs : List V} {us : List Value} (h : ba xs us) : ba xs.reverse us.reverse:=by
  induction h with
  | nil=>exact .nil
  | cons r t ih=>rw [List.reverse_cons,List.reverse_cons];exact ba.append ih (.cons r .nil)
theorem ba.rep {xs : List V} {us : List Value} (h : ba xs us) : ∀ k : Nat,ba (List.replicate k xs).flatten (List.replicate k us).flatten
  | 0=>.nil
  | k + 1=>by
    rw [List.replicate_succ,List.replicate_succ,List.flatten_cons,List.flatten_cons]
    exact ba.append h (ba.rep h k)
theorem yI {α : Type} (l : List α) : l.eraseIdx (l.length - 1) = l.dropLast:=by
  induction l with
  | nil=>rfl
  | cons a r ih =>
    cases r with
    | nil=>rfl
    | cons b r =>
      have e : (a :: b :: r).length - 1 = ((b :: r).length - 1) + 1:=by
        have h1 : (a :: b :: r).length = r.length + 2:=rfl
        have h2 : (b :: r).length = r.length + 1:=rfl
        omega
      rw [e,List.eraseIdx_cons_succ,ih]
      all_goals rfl
theorem tL (its : List Value) : ∀ (k : Nat) (acc : List Value),
    List.foldl (fun x1 x2=>x1 ++ x2) acc.toArray (List.replicate k its.toArray) = (acc ++ (List.replicate k its).flatten).toArray
  | 0,acc=>by simp
  | k + 1,acc=>by
    have e : acc.toArray ++ its.toArray = (acc ++ its).toArray:=by simp
    have e2 : (acc ++ its) ++ (List.replicate k its).flatten = acc ++ (List.replicate (k + 1) its).flatten:=by
      rw [List.replicate_succ,List.flatten_cons,List.append_assoc]
    rw [← e2,← tL its k (acc ++ its),← e,List.replicate_succ,List.foldl_cons]
section
variable {X : Cx} {pins : List (Addr × Obj)} {σ : St} {H : Hp} {s : Shared} {l b : Addr} {xs ys zs : List V}
theorem Inv.lset {its its' : List Value} {n : Nat} {f : Array Value->Array Value} {t' : Nat} (I : Inv X pins σ H s) (hH : H l = some (.lst xs))
    (e : s.heap.get? l = some { cls:=.type "list",data:=.seq its.toArray n }) (hf : f its.toArray = its'.toArray) (hv : ba ys its') (hz : ys.length<=sizeLine) :
    Inv X pins σ (upd H l (.lst ys)) { s with heap:=s.heap.update l (Obj.mapSeq f),toks:=t' }:=by
  have q:=PySem.IsL.update e f
  rw [hf] at q
  refine I.write (x:=l) (e:=l) (by rw [hH];exact trivial) (.inl rfl) (fun b' u hb hu=>(Heap.get?_update_other s.heap (Obj.mapSeq f) (Ne.symm hb)).trans hu) ⟨_,q⟩ ?_
  exact ⟨hz,its',_,hv,q⟩
theorem Inv.lnew {its : List Value} {t' : Nat} (I : Inv X pins σ H s) (hv : ba ys its) (hz : ys.length<=sizeLine) :
    Inv X pins σ (upd H s.heap.objs.size (.lst ys)) { s with heap:=s.heap.push { cls:=.type "list",data:=.seq its.toArray },toks:=t' } :=
  I.laid (fun _ _ q=>Heap.get?_push_of_some _ q) (Nat.le_refl _) ⟨hz,its,0,hv,Heap.get?_push_size _ rfl⟩
theorem Inv.fresh (I : Inv X pins σ H s) : H s.heap.objs.size = none:=I.hok.fresh (Nat.le_refl _)
theorem Inv.lstM (I : Inv X pins σ H s) (hH : H l = some (.lst xs)) : xs.length<=sizeLine/\∃ (its : List Value) (n : Nat),ba xs its/\xs.length = its.length/\s.heap.get? l = some { cls:=.type "list",data:=.seq its.toArray n }:=by
  obtain ⟨z,its,n,r,e⟩:=I.hok l _ hH
  exact ⟨z,its,n,r,r.length,e⟩
theorem DW {n : Nat} (h : n<=sizeLine) : Builtin.List.listTooLong n = false:=by
  unfold Builtin.List.listTooLong
  exact decide_eq_false (by omega)
end
section
variable {X : Cx}
def AM : V->List V->Hp->VK->Prop:=fun x vs H Q=>∃ l xs y,x = .ref l/\vs = [y]/\H l = some (.lst xs)/\xs.length < sizeLine/\Q .non (upd H l (.lst (xs ++ [y])))
theorem bg : MtM X "list.append" AM:=by
  intro pins s σ H x vs v us Q I rx rv h
  obtain ⟨l,xs,y,rfl,rfl,hH,hz,q⟩:=h
  cases rx
  obtain ⟨u,rfl,ru⟩:=rv.one
  obtain ⟨z,its,n,r,hl,e⟩:=I.lstM hH
  refine call_meets F.slot_list_append ⟨_,e,rfl⟩ F.entry_list_append (F.args_list_append_2 _ _) (PySem.list_append l its.toArray n u (by rw [List.size_toArray];omega)) ⟨e,?_⟩
  refine ⟨.non,_,I.lset (its':=its ++ [u]) hH e (by simp) (r.append (.cons ru .nil)) ?_,rfl,q⟩
  rw [List.length_append,List.length_singleton]
  omega
def JL : V->List V->Hp->VK->Prop:=fun x vs H Q=>∃ l xs y,x = .ref l/\vs = []/\H l = some (.lst xs)/\xs[xs.length - 1]? = some y/\Q y (upd H l (.lst xs.dropLast))
theorem hU : MtM X "list.pop" JL:=by
  intro pins s σ H x vs v us Q I rx rv h
  obtain ⟨l,xs,y,rfl,rfl,hH,hy,q⟩:=h
  cases rx
  have hus:=rv.zero
  subst hus
  obtain ⟨z,its,n,r,hl,e⟩:=I.lstM hH
  obtain ⟨u,hu,ru⟩:=r.get hy
  have hy' : its.toArray[its.toArray.size - 1]? = some u:=by
    show its.toArray[its.length - 1]? = some u
    rw [← Array.getElem?_toList,← hl]
    exact hu
  refine call_meets F.slot_list_pop ⟨_,e,rfl⟩ F.entry_list_pop (F.args_list_pop_1 _) (MeetsSeq.list_pop_last l its.toArray n u hy' (by rw [List.size_toArray];omega)) ⟨e,?_⟩
  refine ⟨y,_,I.lset (its':=its.dropLast) hH e ?_ r.dropLast ?_,ru,q⟩
  · show its.toArray.eraseIdxIfInBounds (its.toArray.size - 1) = its.dropLast.toArray
    rw [List.size_toArray,List.eraseIdxIfInBounds_toArray,yI]
  · rw [List.length_dropLast]
    omega
def FZ : R2:=fun x y H Q=>∃ l b xs zs,x = .ref l/\y = .ref b/\H l = some (.lst xs)/\H b = some (.lst zs)/\xs.length + zs.length<=sizeLine/\∀ p,H p = none->Q (.ref p) (upd H p (.lst (xs ++ zs)))
theorem cI : OpR X (binaryOp .Add) FZ:=by
  intro pins s σ H x y v u Q I rx ry h
  obtain ⟨l,b,xs,zs,rfl,rfl,hH,hB,hz,q⟩:=h
  cases rx
  cases ry
  obtain ⟨z,its,n,r,hl,e⟩:=I.lstM hH
  obtain ⟨z2,its2,n2,r2,hl2,e2⟩:=I.lstM hB
  refine PySem.P.add_list e e2 ?_ (by rw [List.size_toArray,List.size_toArray];omega)
  have ea : its.toArray ++ its2.toArray = (its ++ its2).toArray:=by simp
  rw [ea]
  exact ⟨.ref _,_,I.lnew (t':=s.toks) (r.append r2) (by rw [List.length_append];omega),rfl,q _ I.fresh⟩
def Ft : R2:=fun x y H Q=>∃ l k xs,x = .ref l/\y = .int k/\H l = some (.lst xs)/\-(2 ^ 63)<=k/\k < 2 ^ 63/\xs.length * k.toNat<=sizeLine /\
  ∀ p,H p = none->Q (.ref p) (upd H p (.lst (List.replicate k.toNat xs).flatten))
theorem FU {α : Type} (xs : List α) (k : Nat) : (List.replicate k xs).flatten.length = k * xs.length:=by
  induction k with
  | zero=>simp
  | succ k ih=>rw [List.replicate_succ,List.flatten_cons,List.length_append,ih,Nat.succ_mul,Nat.add_comm]
theorem pG : OpR X (binaryOp .Mult) Ft:=by
  intro pins s σ H x y v u Q I rx ry h
  obtain ⟨l,k,xs,rfl,rfl,hH,h1,h2,hz,q⟩:=h
  cases rx
  obtain ⟨t,rfl⟩:=ry
  obtain ⟨z,its,n,r,hl,e⟩:=I.lstM hH
  have hlen : its.toArray.size * k.toNat<=sizeLine:=by rw [List.size_toArray,← hl];exact hz
  have hcap : ¬ its.toArray.size * k.toNat > (2 ^ 63 - 1) / 8:=by
    have : (sizeLine : Nat)<=(2 ^ 63 - 1) / 8:=by decide
    omega
  have hfit : ¬ (!Builtin.List.listFitsIndex k) = true:=by
    rw [fitsIndex_both h1 h2]
    exact Bool.false_ne_true
  have hlong : ¬ Builtin.List.listTooLong (its.toArray.size * k.toNat) = true:=by
    rw [DW hlen]
    exact Bool.false_ne_true
  have hnew : List.foldl (fun x1 x2=>x1 ++ x2) #[] (List.replicate (if its.toArray.isEmpty = true then 0 else k.toNat) its.toArray) = (List.replicate k.toNat its).flatten.toArray:=by
    have f0 : ∀ m : Nat,List.foldl (fun x1 x2=>x1 ++ x2) #[] (List.replicate m its.toArray) = (List.replicate m its).flatten.toArray:=fun m=>by
      have:=tL its m []
      rw [List.nil_append] at this
      exact this
    rw [f0]
    cases its with
    | nil=>simp
    | cons a r'=>rw [if_neg (by simp)]
  refine wpAny_binaryOp_repeat_ref (T:="list") (U:="int") (by decide) ⟨_,e,rfl⟩ (fun s'=>typeIs_int s' k t) noFill_list_mul F.fills_int_mul F.slot_int_rmul repeat_list F.slot_int_index.lookup
    (call_meets F.slot_int_rmul (typeIs_int s k t) F.entry_int_rmul (F.args_int_rmul_2 _ _) (int___rmul___int_list k t l its.toArray n)
      ⟨e,rfl,⟨_,e,rfl⟩,call_meets F.slot_list_mul ⟨_,e,rfl⟩ F.entry_list_mul (F.args_list_mul_2 _ _) (AutoListH.list___mul___list_int_3 l its.toArray n k t hfit hcap hlong) ⟨e,?_⟩⟩)
  rw [hnew]
  exact ⟨.ref _,_,I.lnew (t':=s.toks) (r.rep k.toNat) (by rw [FU,Nat.mul_comm];exact hz),rfl,q _ I.fresh⟩
end
section
variable {prog : Program} {w : World} {A : Around} {E : Value->Shared->Prop} {s : Shared}
set_option maxRecDepth 100000 in
end
section
variable {X : Cx}
end
section
variable {κ : Type} [DecidableEq κ]
def p8 (kvs : List (κ × V)) (k : κ) : Option V:=(kvs.find? fun kv=>decide (kv.1 = k)).map (·.2)
def iq (kvs : List (κ × V)) (k : κ) (v : V) : List (κ × V) :=
  if (kvs.any fun kv=>decide (kv.1 = k)) = true then kvs.map (fun kv=>if kv.1 = k then (kv.1,v) else kv) else kvs ++ [(k,v)]
theorem nj {p : κ × V} {r : List (κ × V)} {k : κ} (e : p.1 = k) : p8 (p :: r) k = some p.2:=by simp [p8,List.find?_cons,e]
theorem nO {p : κ × V} {r : List (κ × V)} {k : κ} (e : ¬ p.1 = k) : p8 (p :: r) k = p8 r k:=by simp [p8,List.find?_cons,e]
theorem xF (k : κ) : ∀ kvs : List (κ × V),(kvs.any fun kv=>decide (kv.1 = k)) = (p8 kvs k).isSome
  | []=>rfl
  | p :: r=>by
    rw [List.any_cons]
    by_cases e : p.1 = k
    · simp only [nj e,decide_eq_true e,Bool.true_or,Option.isSome_some]
    · rw [nO e,decide_eq_false e,Bool.false_or];exact xF k r
theorem j9 (kvs : List (κ × V)) (k : κ) (v : V) : (iq kvs k v).length<=kvs.length + 1:=by
  unfold iq
  split
  · rw [List.length_map];omega
  · rw [List.length_append,List.length_cons,List.length_nil];omega
theorem sZ.isSome_eq {o : Option V} {u : Option Value} (r : sZ o u) : o.isSome = u.isSome:=by
  cases o with
  | none=>cases u with
    | none=>rfl
    | some _=>exact (show False from r).elim
  | some _=>cases u with
    | none=>exact (show False from r).elim
    | some _=>rfl
theorem KV.val {kvs : List (κ × V)} {vs : List (κ × Value)} (r : KV kvs vs) (k : κ) : sZ (p8 kvs k) (valueAt vs k):=by
  unfold KV at r
  induction r with
  | nil=>exact True.intro
  | @cons p q ps qs h t ih =>
    obtain ⟨h1,h2⟩:=h
    by_cases e : p.1 = k
    · have e' : q.1 = k:=h1.symm.trans e
      have b : valueAt (q :: qs) k = some q.2:=by simp [valueAt,List.find?_cons,e']
      rw [nj e,b];exact h2
    · have e' : ¬ q.1 = k:=fun z=>e (h1.trans z)
      have b : valueAt (q :: qs) k = valueAt qs k:=by simp [valueAt,List.find?_cons,e']
      rw [nO e,b];exact ih
theorem KV.any {kvs : List (κ × V)} {vs : List (κ × Value)} (r : KV kvs vs) (k : κ) : (kvs.any fun kv=>decide (kv.1 = k)) = vs.any fun kv=>decide (kv.1 = k):=by
  unfold KV at r
  induction r with
  | nil=>rfl
  | cons h t ih=>rw [List.any_cons,List.any_cons,ih,h.1]
theorem KV.repl {kvs : List (κ × V)} {vs : List (κ × Value)} (r : KV kvs vs) (k : κ) {y : V} {u : Value} (ry : bo y u) :
    KV (kvs.map fun kv=>if kv.1 = k then (kv.1,y) else kv) (vs.map fun kv=>if kv.1 = k then (kv.1,u) else kv):=by
  unfold KV at r ⊢
  induction r with
  | nil=>exact .nil
  | @cons p q ps qs h t ih =>
    rw [List.map_cons,List.map_cons]
    refine .cons ?_ ih
    obtain ⟨h1,h2⟩:=h
    by_cases e : p.1 = k
    · rw [if_pos e,if_pos (h1.symm.trans e)];exact ⟨h1,ry⟩
    · rw [if_neg e,if_neg (fun z=>e (h1.trans z))];exact ⟨h1,h2⟩
theorem KV.put {kvs : List (κ × V)} {vs : List (κ × Value)} (r : KV kvs vs) (k : κ) {y : V} {u : Value} (ry : bo y u) : KV (iq kvs k y) (stored vs k u):=by
  unfold iq stored
  rw [r.any k]
  by_cases e : (vs.any fun kv=>decide (kv.1 = k)) = true
  · rw [if_pos e,if_pos e];exact r.repl k ry
  · rw [if_neg e,if_neg e];exact Paired.snoc r ⟨rfl,ry⟩
theorem KV.length {kvs : List (κ × V)} {vs : List (κ × Value)} (r : KV kvs vs) : kvs.length = vs.length:=Paired.length r
end
theorem z9 {P : Program} {w : World} {k : Key} {u : Value} (r : bo (kV k) u) : (bx P w).is k u = true:=by
  cases k with
  | inl i=>obtain ⟨t,e⟩:=(show ∃ t,u = Value.int i t from r);subst e;exact xI P w i t
  | inr x=>obtain ⟨t,e⟩:=(show ∃ t,u = Value.str x t from r);subst e;exact jS P w x t
theorem uw {P : Program} {w : World} : ∀ {ks : List Key} {us : List Value},ba (ks.map kV) us->ItemsAre (bx P w) ks us
  | [],_,r=>by rw [List.map_nil] at r;cases r;exact .nil
  | k :: ks,_,r=>by
    rw [List.map_cons] at r
    cases r with
    | cons h t=>exact .cons (z9 h) (uw t)
abbrev KT (H : Hp) : List (List Key × V)->List (List Key × Addr × Value)->Prop:=Paired fun p q=>p.1 = q.1/\H q.2.1 = some (.tup (p.1.map kV))/\bo p.2 q.2.2
theorem KT.val {H : Hp} {kvs : List (List Key × V)} {xs : List (List Key × Addr × Value)} (r : KT H kvs xs) (k : List Key) : sZ (p8 kvs k) ((atKey xs k).map (·.2)):=by
  induction r with
  | nil=>exact True.intro
  | @cons p q ps qs h t ih =>
    obtain ⟨h1,_,h2⟩:=h
    by_cases e : p.1 = k
    · have e' : q.1 = k:=h1.symm.trans e
      have b : atKey (q :: qs) k = some q.2:=by simp [atKey,List.find?_cons,e']
      rw [nj e,b];exact h2
    · have e' : ¬ q.1 = k:=fun z=>e (h1.trans z)
      have b : atKey (q :: qs) k = atKey qs k:=by simp [atKey,List.find?_cons,e']
      rw [nO e,b];exact ih
theorem KT.repl {H : Hp} {kvs : List (List Key × V)} {xs : List (List Key × Addr × Value)} (r : KT H kvs xs) (k : List Key) {y : V} {u : Value} (ry : bo y u) :
    KT H (kvs.map fun kv=>if kv.1 = k then (kv.1,y) else kv) (xs.map (putAt k u)):=by
  induction r with
  | nil=>exact .nil
  | @cons p q ps qs h t ih =>
    rw [List.map_cons,List.map_cons]
    refine .cons ?_ ih
    obtain ⟨h1,h2,h3⟩:=h
    unfold putAt
    by_cases e : p.1 = k
    · rw [if_pos e,if_pos (h1.symm.trans e)];exact ⟨h1,h2,ry⟩
    · rw [if_neg e,if_neg (fun z=>e (h1.trans z))];exact ⟨h1,h2,h3⟩
theorem KT.put {H : Hp} {kvs : List (List Key × V)} {xs : List (List Key × Addr × Value)} (r : KT H kvs xs) (k : List Key) {b : Addr} {y : V} {u : Value} (hb : H b = some (.tup (k.map kV))) (ry : bo y u) :
    KT H (iq kvs k y) (storedH xs k b u):=by
  have e : (kvs.any fun kv=>decide (kv.1 = k)) = (atKey xs k).isSome:=by
    rw [xF,(r.val k).isSome_eq,Option.isSome_map]
  unfold iq storedH
  rw [e]
  by_cases q : (atKey xs k).isSome = true
  · rw [if_pos q,if_pos q];exact r.repl k ry
  · rw [if_neg q,if_neg q];exact Paired.snoc r ⟨rfl,hb,ry⟩
theorem KT.keeps {H H' : Hp} {kvs : List (List Key × V)} {xs : List (List Key × Addr × Value)} (r : KT H kvs xs) (ht : ∀ b ys,H b = some (.tup ys)->H' b = some (.tup ys)) : KT H' kvs xs :=
  Paired.mapP r fun _ _ z=>⟨z.1,ht _ _ z.2.1,z.2.2⟩
section
variable {P : Program} {w : World} {H : Hp} {h : Heap} {a : Addr}
theorem G5 {u : HO} (ok : HOk P w H h) (e : Rd H a u) : c7 P w H h a u:=e.ok ok
theorem D8 {kvs : List (Key × V)} (ok : HOk P w H h) (e : Rd H a (.dK kvs)) : kvs.length<=sizeLine/\(a == sysModules) = false/\∃ vs,KV kvs vs/\h.DictOf (bx P w) a vs :=
  show c7 P w H h a (.dK kvs) from G5 ok e
theorem Ho {kvs : List (Key × V)} (ok : HOk P w H h) (e : H a = some (.dK kvs)) : kvs.length<=sizeLine/\(a == sysModules) = false/\∃ vs,KV kvs vs/\h.DictOf (bx P w) a vs:=D8 ok (.inl e)
theorem y4 {ks : List Key} (ok : HOk P w H h) (e : H a = some (.tup (ks.map kV))) : (tupleKind (bx P w)).is h ks a:=by
  obtain ⟨_,its,r,⟨o,h1,h2,n,h3⟩,_⟩:=(show c7 P w H h a (.tup (ks.map kV)) from ok a _ e)
  exact ⟨o,its.toArray,n,h1,h2,h3,by simpa using uw r⟩
theorem D3 {kvs : List (List Key × V)} (ok : HOk P w H h) (e : Rd H a (.dT kvs)) : kvs.length<=sizeLine/\(a == sysModules) = false /\
    ∃ xs,KT H kvs xs/\h.DictOfH (tupleKind (bx P w)) a xs:=by
  obtain ⟨z,y,xs,r,o,es,ep,h1,h2,h3,h4,h5⟩:=(show c7 P w H h a (.dT kvs) from G5 ok e)
  refine ⟨z,y,xs,r,o,es,ep,h1,h2,h3,h4,fun x hx=>?_,h5⟩
  have all : ∀ {l : List (List Key × V)} {m : List (List Key × Addr × Value)},KT H l m->∀ x∈m,(tupleKind (bx P w)).is h x.1 x.2.1:=by
    intro l m q
    induction q with
    | nil=>intro x hx;exact nomatch hx
    | @cons p q ps qs hq t ih =>
      intro x hx
      rcases List.mem_cons.mp hx with e | hx
      · subst e
        exact y4 ok (by rw [← hq.1];exact hq.2.1)
      · exact ih x hx
  exact all r x hx
theorem Jw {kvs : List (List Key × V)} (ok : HOk P w H h) (e : H a = some (.dT kvs)) : kvs.length<=sizeLine/\(a == sysModules) = false /\
    ∃ xs,KT H kvs xs/\h.DictOfH (tupleKind (bx P w)) a xs:=D3 ok (.inl e)
end
def Ck (H : Hp) (a : Addr) (y : V) (r : Option V) : Prop :=
  (∃ kvs k,Rd H a (.dK kvs)/\y = kV k/\r = p8 kvs k)\/∃ kvs k b,Rd H a (.dT kvs)/\y = .ref b/\H b = some (.tup (k.map kV))/\r = p8 kvs k
def Di (H : Hp) (a : Addr) (y v : V) (H' : Hp) : Prop :=
  (∃ kvs k,H a = some (.dK kvs)/\y = kV k/\kvs.length < sizeLine/\H' = upd H a (.dK (iq kvs k v))) \/
  ∃ kvs k b,H a = some (.dT kvs)/\y = .ref b/\H b = some (.tup (k.map kV))/\kvs.length < sizeLine/\H' = upd H a (.dT (iq kvs k v))
theorem Ck.k {H : Hp} {a : Addr} {kvs : List (Key × V)} {k : Key} (e : H a = some (.dK kvs)) : Ck H a (kV k) (p8 kvs k):=.inl ⟨kvs,k,.inl e,rfl,rfl⟩
theorem Di.k {H : Hp} {a : Addr} {kvs : List (Key × V)} {k : Key} {v : V} (e : H a = some (.dK kvs)) (hl : kvs.length < sizeLine) : Di H a (kV k) v (upd H a (.dK (iq kvs k v))):=.inl ⟨kvs,k,e,rfl,hl,rfl⟩
section
variable {X : Cx} {pins : List (Addr × Obj)} {σ : St} {H : Hp} {s : Shared} {a : Addr} {y v : V} {u r : Value} {o : Option V} {A : Around} {E : Value->Shared->Prop}
theorem Inv.big (I : Inv X pins σ H s) : sysModules < s.heap.objs.size:=by
  have h : mainGlobals < s.heap.objs.size:=(I.mod.glob.keeps I.bk).lt
  exact Nat.lt_trans (by decide) h
theorem Cr {Q : Value->Shared->Prop} (hu : A.units + 1 < cLine) (I : Inv X pins σ H s) (g : Ck H a y (some v)) (ry : bo y u) (h : ∀ w' s',Inv X pins σ H s'->bo v w'->Q w' s') :
    wpAny (model X.prog X.w) A (getItem (.ref a) u) Q E s:=by
  rcases g with ⟨kvs,k,e,ey,l⟩ | ⟨kvs,k,b,e,ey,eb,l⟩
  · subst ey
    obtain ⟨z,hd,vs,rel,dd⟩:=D8 I.hok e
    obtain ⟨w',hw,rw'⟩:=sZ.some_of (v:=v) (o:=valueAt vs k) (by rw [l];exact rel.val k)
    exact wpAny_getItem_of (z9 ry) dd.mapOf hw (h w' _ (I.tok _) rw')
  · subst ey
    cases (show u = Value.ref b from ry)
    obtain ⟨z,hd,xs,rel,dd⟩:=D3 I.hok e
    obtain ⟨w',hw,rw'⟩:=sZ.some_of (v:=v) (o:=(atKey xs k).map (·.2)) (by rw [l];exact rel.val k)
    obtain ⟨p,hp,hp2⟩:=Option.map_eq_some_iff.mp hw
    refine wpAny_getItem_heap (tupleKind_room_in1 hu) (y4 I.hok eb) dd hp ?_
    rw [hp2]
    exact h w' _ (I.tok _) rw'
theorem uU {h' : Heap} {t' : Nat} {ob : HO} (I : Inv X pins σ H s) (mu : Mut (H a)) (hs : Heap.SameBut a s.heap h') (he : ∃ q,h'.get? a = some q) (new : c7 X.prog X.w (upd H a ob) h' a ob) :
    Inv X pins σ (upd H a ob) { s with heap:=h',toks:=t' } :=
  I.write (x:=a) (e:=a) mu (.inl rfl) (fun b q hb z=>(hs.2 b hb).trans z) he new
theorem D0 {P : Program} {w : World} {H' : Hp} {h' : Heap} {kvs : List (Key × V)} {vs : List (Key × Value)} (z : kvs.length<=sizeLine) (hd : (a == sysModules) = false) (rel : KV kvs vs) (dd : h'.DictOf (bx P w) a vs) :
    c7 P w H' h' a (.dK kvs):=⟨z,hd,vs,rel,dd⟩
theorem BJ {H' : Hp} {Q : Unit->Shared->Prop} (hu : A.units + 1 < cLine) (I : Inv X pins σ H s) (g : Di H a y v H') (ry : bo y u) (rv : bo v r) (h : ∀ s',Inv X pins σ H' s'->Q () s') :
    wpAny (model X.prog X.w) A (setItem (.ref a) u r) Q E s:=by
  rcases g with ⟨kvs,k,e,ey,l,eH⟩ | ⟨kvs,k,b,e,ey,eb,l,eH⟩
  · subst ey eH
    obtain ⟨z,hd,vs,rel,dd⟩:=Ho I.hok e
    have hz : vs.length<=sizeLine:=by rw [← rel.length];exact z
    have hl : (iq kvs k v).length<=sizeLine:=by have:=j9 kvs k v;omega
    refine wpAny_setItem_pairs (hsz:=hz) (z9 ry) dd fun h' dd' hs=>h _ ?_
    have he : ∃ q,h'.get? a = some q:=let ⟨q,_,_,hq,_⟩:=dd';⟨q,hq⟩
    exact uU I (by rw [e];exact True.intro) hs he (D0 hl hd (rel.put k rv) dd')
  · subst ey eH
    cases (show u = Value.ref b from ry)
    obtain ⟨z,hd,xs,rel,dd⟩:=Jw I.hok e
    have hz : xs.length<=sizeLine:=by rw [← Paired.length rel];exact z
    have hl : (iq kvs k v).length<=sizeLine:=by have:=j9 kvs k v;omega
    refine wpAny_setItem_heap (hsz:=hz) (tupleKind_room_in1 hu) (y4 I.hok eb) dd fun h' dd' hs=>h _ ?_
    obtain ⟨q,es,ep,hq,h2,h3,h4,_,h5⟩:=dd'
    refine uU I (by rw [e];exact True.intro) hs ⟨q,hq⟩ ⟨hl,hd,_,(rel.put k eb rv).keeps fun c ys ec=>?_,q,es,ep,hq,h2,h3,h4,h5⟩
    rw [ax (Jt ec e (fun z=>nomatch z))]
    exact ec
end
section
variable {X : Cx} {pins : List (Addr × Obj)} {σ : St} {H : Hp} {s : Shared} {a : Addr} {kvs : List (Key × V)} {k : Key} {u : Value} {A : Around} {E : Value->Shared->Prop}
end
def Ji (i : Expr) : Prop:=∀ ov iv,subscripted i false ov iv = operate [ov,iv] (getItem ov iv)
theorem Af {prog : Program} {w : World} {A : Around} {E : Value->Shared->Prop} {s : Shared} {env : Env} {value slice : Expr} {pos : Pos} {T id : String} {Q : Value->Shared->Prop}
    (hl : typeLookup (.type T) "__getitem__" = pure (some (.builtin id))) (hs : Ji slice)
    (h : wpAny (model prog w) A (eval value env) (fun o s₁=>wpAny (model prog w) A (eval slice env) (fun i s₂=>s₂.TypeIs o T/\wpAny (model prog w) A (getItem o i) Q E s₂) E s₁) E s) :
    wpAny (model prog w) A (eval (.Subscript value slice pos) env) Q E s:=by
  refine Subscript_ (wpAny_mono h (fun o s₁ h₁=>wpAny_mono h₁ (fun i s₂ h₂=>?_) fun _ _ x=>x) fun _ _ x=>x)
  obtain ⟨hT,h₂⟩:=h₂
  unfold subscriptTail
  refine wpAny_bind ?_
  rw [getitemInPython_of_ne hT.not_modules]
  refine wpAny_bind (wpAny_specialOf hT hl ?_)
  have fin : wpAny (model prog w) A (subscripted slice false o i) (fun r s₃=>wpAny (model prog w) A (letTemporaryGo value o r >>= fun _=>pure r) Q E s₃) E s₂:=by
    rw [hs o i]
    exact wpAny_operating (wpAny_mono h₂ (fun r s₃ h₃=>wpAny_bind (wpAny_letTemporaryGo (wpAny_pure h₃))) fun _ _ x=>x)
  first
    | exact wpAny_pure (wpAny_bind fin)
    | exact wpAny_bind (wpAny_pure (wpAny_bind fin))
    | exact wpAny_bind fin
theorem xB {X : Cx} {pins : List (Addr × Obj)} {σ : St} {H : Hp} {s : Shared} {a : Addr} {y : V} {o : Option V} (I : Inv X pins σ H s) (g : Ck H a y o) : s.TypeIs (.ref a) "dict":=by
  rcases g with ⟨kvs,k,e,_,_⟩ | ⟨kvs,k,b,e,_,_,_⟩
  · obtain ⟨_,_,vs,_,dd⟩:=D8 I.hok e
    exact dd.typeIs
  · obtain ⟨_,_,xs,_,dd⟩:=D3 I.hok e
    exact dd.typeIs
def GB (td ty : TE) : TE:=fun σ H Q=>td σ H fun x H1=>ty σ H1 fun y H2=>∃ a v,x = .ref a/\Ck H2 a y (some v)/\Q v H2
def Hn (td ty tv : TE) : TS:=fun D σ H=>tv σ H fun v H1=>td σ H1 fun x H2=>ty σ H2 fun y H3=>∃ a H4,x = .ref a/\Di H3 a y v H4/\D.nx σ H4
section
variable {X : Cx} {o i e value : Expr} {pos pos' tpos : Pos} {td ty tv : TE}
theorem nF (hu : X.A.units + 1 < cLine) (ho : PE X o td) (hi : PE X i ty) (hs : Ji i) : PE X (.Subscript o i pos) (GB td ty):=.mk <| by
  intro pins s σ H Q I h
  refine Af PySem.F.slot_dict_getitem.lookup hs (thn (ho pins s σ H _ I h) fun u s1 ⟨x,H1,I1,rx,q1⟩=>thn (hi pins s1 σ H1 _ I1 q1) fun iv s2 ⟨y,H2,I2,ry,a,v,ex,g,q2⟩=>?_)
  subst ex
  obtain rfl : u = Value.ref a:=rx
  exact ⟨xB I2 g,Cr hu I2 g ry fun w' s3 I3 rw'=>⟨v,H2,I3,rw',q2⟩⟩
theorem vm (hu : X.A.units + 1 < cLine) (ho : PE X o td) (hi : PE X i ty) (hv : PE X value tv) (hs : swapsWith value (some (.Subscript o i pos')) pos.line X.env = pure false) :
    PS X (.Assign [.Subscript o i pos'] value pos) (Hn td ty tv):=.mk <| by
  intro pins s σ H D I h
  refine wpAny_Assign_Subscript (thn (hv pins s σ H _ I h) fun r s1 ⟨v,H1,I1,rv,q1⟩=>thn (ho pins s1 σ H1 _ I1 q1) fun u s2 ⟨x,H2,I2,rx,q2⟩=>thn (hi pins s2 σ H2 _ I2 q2) fun iv s3 ⟨y,H3,I3,ry,a,H4,ex,g,q3⟩=>?_) hs
  subst ex
  obtain rfl : u = Value.ref a:=rx
  exact BJ hu I3 g ry rv fun s4 I4=>⟨σ,H4,I4,q3⟩
end
theorem EI {P : Program} {w : World} {H : Hp} (h : Heap) (hb : sysModules < h.objs.size) : c7 P w H (h.push { cls:=.type "dict",data:=.dict #[] }) h.objs.size (.dK []) :=
  ⟨Nat.zero_le _,beq_eq_false_iff_ne.mpr (Ne.symm (Nat.ne_of_lt hb)),[],.nil,Heap.DictOf.new h⟩
section
variable {X : Cx} {pos : Pos}
end
def vS : List (TE × TE)->St->Hp->(List (V × V)->Hp->Prop)->Prop
  | [],_,H,Q=>Q [] H
  | (tk,tv) :: r,σ,H,Q=>tk σ H fun x H1=>tv σ H1 fun y H2=>vS r σ H2 fun ps H3=>Q ((x,y) :: ps) H3
abbrev VV : List (V × V)->List (Value × Value)->Prop:=Paired fun p q=>bo p.1 q.1/\bo p.2 q.2
def PPs (X : Cx) (pos : Pos) (keys : List (Option Expr)) (values : List Expr) (trs : List (TE × TE)) : Prop :=
  ∀ (pins : List (Addr × Obj)) (s : Shared) (σ : St) (H : Hp) (Q : List (V × V)->Hp->Prop),Inv X pins σ H s->vS trs σ H Q ->
    wpAny (model X.prog X.w) X.A (evalPairs (pairTrees keys values X.env pos)) (fun vs s'=>∃ ps H',Inv X pins σ H' s'/\VV ps vs/\Q ps H') X.xe s
theorem Fl {X : Cx} {pos : Pos} : PPs X pos [] [] []:=fun pins s σ H Q I h=>pairTrees_nil_walk ⟨[],H,I,.nil,h⟩
theorem qM {X : Cx} {pos : Pos} {k v : Expr} {ks : List (Option Expr)} {vs : List Expr} {tk tv : TE} {trs : List (TE × TE)} (hk : PE X k tk) (hv : PE X v tv) (hr : PPs X pos ks vs trs) :
    PPs X pos (some k :: ks) (v :: vs) ((tk,tv) :: trs):=fun pins s σ H Q I h =>
  pairTrees_cons_walk (thn (hk pins s σ H _ I h) fun u s1 ⟨x,H1,I1,rx,q1⟩=>thn (hv pins s1 σ H1 _ I1 q1) fun w2 s2 ⟨y,H2,I2,ry,q2⟩ =>
    thn (hr pins s2 σ H2 _ I2 q2) fun ws s3 ⟨ps,H3,I3,rel,q3⟩=>⟨(x,y) :: ps,H3,I3,.cons ⟨rx,ry⟩ rel,q3⟩)
def jW (kvs more : List (Key × V)) : List (Key × V):=more.foldl (fun acc kv=>iq acc kv.1 kv.2) kvs
theorem KV.merge : ∀ {more : List (Key × V)} {rs : List (Key × Value)} {kvs : List (Key × V)} {vs : List (Key × Value)},KV more rs->KV kvs vs->KV (jW kvs more) (merged vs rs):=by
  intro more rs kvs vs r
  unfold KV at r
  induction r generalizing kvs vs with
  | nil=>intro q;exact q
  | @cons p q ps qs h t ih =>
    intro r0
    have e : KV (iq kvs p.1 p.2) (stored vs q.1 q.2):=by
      have:=r0.put p.1 h.2
      rw [← h.1];exact this
    exact ih e
theorem l0 : ∀ (more kvs : List (Key × V)),(jW kvs more).length<=kvs.length + more.length
  | [],kvs=>by show kvs.length<=kvs.length + 0;omega
  | p :: r,kvs=>by
    have h1:=l0 r (iq kvs p.1 p.2)
    have h2:=j9 kvs p.1 p.2
    show (jW (iq kvs p.1 p.2) r).length<=_
    rw [List.length_cons];omega
theorem so {P : Program} {w : World} : ∀ {kvs : List (Key × V)} {ws : List (Value × Value)},VV (kvs.map fun kv=>(kV kv.1,kv.2)) ws->∃ rs,Carries (bx P w) ws rs/\KV kvs rs
  | [],_,r=>by rw [List.map_nil] at r;cases r;exact ⟨[],True.intro,.nil⟩
  | p :: kvs,_,r=>by
    rw [List.map_cons] at r
    cases r with
    | @cons a b as bs h t =>
      obtain ⟨rs,c,q⟩:=so (P:=P) (w:=w) t
      obtain ⟨b1,b2⟩:=b
      exact ⟨(p.1,b2) :: rs,⟨z9 h.1,rfl,c⟩,.cons ⟨rfl,h.2⟩ q⟩
def GD (trs : List (TE × TE)) : TE:=fun σ H Q=>∀ p,H p = none->vS trs σ (upd H p (.dK [])) fun ps H2=>H2 p = some (.dK [])/\∃ kvs : List (Key × V),ps = kvs.map (fun kv=>(kV kv.1,kv.2))/\kvs.length<=15/\Q (.ref p) (upd H2 p (.dK (jW [] kvs)))
theorem Fk {X : Cx} {pos : Pos} {keys : List (Option Expr)} {values : List Expr} {trs : List (TE × TE)} (h : PPs X pos keys values trs) (hall : keys.all (·.isSome) = true) (hl : keys.length = values.length) (h0 : keys≠[])
    (h15 : keys.length<=15) : PE X (.Dict keys values pos) (GD trs):=.mk <| by
  intro pins s σ H Q I q
  have hn:=I.hok.fresh (Nat.le_refl s.heap.objs.size)
  have I1:=I.laid (a:=s.heap.objs.size) (o:=.dK []) (h':=s.heap.push { cls:=.type "dict",data:=.dict #[] }) (t':=s.toks) (fun _ _ q=>Heap.get?_push_of_some _ q) (Nat.le_refl _) (EI s.heap I.big)
  refine wpAny_Dict_walk (knd:=bx X.prog X.w) hall hl h0 h15 (thn (h pins _ σ _ _ I1 (q _ hn)) fun ws s2 ⟨ps,H2,I2,rel,e,kvs,ep,lk,q2⟩=>?_)
  subst ep
  obtain ⟨rs,c,rk⟩:=so (P:=X.prog) (w:=X.w) rel
  obtain ⟨z,hd,vs0,r0,dd⟩:=Ho I2.hok e
  cases r0
  refine ⟨rs,c,dd,fun h' dd' hs=>⟨.ref s.heap.objs.size,_,?_,rfl,q2⟩⟩
  have hz : (jW [] kvs).length<=sizeLine:=by
    have h1:=l0 kvs []
    rw [List.length_nil] at h1
    rw [sizeLine_eq];omega
  have he : ∃ q,h'.get? s.heap.objs.size = some q:=let ⟨q,_,_,hq,_⟩:=dd';⟨q,hq⟩
  exact uU I2 (by rw [e];exact True.intro) hs he (D0 hz hd (rk.merge .nil) dd')
structure M1 (X : Cx) (o : Expr) (m : Str) (apos : Pos) (e : Expr) (cpos : Pos) : Prop where
  base : attributeBase o m X.env (eval o X.env) = eval o X.env
  few : ((backTo cpos (starEach [e] X.env)).all (fun x=>!x.1) && (backToKw cpos (keywordEach [] X.env)).all (fun x=>x.1.isSome)
    && decide (([e] : List Expr).length + ([] : List Keyword).length + (if ([] : List Keyword).isEmpty then 0 else 1) < 30)) = true
  line : (apos.endLine == cpos.line) = true
  trees : backTo cpos (starEach [e] X.env) = [(false,eval e X.env)]
structure M2 (X : Cx) (o : Expr) (m : Str) (apos : Pos) (e f : Expr) (cpos : Pos) : Prop where
  base : attributeBase o m X.env (eval o X.env) = eval o X.env
  few : ((backTo cpos (starEach [e,f] X.env)).all (fun x=>!x.1) && (backToKw cpos (keywordEach [] X.env)).all (fun x=>x.1.isSome)
    && decide (([e,f] : List Expr).length + ([] : List Keyword).length + (if ([] : List Keyword).isEmpty then 0 else 1) < 30)) = true
  line : (apos.endLine == cpos.line) = true
  trees : backTo cpos (starEach [e,f] X.env) = [(false,eval e X.env),(false,eval f X.env)]
section
variable {X : Cx} {pins : List (Addr × Obj)} {σ : St} {H : Hp} {s : Shared} {a : Addr} {y d : V} {u r : Value} {o : Option V} {A : Around} {E : Value->Shared->Prop}
end
section
variable {X : Cx} {o e f : Expr} {apos cpos : Pos} {td ty tx : TE}
end
section
variable {X : Cx} {pins : List (Addr × Obj)} {σ : St} {H : Hp} {s : Shared} {a : Addr} {kvs : List (Key × V)} {A : Around} {E : Value->Shared->Prop}
end
section
variable {X : Cx} {pins : List (Addr × Obj)} {σ : St} {H : Hp} {s : Shared} {a : Addr} {y : V} {u : Value} {A : Around} {E : Value->Shared->Prop}
end
end L2
namespace Att
open PySem PySem.W PySem.Calls PyProof.Rows
theorem qi {P : Params} {h : Heap} : ∀ (ns : List Int) (vs : List Value),WellAll P h vs (ns.map WData.int)->IntsAre vs ns:=by
  intro ns
  induction ns with
  | nil =>
    intro vs w
    rw [List.map_nil] at w
    cases w
    exact .nil
  | cons n ns ih =>
    intro vs w
    rw [List.map_cons] at w
    cases w with
    | cons a b =>
      cases a
      exact .cons _ _ (ih _ b)
theorem Cf {l : OpenLaw} {n : Nat} (hn : l.most = some n) {P : Params} {h : Heap} {args : List WData} {vals : List Value}
    (hpre : l.row.toRowW.claim.pre args = true) (hwl : WellAll P h vals args) :
    ∃ a vs ns,vals = [Value.ref a]/\args = [WData.list (ns.map WData.int)]/\h.get? a = some { cls:=.type "list",data:=.seq vs.toArray }/\IntsAre vs ns/\ns.length<=n:=by
  have hsh : WShape.hasAll [] args [.list .int] = true:=(pre_splitW hpre).1
  have hc : l.pre.holds [] { args:=args } = true:=(pre_splitW hpre).2
  obtain ⟨d,r,rfl,h1,h2⟩:=hasAllW_cons hsh
  obtain rfl:=hasAllW_nil h2
  obtain ⟨xs,rfl,h3⟩:=hasW_list h1
  obtain ⟨ns,rfl⟩:=items_int h3
  have hlen : ns.length<=n:=by
    unfold OpenLaw.pre at hc
    have h4 : (WTm.not (.lt (.lit (.int (n : Int))) (.len (.arg 0)))).holds [] { args:=[.list (ns.map .int)] } = true:=by
      have h4:=(holds_andW hc).1
      rw [hn] at h4
      exact h4
    have h5:=condW_of h4 (w_not (w_lt w_lit (w_len_list (w_arg rfl))))
    rw [List.length_map] at h5
    refine Nat.le_of_not_lt fun q=>?_
    have q' : (n : Int) < ((ns.length : Nat) : Int):=by omega
    first
      | (rw [decide_eq_true q'] at h5;exact absurd h5 (by decide))
      | (simp at h5;omega)
  cases hwl with
  | cons w1 w2 =>
    cases w2
    cases w1 with
    | list ho hall=>exact ⟨_,_,ns,rfl,rfl,ho,qi ns _ hall,hlen⟩
theorem B7 (l : OpenLaw) (args : List WData) : l.row.toRowW.claim.post args (.bool true) args = true :=
  postW_of (r:=l.row.toRowW) (X:=(true == true))
    (show WShape.has [] (.bool true) .bool = true by first | rfl | decide | simp [WShape.has,WShape.arms,WShape.armsAll])
    (show (WTm.eq .res (.lit (.bool true))).value [] { args:=args,res:=some (.bool true),after:=args } = some (.bool (true == true)) from w_eq_bool (w_res rfl) w_lit) rfl
theorem wF {l : OpenLaw} {n : Nat} {q : Program} {loose : List Str} {XP : (Str->Option Value)->Heap->Prop} {YP : World->Heap->Prop} {d : DefRec}
    (hn : l.most = some n) (hdf : d.params.defaults = [])
    (call : ∀ (w : World) (s₀ s₁ : Shared) (mg mb : Str->Option Value) (fa : Addr) (o : Obj) (pm cd doc : Value) (a : Addr) (vs : List Value) (ns : List Int),
      Ground q loose [] XP w s₀ mg mb s₁.heap->YP w s₁.heap ->
      s₁.heap.get? fa = some o->o.data = .func (docDef d.name d.params d.body d.scope pm cd doc)->s₁.heap.CodeRec cd d.name->mg d.name = some (.ref fa) ->
      s₁.heap.get? a = some { cls:=.type "list",data:=.seq vs.toArray }->IntsAre vs ns->ns.length<=n->s₁.gens = #[] ->
      codeAny (model l.prog w) callerA (.call (.ref fa) ⟨[.ref a],[]⟩) (fun r s'=>r = .ok (.ret (.bool true))/\OldK s₁.heap s'.heap/\s'.os = s₁.os/\AllBare s'.gens) s₁) :
    WalkO q loose XP YP l.row.toRowW d [] (fun f vs=>PySem.call f vs):=by
  intro w s₀ s₁ mg mb G Y fa o pm cd doc dV kV ho hd hcd hD hmg hg args vals as hpre hlay hrd hwl hlo
  obtain rfl : dV = .none:=Dflts.none hD hdf
  obtain rfl : kV = .none:=Dflts.noKw hD
  obtain ⟨a,vs,ns,rfl,rfl,hobj,hints,hlen⟩:=Cf hn hpre hwl
  refine enter_call (codeAny_mono (call w s₀ s₁ mg mb fa o pm cd doc a vs ns G Y ho (fd_plain hd) hcd hmg hobj hints hlen hg) fun r s' hq=>?_)
  obtain ⟨rfl,h2,h3,h4⟩:=hq
  exact ⟨.inl ⟨.bool true,.bool true,[],rfl,fun _=>rfl,.bool true,B7 l _,fun _=>⟨List.Pairwise.nil,fun _ hm=>(nomatch hm)⟩⟩,h2,h3,h4⟩
section
variable {prog : Program} {w : World} {A : Around} {E : Value->Shared->Prop} {s : Shared} {K : Frag}
end
end Att
namespace L2
open PySem PySem.Spec PyProof.Rows
theorem uB : ∀ {vs : List Value} {ns : List Int},IntsAre vs ns->ba (ns.map V.int) vs
  | _,_,.nil=>.nil
  | _,_,.cons n t h=>.cons ⟨t,rfl⟩ (uB h)
def Kh (_ : Hp) : Prop:=True
abbrev KOf {K : PySem.W.Frag} {h : Heap} (_ : K.In h) : PySem.W.Frag:=K
def defArgs (s : Stmt) : Arguments:=match s with
  | .FunctionDef _ a _ _ _ _ _ _ _ _=>a
  | _=>{ posonlyargs:=[],args:=[],vararg:=none,kwonlyargs:=[],kw_defaults:=[],kwarg:=none,defaults:=[] }
def defBody (s : Stmt) : List Stmt:=match s with
  | .FunctionDef _ _ b _ _ _ _ _ _ _=>b
  | _=>[]
def defScope (s : Stmt) : Scope:=match s with
  | .FunctionDef _ _ _ _ _ _ sc _ _ _=>sc
  | _=>{ kind:=.function,names:=[],isGenerator:=false,isCoroutine:=false }
abbrev CX0 : CXT:=fun _ _ _ _ _ _=>False
abbrev E0 : XK:=fun _ _ _=>False
theorem aB {X : Cx} : zw CX0 X E0:=fun _ _ _ _ _ _ _ h=>h.elim
structure Fun (K : PySem.W.Frag) (x qual : Str) (st : Stmt) (f : Addr) (fd : FuncData) : Prop where
  ex : ∃ (oc : Value) (od : Option Addr) (kV doc pm : Value) (an : Option Addr) (cdv ct : Value) (osl : Array (Option Value)),
    fd = PySem.W.fnOf x qual (defArgs st) (defBody st) (defScope st) .none kV doc pm an cdv ct/\K.lookup f = some ⟨oc,od,.func fd,osl⟩/\PySem.W.codeIn K cdv qual = true
  kp : PySem.W.keepIn K (.ref f) = true
section
variable {P : Program} {w : World} {K : PySem.W.Frag} {mg : Str->Option Value} {base : Heap}
theorem Fun.ok {x qual : Str} {st : Stmt} {f : Addr} {fd : FuncData} {N ps : List Str} {k : Nat} {sp : Sp} (F : Fun K x qual st f fd) (S : aH N ps (defScope st)) (len : ∀ vs H Q E,sp vs H Q E->vs.length = ps.length)
    (hbody : ∀ (cdv : Value) (A : Around) (outer : List Env) (s : Shared) (H : Hp) (vs : List V) (Q : VK) (E : XK),dN k (A.deeper (envOfC qual (defScope st) s.heap.objs.size f cdv))->sp vs H Q E ->
      ∃ t,PSs (kE CX0 P w K mg base N qual (defScope st) f cdv A outer s H E).nox (defBody st) t/\t { nx:=fun _ H'=>Q .non H',rt:=Q } (start N vs) H) : aJ P w K mg base CX0 (k + 1) f fd ps sp:=by
  obtain ⟨oc,od,kV,doc,pm,an,cdv,ct,osl,rfl,lk,hcd⟩:=F.ex
  refine Ea lk hcd S len fun A outer s H vs Q E hr hsp=>?_
  obtain ⟨t,h,q⟩:=hbody cdv A outer s H vs Q E hr hsp
  exact ⟨t,h.nox,q⟩
theorem Fun.binds {x qual : Str} {st : Stmt} {f : Addr} {fd : FuncData} {ps : List Str} (F : Fun K x qual st f fd)
    (h : ∀ (kV doc pm : Value) (an : Option Addr) (cdv ct : Value) (us : List Value),us.length = ps.length->bindArgs (PySem.W.fnOf x qual (defArgs st) (defBody st) (defScope st) .none kV doc pm an cdv ct) ⟨us,[]⟩ = pure (ps.zip us)) : a7 K fd ps []:=by
  obtain ⟨oc,od,kV,doc,pm,an,cdv,ct,osl,rfl,lk,hcd⟩:=F.ex
  exact .all (h kV doc pm an cdv ct)
theorem aX {x qual : Str} {st : Stmt} {f : Addr} {oc : Value} {od an : Option Addr} {osl : Array (Option Value)} {kV doc pm cdv ct : Value} (l : K.lookup f = some ⟨oc,od,.func (PySem.W.fnOf x qual (defArgs st) (defBody st) (defScope st) .none kV doc pm an cdv ct),osl⟩)
    (c : PySem.W.codeIn K cdv qual = true) (k : PySem.W.keepIn K (.ref f) = true) : Fun K x qual st f (PySem.W.fnOf x qual (defArgs st) (defBody st) (defScope st) .none kV doc pm an cdv ct):=⟨⟨oc,od,kV,doc,pm,an,cdv,ct,osl,rfl,l,c⟩,k⟩
end
theorem pT {A : Around} {k : Nat} (hr : dN k A) : A.units + 1 < cLine:=Nat.lt_of_le_of_lt (Nat.add_le_add_left (by decide : 1<=64) _) hr.units
theorem bi {n : Nat} (h : n<=1000) : n < sizeLine:=Nat.lt_of_le_of_lt h (by decide)
section
variable {X : Cx}
theorem pv (i : Nat) {x : Str} {pos : Pos} (hN : X.N[i]? = some x:=by rfl) (hv : Vis X.env.scope x:=by first | exact Or.inl rfl | exact Or.inr (Or.inl rfl) | exact Or.inr (Or.inr rfl)) (hd : (x == ("__debug__" : Str)) = false:=by decide)
    (hcd : (x == ("__classdict__" : Str)) = false:=by decide) : PE X (.Name x pos) (FJ i):=CD hN hv hd hcd
end
theorem JS {A B : Prop} (h : B) : if false = true then A else B:=by
  rw [if_neg Bool.false_ne_true]
  exact h
theorem J1 {A B : Prop} (h : A) : if true = true then A else B:=by
  rw [if_pos rfl]
  exact h
theorem gr {c A B : Prop} [Decidable c] (h1 : c->A) (h2 : ¬ c->B) : if c then A else B:=by
  by_cases h : c
  · rw [if_pos h]
    exact h1 h
  · rw [if_neg h]
    exact h2 h
def c6 (H H' : Hp) : Prop:=∀ b o,H b = some o->H' b = some o
theorem c6.refl (H : Hp) : c6 H H:=fun _ _ h=>h
theorem c6.trans {H H1 H2 : Hp} (a : c6 H H1) (b : c6 H1 H2) : c6 H H2:=fun c o h=>b c o (a c o h)
section
variable {κ : Type} [DecidableEq κ]
end
end L2
set_option maxHeartbeats 1000000
namespace L2
open PySem PySem.Spec PyProof.Rows
section
variable {prog : Program} {w : World} {A : Around} {E : Value->Shared->Prop} {R : Result->Shared->Prop} {s : Shared}
def iI (elt : Expr) (gens : List Comprehension) (scope : Scope) (pos : Pos) (d : Nat) (acc : Value) (env : Env) : Sem Unit :=
  match gens[d + 1]? with
  | some g'=>do
    let x ← eval g'.iter env
    standAt g'.iter.pos
    let x ← if g'.is_async != 0 then foldedIterable g'.iter x else foldedSetIterable g'.iter env x
    let _ ← runOwn (.compStart (.ListComp elt gens scope pos) (d + 1) (← holding [x] (if g'.is_async != 0 then asyncIter x else pyIter x)) acc env) env
  | none=>do let _ ← call (.builtin "list.append") [acc,← eval elt env]
theorem vM {elt target iter : Expr} {gens : List Comprehension} {ifs : List Expr} {scope : Scope} {pos : Pos} {d : Nat} {it acc : Value} {env : Env} (I : Nat->Shared->Prop)
    (hg : gens[d]? = some ⟨target,iter,ifs,0⟩) (ha : ∀ g',gens[d + 1]? = some g'->g'.is_async = 0)
    (turn : ∀ n s,I n s->wpAny (model prog w) A (pyNext it) (fun r s₁=>match r with
      | none=>R (.ok .next) s₁
      | some v=>wpAny (model prog w) A (letOwnedTupleGo target it v) (fun _ s₁'=>wpAny (model prog w) A (assign target env v) (fun _ s₂ =>
          wpAny (model prog w) A (forIn ifs true fun c r=>if r = true then do let ok ← isTrue c env (eval c env);pure (ForInStep.yield ok) else pure (ForInStep.yield r)) (fun ok s₃ =>
            if ok = true then wpAny (model prog w) A (iI elt gens scope pos d acc env) (fun _ s₅=>∃ m,m < n/\I m s₅) (fun _ _=>False) s₃
            else ∃ m,m < n/\I m s₃) (fun _ _=>False) s₂) (fun _ _=>False) s₁') (fun _ _=>False) s₁) (fun _ _=>False) s)
    (n : Nat) (h : I n s) :
    codeAny (model prog w) A (.compLoop (.ListComp elt gens scope pos) d it acc env) R s:=by
  refine codeAny_loop rfl I (fun n s hI=>?_) n h
  show wpAny _ A ((compTurn (.ListComp elt gens scope pos) d it acc env).onRaise (fun x=>do noteFrame x env;theTreesLotGoes x)) _ _ s
  refine wpAny_noted ?_
  unfold compTurn
  simp only [hg]
  refine wpAny_bind (wpAny_standAt (wpAny_bind (wpAny_mono (turn n s hI) (fun r s₁ h₁=>?_) fun _ _ x=>x.elim)))
  cases r with
  | none=>exact wpAny_pure h₁
  | some v =>
    refine wpAny_bind (wpAny_mono h₁ (fun _ s₁' h₁'=>?_) fun _ _ x=>x.elim)
    refine wpAny_bind (wpAny_mono h₁' (fun _ s₂ h₂=>wpAny_bind (wpAny_mono h₂ (fun ok s₃ h₃=>?_) fun _ _ x=>x.elim)) fun _ _ x=>x.elim)
    cases ok with
    | false=>exact wpAny_pure ⟨rfl,h₃⟩
    | true =>
      have h₃' : wpAny (model prog w) A (iI elt gens scope pos d acc env) (fun _ s₅=>∃ m,m < n/\I m s₅) (fun _ _=>False) s₃:=h₃
      unfold iI at h₃'
      rw [if_pos rfl]
      cases hd : gens[d + 1]? with
      | none =>
        rw [hd] at h₃'
        exact wpAny_bind (wpAny_mono h₃' (fun _ s₅ h₅=>wpAny_pure ⟨rfl,h₅⟩) fun _ _ x=>x.elim)
      | some g' =>
        rw [hd] at h₃'
        have h0:=ha g' hd
        have e0 : (g'.is_async != 0) = false:=by rw [h0];rfl
        dsimp only at h₃' ⊢
        simp only [e0,Bool.false_eq_true,if_false] at h₃' ⊢
        intro Γ p hΓ
        have q:=h₃' Γ p hΓ
        simp only [Sem.wp_bind'] at q ⊢
        refine Sem.wp_mono _ Γ _ (fun x p₁ s₄ q₁=>?_) (fun _ _ _ z=>z.elim) _ _ q
        refine Sem.wp_mono _ Γ _ (fun _ p₂ s₄ q₂=>?_) (fun _ _ _ z=>z.elim) _ _ q₁
        refine Sem.wp_mono _ Γ _ (fun x p₂ s₄ q₂=>?_) (fun _ _ _ z=>z.elim) _ _ q₂
        refine Sem.wp_mono _ Γ _ (fun x p₂ s₄ q₂=>?_) (fun _ _ _ z=>z.elim) _ _ q₂
        refine Sem.wp_mono _ Γ _ (fun x p₂ s₄ q₂=>?_) (fun _ _ _ z=>z.elim) _ _ q₂
        exact ⟨rfl,q₂⟩
end
section
variable {prog : Program} {w : World} {A : Around} {E : Value->Shared->Prop} {R : Result->Shared->Prop} {s : Shared}
theorem l8 {elt target iter : Expr} {gens : List Comprehension} {ifs : List Expr} {scope : Scope} {pos : Pos} {d : Nat} {it acc : Value} {env : Env}
    (hg : gens[d]? = some ⟨target,iter,ifs,0⟩)
    (h0 : codeAny (model prog w) A (.compLoop (.ListComp elt gens scope pos) d it acc env) R s)
    (h : wpAny (model prog w) A (pyIter it) (fun it' s'=>codeAny (model prog w) A (.compLoop (.ListComp elt gens scope pos) d it' acc env) R s') (fun _ _=>False) s) :
    codeAny (model prog w) A (.compStart (.ListComp elt gens scope pos) d it acc env) R s:=by
  refine codeAny_of_tree ?_
  show wpAny _ _ ((compStart (.ListComp elt gens scope pos) d it acc env).onRaise (fun x=>do noteFrame x env;standAt theWindowsPlace)) _ _ s
  refine wpAny_notedAt ?_
  unfold compStart
  have hcl : clausesOf (.ListComp elt gens scope pos) = gens:=rfl
  simp only [hcl,hg,Option.elim]
  refine wpAny_ite ?_
  rw [if_neg (by decide)]
  refine wpAny_bind (wpAny_askSetting (wpAny_ite ?_))
  split
  · first
      | exact wpAny_bind (wpAny_pure (wpAny_pure (And.intro rfl h0)))
      | exact wpAny_pure (And.intro rfl h0)
  · exact wpAny_bind (wpAny_rule (wpAny_bind (wpAny_standAt (wpAny_bind (wpAny_mono h (fun it' s' h'=>wpAny_pure (And.intro rfl h')) fun _ _ x=>x.elim)))))
end
abbrev TL:=Addr->St->Hp->(St->Hp->Prop)->Prop
def PL (X : Cx) (elt : Expr) (gens : List Comprehension) (scope : Scope) (pos : Pos) (d : Nat) (t : TL) : Prop :=
  ∀ (pins : List (Addr × Obj)) (s : Shared) (σ : St) (H : Hp) (acc : Addr) (K : St->Hp->Prop),Inv X pins σ H s->t acc σ H K ->
    wpAny (model X.prog X.w) X.A (iI elt gens scope pos d (.ref acc) X.env) (fun _ s'=>∃ σ' H',Inv X pins σ' H' s'/\K σ' H') (fun _ _=>False) s
def PTs (X : Cx) (ifs : List Expr) (t : TT) : Prop :=
  ∀ (pins : List (Addr × Obj)) (s : Shared) (σ : St) (H : Hp) (Q : Bool->Hp->Prop),Inv X pins σ H s->t σ H Q ->
    wpAny (model X.prog X.w) X.A (forIn ifs true fun c r=>if r = true then do let ok ← isTrue c X.env (eval c X.env);pure (ForInStep.yield ok) else pure (ForInStep.yield r)) (TP X pins σ Q) X.xe s
def zY : TT:=fun _ H Q=>Q true H
def GC (te : TE) : TL:=fun acc σ H K=>te σ H fun y H1=>∃ xs,H1 acc = some (.lst xs)/\xs.length < sizeLine/\K σ (upd H1 acc (.lst (xs ++ [y])))
def Aa (J : It) (g : TG) (tc : TT) (l : TL) : TL:=fun acc σ H K=>∃ W : Nat->Nat->St->Hp->Prop,(∃ m,W 0 m σ H)/\∀ i m σ H,W i m σ H ->
  (J.stop i H/\K σ H)\/(J.go i H/\∀ x H',J.yld i H x H'->g x σ H' fun σ2 H2=>tc σ2 H2 fun b H3 =>
    if b = true then l acc σ2 H3 (fun σ3 H4=>∃ m',m' < m/\W (i + 1) m' σ3 H4) else ∃ m',m' < m/\W (i + 1) m' σ2 H3)
def Ky (wi : TI) (g : TG) (tc : TT) (l : TL) : TL:=fun acc σ H K=>wi σ H fun J H1=>Aa J g tc l acc σ H1 K
section
variable {X : Cx} {elt : Expr} {gens : List Comprehension} {scope : Scope} {pos : Pos} {d : Nat} {te : TE} {l : TL} {tg iter : Expr} {ifs : List Expr} {wi : TI} {g : TG} {tc : TT}
theorem fy : PTs X [] zY:=fun pins s σ H Q I h=>wpAny_tests_nil ⟨H,I,h⟩
theorem fC {c : Expr} (hc : PT X c tc) : PTs X [c] tc:=fun pins s σ H Q I h=>wpAny_tests_one (hc pins s σ H Q I h)
theorem bX (hx : X.xe = fun _ _=>False) (hd : gens[d + 1]? = none) (he : PE X elt te) : PL X elt gens scope pos d (GC te):=by
  intro pins s σ H acc K I h
  unfold iI
  rw [hd]
  have he':=he pins s σ H _ I h
  rw [hx] at he'
  refine wpAny_bind (thn he' fun u s1 ⟨y,H1,I1,r1,xs,e1,z1,k1⟩=>?_)
  have ha:=bg pins s1 σ H1 (.ref acc) [y] (.ref acc) [u] (fun v H2=>v = .non/\H2 = upd H1 acc (.lst (xs ++ [y]))) I1 rfl (.cons r1 .nil) ⟨acc,xs,y,rfl,rfl,e1,z1,rfl,rfl⟩
  rw [hx] at ha
  refine wpAny_bind (thn ha fun v s2 ⟨v',H2,I2,r2,e2,e3⟩=>wpAny_pure ⟨σ,H2,I2,by rw [e3];exact k1⟩)
theorem uA (hx : X.xe = fun _ _=>False) (hc : X.calm = true) (hd : gens[d]? = some ⟨tg,iter,ifs,0⟩) (ha : ∀ g',gens[d + 1]? = some g'->g'.is_async = 0) (hg : PG X tg g) (ht : PTs X ifs tc) (hl : PL X elt gens scope pos d l)
    {pins : List (Addr × Obj)} {s : Shared} {σ : St} {H : Hp} {acc it : Addr} {fp : List Addr} {tn : Nat->Heap->Prop} {J : It} {K : St->Hp->Prop} {R : Result->Shared->Prop} (I : Inv X pins σ H s) (T : yx X.prog X.w X.K tg J fp it tn) (st : tn 0 s.heap) (f2 : ∀ b∈fp,lR X pins H b)
    (h : Aa J g tc l acc σ H K) (hR : ∀ σ' H' s',Inv X pins σ' H' s'->K σ' H'->R (.ok .next) s') :
    codeAny (model X.prog X.w) X.A (.compLoop (.ListComp elt gens scope pos) d (.ref it) (.ref acc) X.env) R s:=by
  obtain ⟨W,⟨m0,w0⟩,turn⟩:=h
  have stat : ∀ {H' : Hp},(∀ b∈fp,H' b = none)->∀ b∈fp,lR X pins H' b:=fun hn b hb=>⟨hn b hb,(f2 b hb).2⟩
  refine vM (fun n s'=>∃ i σ' H',Inv X pins σ' H' s'/\tn i s'.heap/\(∀ b∈fp,H' b = none)/\W i n σ' H') hd ha ?_ m0 ⟨0,σ,H,I,st,fun b hb=>(f2 b hb).1,w0⟩
  rintro n s3 ⟨i,σ3,H3,I3,st3,fr3,w3⟩
  rcases turn i n σ3 H3 w3 with ⟨stop,qn⟩ | ⟨go,step⟩
  · refine thn (T.done X rfl rfl rfl hc i pins s3 σ3 H3 _ I3 (stat fr3) st3 stop) fun r s4 ⟨hr,I4⟩=>?_
    subst hr
    exact hR σ3 H3 s4 I4 qn
  · refine thn (T.item X rfl rfl rfl hc i pins s3 σ3 H3 _ I3 (stat fr3) st3 go) fun r s4 ⟨u,hr,h4⟩=>?_
    subst hr
    refine thn h4 fun _ s5 ⟨x,H5,I5,r5,y5,st5,fr5⟩=>?_
    have I5':=I5.pinned (stat fr5) (T.obj _ _ st5)
    have again : ∀ {σ7 : St} {H7 : Hp} {s7 : Shared} {m' : Nat},Inv X (pins ++ qY fp s5.heap) σ7 H7 s7->m' < n->W (i + 1) m' σ7 H7->∃ m,m < n/\∃ i σ' H',Inv X pins σ' H' s7/\tn i s7.heap/\(∀ b∈fp,H' b = none)/\W i m σ' H':=fun {σ7 H7 s7 m'} I7 hm w7=>by
      refine ⟨m',hm,i + 1,σ7,H7,I7.unpinned,T.keep _ _ _ st5 fun b hb o e=>(I7.pin (b,o) (List.mem_append_right _ (List.mem_append_right _ (ja hb e)))).1,fun b hb=>?_,w7⟩
      obtain ⟨o,e,d⟩:=T.obj _ _ st5 b hb
      exact (I7.pin (b,o) (List.mem_append_right _ (List.mem_append_right _ (ja hb e)))).2.1
    have hg':=hg _ s5 σ3 H5 x u _ I5' r5 (step x H5 y5)
    rw [hx] at hg'
    refine thn hg' fun _ s6 ⟨σ6,H6,I6,q6⟩=>?_
    have ht':=ht _ s6 σ6 H6 _ I6 q6
    rw [hx] at ht'
    refine thn ht' fun ok s7 ⟨H7,I7,q7⟩=>?_
    cases ok with
    | false =>
      rw [if_neg Bool.false_ne_true] at q7 ⊢
      obtain ⟨m',hm,w7⟩:=q7
      exact again I7 hm w7
    | true =>
      rw [if_pos rfl] at q7 ⊢
      refine thn (hl _ s7 σ6 H7 acc _ I7 q7) fun _ s8 ⟨σ8,H8,I8,m',hm,w8⟩=>?_
      exact again I8 hm w8
theorem HF (hx : X.xe = fun _ _=>False) (hc : X.calm = true) (hd : gens[d + 1]? = some ⟨tg,iter,ifs,0⟩) (ha : ∀ g',gens[d + 2]? = some g'->g'.is_async = 0) (hi : PI X tg iter wi) (hg : PG X tg g) (ht : PTs X ifs tc) (hl : PL X elt gens scope pos (d + 1) l)
    (hs : ∀ x,foldedSetIterable iter X.env x = pure x:=by intro _;rfl) : PL X elt gens scope pos d (Ky wi g tc l):=by
  intro pins s σ H acc K I h
  unfold iI
  rw [hd]
  dsimp only
  have e0 : ((0 : Int) != 0) = false:=by decide
  simp only [show (((⟨tg,iter,ifs,0⟩ : Comprehension).is_async != 0) = false) from rfl,Bool.false_eq_true,if_false]
  have hi':=hi pins s σ H _ I h
  rw [hx] at hi'
  refine wpAny_bind (thn hi' fun v s1 h1=>wpAny_bind (wpAny_standAt (wpAny_bind (wpAny_of_eq (hs v) ?_))))
  refine wpAny_bind (wpAny_holding (thn h1 fun itv s2 h2=>?_))
  obtain ⟨it,fp,tn,J,H2,e,I2,T,st2,f2,q⟩:=h2
  subst e
  have loop : codeAny (model X.prog X.w) X.A (.compLoop (.ListComp elt gens scope pos) (d + 1) (.ref it) (.ref acc) X.env) (fun r s'=>match r with | .ok f=>wpAny (model X.prog X.w) X.A (pure () : Sem Unit) (fun _ s'=>∃ σ' H',Inv X pins σ' H' s'/\K σ' H') (fun _ _=>False) s' | .error e=>cameBackBy (model X.prog X.w) X.A X.env (fun _ _=>False) e s') s2 :=
    uA hx hc hd ha hg ht hl I2 T st2 f2 q fun σ' H' s' I' k'=>wpAny_pure ⟨σ',H',I',k'⟩
  exact wpAny_bind (wpAny_runOwn (l8 hd loop (T.self X.A 0 s2 _ _ st2 loop)))
end
def jM (env : Env) : List (Str × NameKind)->List (Str × Addr)->List (Str × Addr)
  | [],acc=>acc
  | (n,k) :: r,acc=>if k == .free then jM env r ((n,(env.cells.lookup n).getD 0) :: acc) else jM env r acc
theorem zA {scope : Scope} {env : Env} (h : ∀ y∈scope.names,y.2 = .free->∃ c,env.cells.lookup y.1 = some c) : closureFor scope env = pure (jM env scope.names []):=by
  have gen : ∀ (names : List (Str × NameKind)) (acc : List (Str × Addr)),(∀ y∈names,y.2 = .free->∃ c,env.cells.lookup y.1 = some c) ->
      (forIn names acc fun (x : Str × NameKind) (r : List (Str × Addr))=>(if (x.2 == NameKind.free) = true then do let a ← cellOf env x.1;pure (ForInStep.yield ((x.1,a) :: r)) else pure (ForInStep.yield r) : Sem _)) = pure (jM env names acc):=by
    intro names
    induction names with
    | nil=>intro acc _;rfl
    | cons y r ih =>
      intro acc hy
      obtain ⟨n,k⟩:=y
      rw [List.forIn_cons]
      unfold jM
      cases hk : k == NameKind.free with
      | true =>
        obtain ⟨c,hc⟩:=hy (n,k) (List.mem_cons_self ..) (by simpa using hk)
        simp only [hk,if_true,cellOf,hc,Option.getD_some]
        exact ih _ fun y hy'=>hy y (List.mem_cons_of_mem _ hy')
      | false =>
        simp only [hk,Bool.false_eq_true,if_false]
        exact ih _ fun y hy'=>hy y (List.mem_cons_of_mem _ hy')
  have:=gen scope.names [] h
  unfold closureFor
  show ((forIn scope.names ([] : List (Str × Addr)) fun (x : Str × NameKind) (r : List (Str × Addr))=>(if (x.2 == NameKind.free) = true then do let a ← cellOf env x.1;pure (ForInStep.yield ((x.1,a) :: r)) else pure (ForInStep.yield r) : Sem _)) >>= fun z=>pure z) = _
  rw [this]
  rfl
theorem iL {env : Env} : ∀ {names : List (Str × NameKind)} {acc : List (Str × Addr)} {n : Str} {c : Addr},(n,c)∈jM env names acc->(n,c)∈acc\/((n,NameKind.free)∈names/\c = (env.cells.lookup n).getD 0)
  | [],_,_,_,h=>.inl h
  | (m,k) :: r,acc,n,c,h=>by
    unfold jM at h
    split at h
    · rename_i hk
      rcases iL h with h | ⟨h1,h2⟩
      · rcases List.mem_cons.mp h with e | e
        · cases e
          have : k = .free:=by simpa using hk
          subst this
          exact .inr ⟨List.mem_cons_self ..,rfl⟩
        · exact .inl e
      · exact .inr ⟨List.mem_cons_of_mem _ h1,h2⟩
    · rcases iL h with h | ⟨h1,h2⟩
      · exact .inl h
      · exact .inr ⟨List.mem_cons_of_mem _ h1,h2⟩
theorem nK {env : Env} : ∀ {names : List (Str × NameKind)} {acc : List (Str × Addr)} {n : Str},((n,NameKind.free)∈names\/∃ c,(n,c)∈acc)->∃ c,(n,c)∈jM env names acc
  | [],_,_,h=>by
    rcases h with h | h
    · cases h
    · exact h
  | (m,k) :: r,acc,n,h=>by
    unfold jM
    split
    · rename_i hk
      apply nK
      rcases h with h | ⟨c,h⟩
      · rcases List.mem_cons.mp h with e | e
        · cases e;exact .inr ⟨_,List.mem_cons_self ..⟩
        · exact .inl e
      · exact .inr ⟨c,List.mem_cons_of_mem _ h⟩
    · rename_i hk
      apply nK
      rcases h with h | h
      · rcases List.mem_cons.mp h with e | e
        · cases e;simp at hk
        · exact .inl e
      · exact .inr h
theorem gZ : ∀ {names : List (Str × NameKind)} {h : Heap} {acc : List (Str × Addr)} {n : Str} {c : Addr},(n,c)∈cellsFrom h.objs.size names acc ->
    (n,c)∈acc\/((n,NameKind.cell)∈names/\h.objs.size<=c/\(pushCells h names).IsCell c none)
  | [],_,_,_,_,m=>.inl m
  | (x,k) :: r,h,acc,n,c,m=>by
    unfold cellsFrom at m
    unfold pushCells
    split at m
    · rename_i hk
      rw [if_pos hk]
      have sz : (h.push { cls:=.type "cell",data:=.cell none }).objs.size = h.objs.size + 1:=Heap.size_push ..
      rw [← sz] at m
      rcases gZ m with m | ⟨m1,m2,m3⟩
      · rcases List.mem_cons.mp m with e | e
        · cases e
          have : k = .cell:=by simpa using hk
          subst this
          exact .inr ⟨List.mem_cons_self ..,Nat.le_refl _,⟨_,pushCells_keeps _ _ _ _ (Heap.get?_push_size _ rfl),rfl⟩⟩
        · exact .inl e
      · exact .inr ⟨List.mem_cons_of_mem _ m1,by omega,m3⟩
    · rename_i hk
      rw [if_neg hk]
      rcases gZ m with m | ⟨m1,m2,m3⟩
      · exact .inl m
      · exact .inr ⟨List.mem_cons_of_mem _ m1,m2,m3⟩
theorem dL : ∀ {names : List (Str × NameKind)} {k : Nat} {acc : List (Str × Addr)} {n : Str},((n,NameKind.cell)∈names\/∃ c,(n,c)∈acc)->∃ c,(n,c)∈cellsFrom k names acc
  | [],_,_,_,h=>by
    rcases h with h | h
    · cases h
    · exact h
  | (m,k) :: r,j,acc,n,h=>by
    unfold cellsFrom
    split
    · rename_i hk
      apply dL
      rcases h with h | ⟨c,h⟩
      · rcases List.mem_cons.mp h with e | e
        · cases e;exact .inr ⟨_,List.mem_cons_self ..⟩
        · exact .inl e
      · exact .inr ⟨c,List.mem_cons_of_mem _ h⟩
    · rename_i hk
      apply dL
      rcases h with h | h
      · rcases List.mem_cons.mp h with e | e
        · cases e;simp at hk
        · exact .inl e
      · exact .inr h
theorem gY : ∀ {names : List (Str × NameKind)} {k : Nat} {acc : List (Str × Addr)},(∀ n c,(n,c)∈acc->c < k)->(∀ n m c,(n,c)∈acc->(m,c)∈acc->n = m) ->
    ∀ n m c,(n,c)∈cellsFrom k names acc->(m,c)∈cellsFrom k names acc->n = m
  | [],_,_,_,h2,n,m,c,a,b=>h2 n m c a b
  | (x,kd) :: r,k,acc,h1,h2,n,m,c,a,b=>by
    unfold cellsFrom at a b
    split at a
    · rename_i hk
      rw [if_pos hk] at b
      refine gY (k:=k + 1) ?_ ?_ n m c a b
      · intro n c h
        rcases List.mem_cons.mp h with e | e
        · cases e;exact Nat.lt_succ_self _
        · exact Nat.lt_succ_of_lt (h1 n c e)
      · intro n m c h h'
        rcases List.mem_cons.mp h with e | e<;>rcases List.mem_cons.mp h' with e' | e'
        · cases e;cases e';rfl
        · cases e;exact absurd (h1 _ _ e') (Nat.lt_irrefl _)
        · cases e';exact absurd (h1 _ _ e) (Nat.lt_irrefl _)
        · exact h2 n m c e e'
    · rename_i hk
      rw [if_neg hk] at b
      exact gY h1 h2 n m c a b
theorem ek {α : Type} : ∀ {l : List (Str × α)} {n : Str},(∃ c,(n,c)∈l)->∃ c,l.lookup n = some c
  | [],_,⟨_,h⟩=>by cases h
  | (k,v) :: r,n,⟨c,h⟩=>by
    rw [List.lookup_cons]
    cases hb : n == k with
    | true=>exact ⟨v,rfl⟩
    | false =>
      rcases List.mem_cons.mp h with e | e
      · cases e;simp at hb
      · exact ek ⟨c,e⟩
def dn (scope osc : Scope) (N : List Str) (src : List (Option Nat)) (ON : List Str) : Bool :=
  (scope.kind == .function) && (osc.kind == .function) && decide (src.length = N.length) &&
  (scope.names.all fun y=>(scope.names.lookup y.1 == some y.2) && (if y.2 == .free then osc.names.lookup y.1 == some .cell else true)) &&
  ((N.zip src).all fun p=>match p.2 with | none=>true | some j=>(ON[j]? == some p.1) && (scope.names.lookup p.1 == some .free))
def x8 (src : List (Option Nat)) (σ : St) : St:=src.map fun o=>match o with | none=>none | some j=>(σ[j]?).join
def Cx.blk (X : Cx) (scope : Scope) (N : List Str) (cs : List (Str × Addr)) (C : Addr) (s : Shared) (H : Hp) (ex : List Addr) (pn : List (Addr × Obj)) : Cx :=
  { X with N:=N,s₀:=s,H₀:=H,env:=compEnvC scope cs C X.env,outer:=X.stack,stack:=X.stack,ex:=ex,fn:=fun x=>decide (scope.names.lookup x = some .cell),pn:=pn,xe:=fun _ _=>False }
section
variable {X : Cx} {pins : List (Addr × Obj)} {σ : St} {H : Hp} {s : Shared} {scope : Scope} {N : List Str} {src : List (Option Nat)}
theorem ud {osc : Scope} {ON : List Str} (h : dn scope osc N src ON = true) : scope.kind = .function/\osc.kind = .function/\src.length = N.length /\
    (∀ y∈scope.names,scope.names.lookup y.1 = some y.2)/\(∀ y∈scope.names,y.2 = .free->osc.names.lookup y.1 = some .cell) /\
    (∀ (i : Nat) (x : Str) (j : Nat),N[i]? = some x->src[i]? = some (some j)->ON[j]? = some x/\scope.names.lookup x = some .free):=by
  unfold dn at h
  simp only [Bool.and_eq_true,decide_eq_true_eq,beq_iff_eq,List.all_eq_true] at h
  obtain ⟨⟨⟨⟨h1,h2⟩,h3⟩,h4⟩,h5⟩:=h
  refine ⟨h1,h2,h3,fun y hy=>(h4 y hy).1,fun y hy e=>?_,fun i x j e1 e2=>?_⟩
  · have:=(h4 y hy).2
    rw [e] at this
    simpa using this
  · have hm : (x,some j)∈N.zip src:=by
      apply List.mem_of_getElem? (i:=i)
      rw [List.getElem?_zip_eq_some]
      exact ⟨e1,e2⟩
    have:=h5 _ hm
    simpa using this
theorem kl {env : Env} (hk : env.scope.kind = .function) : ∀ {names : List (Str × NameKind)} {x : Str} {k : NameKind},names.lookup x = some k->(k = .free->env.kindOf x = some .cell) ->
    (names.map fun (n,k)=>if (k == NameKind.free && env.scope.kind == .function && env.kindOf n == some .cell) then (n,NameKind.cell) else (n,k)).lookup x = some (if k = .free then .cell else k)
  | [],_,_,h,_=>by simp at h
  | (n,k') :: r,x,k,h,hf=>by
    have ih:=@kl env hk r x k
    show List.lookup x ((if (k' == NameKind.free && env.scope.kind == .function && env.kindOf n == some .cell) = true then (n,NameKind.cell) else (n,k')) :: _) = _
    cases hx : x == n with
    | true =>
      simp only [List.lookup_cons,hx] at h
      have e : x = n:=by simpa using hx
      subst e
      cases h
      by_cases hfr : k' = .free
      · have:=hf hfr
        subst hfr
        rw [if_pos (by rw [this,hk];rfl)]
        simp [List.lookup_cons]
      · have hfr' : (k' == NameKind.free) = false:=by simpa using hfr
        rw [if_neg (by rw [hfr'];simp),if_neg hfr]
        simp [List.lookup_cons]
    | false =>
      simp only [List.lookup_cons,hx] at h
      by_cases hc : (k' == NameKind.free && env.scope.kind == .function && env.kindOf n == some .cell) = true
      · rw [if_pos hc];simp only [List.lookup_cons,hx];exact ih h hf
      · rw [if_neg hc];simp only [List.lookup_cons,hx];exact ih h hf
theorem ym {env : Env} {names : List (Str × NameKind)} {x : Str} (h : (names.map fun (n,k)=>if (k == NameKind.free && env.scope.kind == .function && env.kindOf n == some .cell) then (n,NameKind.cell) else (n,k)).lookup x = some .cell) :
    (x,NameKind.cell)∈names\/(x,NameKind.free)∈names:=by
  have hm:=mem_of_lookup h
  obtain ⟨⟨n,k⟩,hy,e⟩:=List.mem_map.mp hm
  dsimp only at e
  split at e
  · rename_i hc
    cases e
    simp only [Bool.and_eq_true,beq_iff_eq] at hc
    rw [hc.1.1] at hy
    exact .inr hy
  · cases e;exact .inl hy
theorem wv {env : Env} {names : List (Str × NameKind)} {x : Str} (hk : env.scope.kind = .function) (hfr : ∀ y∈names,y.2 = .free->env.kindOf y.1 = some .cell)
    (h : (names.map fun (n,k)=>if (k == NameKind.free && env.scope.kind == .function && env.kindOf n == some .cell) then (n,NameKind.cell) else (n,k)).lookup x = some .free) : False:=by
  have hm:=mem_of_lookup h
  obtain ⟨⟨n,k⟩,hy,e⟩:=List.mem_map.mp hm
  dsimp only at e
  split at e
  · cases e
  · rename_i hc
    cases e
    have:=hfr _ hy rfl
    exact hc (by rw [this,hk];rfl)
theorem Ce {fp : List Addr} (I : Inv X pins σ H s) (hb : dn scope X.env.scope N src X.N = true) (f2 : ∀ b∈fp,lR X pins H b) (fo : ∀ b∈fp,∃ o,s.heap.get? b = some o) {t : Nat} :
    Inv (X.blk scope N (cellsFrom (s.heap.objs.size + 1) scope.names (jM X.env scope.names [])) s.heap.objs.size s H fp (X.pn ++ pins)) [] (x8 src σ) H { s with heap:=pushCells (s.heap.push { cls:=.type "dict",data:=.dict #[] }) scope.names,toks:=t }:=by
  obtain ⟨hk,hok,hlen,hnd,hfr,hsrc⟩:=ud hb
  have keep : ∀ b o,s.heap.get? b = some o->(pushCells (s.heap.push { cls:=.type "dict",data:=.dict #[] }) scope.names).get? b = some o:=fun b o e=>pushCells_keeps _ _ b o (Heap.get?_push_of_some _ e)
  have hfr' : ∀ y∈scope.names,y.2 = .free->X.env.kindOf y.1 = some .cell:=hfr
  have sz : (s.heap.push { cls:=.type "dict",data:=.dict #[] }).objs.size = s.heap.objs.size + 1:=Heap.size_push ..
  have cell : ∀ n c,(n,c)∈cellsFrom (s.heap.objs.size + 1) scope.names (jM X.env scope.names []) ->
      (X.env.cells.lookup n = some c/\(n,NameKind.free)∈scope.names)\/((n,NameKind.cell)∈scope.names/\s.heap.objs.size < c/\(pushCells (s.heap.push { cls:=.type "dict",data:=.dict #[] }) scope.names).IsCell c none):=by
    intro n c h
    rw [← sz] at h
    rcases gZ h with h | ⟨h1,h2,h3⟩
    · rcases iL h with h | ⟨h1,h2⟩
      · cases h
      · obtain ⟨c',hc'⟩:=I.ok.has n (.inl (hfr' _ h1 rfl))
        rw [hc'] at h2
        exact .inl ⟨by rw [hc',h2];rfl,h1⟩
    · exact .inr ⟨h1,by rw [sz] at h2;exact h2,h3⟩
  have oldc : ∀ n c,X.env.cells.lookup n = some c->c < s.heap.objs.size:=fun n c e=>by
    obtain ⟨v,o,ho,_⟩:=I.cell n c e
    exact Heap.lt_size ho
  have hH : H s.heap.objs.size = none:=I.hok.fresh (Nat.le_refl _)
  have ok : (X.blk scope N (cellsFrom (s.heap.objs.size + 1) scope.names (jM X.env scope.names [])) s.heap.objs.size s H fp (X.pn ++ pins)).Ok:={
    mod:=I.ok.mod
    kind:=hk
    glob:=I.ok.glob
    blt:=I.ok.blt
    above:=Nat.le_refl _
    inj:=fun x y c a b=>by
      refine gY (k:=s.heap.objs.size + 1) (acc:=jM X.env scope.names []) ?_ ?_ x y c (mem_of_lookup a) (mem_of_lookup b)
      · intro n c h
        rcases iL h with h | ⟨h1,h2⟩
        · cases h
        · obtain ⟨c',hc'⟩:=I.ok.has n (.inl (hfr' _ h1 rfl))
          rw [hc'] at h2
          rw [h2]
          exact Nat.lt_succ_of_lt (oldc n c' hc')
      · intro n m c h h'
        rcases iL h with h | ⟨h1,h2⟩
        · cases h
        · rcases iL h' with h' | ⟨h1',h2'⟩
          · cases h'
          · obtain ⟨c1,hc1⟩:=I.ok.has n (.inl (hfr' _ h1 rfl))
            obtain ⟨c2,hc2⟩:=I.ok.has m (.inl (hfr' _ h1' rfl))
            rw [hc1] at h2
            rw [hc2] at h2'
            have e1 : c = c1:=h2
            have e2 : c = c2:=h2'
            exact I.ok.inj n m c (by rw [e1];exact hc1) (by rw [e2];exact hc2)
    has:=fun x h=>by
      have hm : (x,NameKind.cell)∈scope.names\/(x,NameKind.free)∈scope.names:=by
        rcases h with h | h
        · exact ym (env:=X.env) h
        · exact (wv (env:=X.env) hok hfr' h).elim
      have : ∃ c,(x,c)∈cellsFrom (s.heap.objs.size + 1) scope.names (jM X.env scope.names []):=by
        rcases hm with hm | hm
        · exact dL (.inl hm)
        · exact dL (.inr (nK (.inl hm)))
      exact ek this
    cab:=fun x c hf e=>by
      have hf' : scope.names.lookup x = some .cell:=of_decide_eq_true hf
      rcases cell x c (mem_of_lookup e) with ⟨_,h⟩ | ⟨_,h,_⟩
      · have:=hnd _ h
        rw [hf'] at this
        cases this
      · exact Nat.le_of_lt h
    hd:=I.ok.hd
    frames:=I.ok.frames
    stk:=.inl rfl
    exf:=fun b hb=>by
      obtain ⟨o,ho⟩:=fo b hb
      have hlt:=Heap.lt_size ho
      refine ⟨Nat.ne_of_lt hlt,fun x c e=>?_⟩
      rcases cell x c (mem_of_lookup e) with ⟨h,_⟩ | ⟨_,h,_⟩
      · exact (f2 b hb).2.2.2.2.1 x c h
      · exact Nat.ne_of_gt (Nat.lt_trans hlt h)
    bs:=I.bs
    bsz:=Nat.le_trans I.ok.bsz I.sz
    noex:=fun b o e hb=>by
      rcases (f2 b hb).2.2.2.1 with h | h
      · exact I.ok.noex b o e h
      · exact absurd (Nat.lt_of_lt_of_le (Heap.lt_size e) (Nat.le_trans I.ok.bsz h)) (Nat.lt_irrefl _)
    exfs:=fun b hb hm=>by
      rcases List.mem_cons.mp (I.stkSub b hm) with h | h
      · exact (f2 b hb).2.1 h
      · exact (f2 b hb).2.2.1 h
    funs:=I.stack
    frf:=I.stkFree
    tt:=I.ok.tt.mono I.base.tbls }
  refine ⟨ok,rfl,I.bare,Un.kept keep,⟨fun _=>none,(Heap.Ns.new s.heap (.type "dict")).keeps (pushCells_keeps _ _),fun i x v e1 e2 e3=>?_⟩,fun x c e=>?_,hH,fun x c e=>?_,fun p hp=>?_,I.hok.kept keep,?_⟩
  · -- a captured name
    have e2' : (src.map fun o=>match o with | none=>none | some j=>(σ[j]?).join)[i]? = some (some v):=e2
    rw [List.getElem?_map] at e2'
    cases hs : src[i]? with
    | none=>rw [hs] at e2';cases e2'
    | some o =>
      rw [hs] at e2'
      cases o with
      | none=>cases e2'
      | some j =>
        have ej : (σ[j]?).join = some v:=by simpa using e2'
        have ej' : σ[j]? = some (some v):=by
          cases hq : σ[j]? with
          | none=>rw [hq] at ej;cases ej
          | some z=>rw [hq] at ej;simpa using ej
        obtain ⟨n1,n2⟩:=hsrc i x j e1 hs
        have hfree : X.env.kindOf x = some .cell:=hfr' (x,.free) (mem_of_lookup n2) rfl
        obtain ⟨m,hn,hl⟩:=I.loc
        obtain ⟨u,r,l⟩:=hl j x v n1 ej' (.inr (.inl hfree))
        refine ⟨u,r,.inr ⟨.inl ?_,?_⟩⟩
        · have:=kl (env:=X.env) hok n2 (fun _=>hfree)
          exact this
        · rcases l with ⟨h,_⟩ | ⟨_,c,hc,hcell⟩
          · rw [hfree] at h;cases h
          · have : ∃ c',(x,c')∈cellsFrom (s.heap.objs.size + 1) scope.names (jM X.env scope.names []):=dL (.inr (nK (.inl (mem_of_lookup n2))))
            obtain ⟨c',hc'⟩:=ek this
            refine ⟨c',hc',?_⟩
            rcases cell x c' (mem_of_lookup hc') with ⟨h,_⟩ | ⟨h,_,_⟩
            · rw [hc] at h
              cases h
              obtain ⟨oc,ho,hd⟩:=hcell
              exact ⟨oc,keep _ _ ho,hd⟩
            · have:=hnd _ h
              rw [n2] at this
              cases this
  · rcases cell x c (mem_of_lookup e) with ⟨h,_⟩ | ⟨_,_,h⟩
    · obtain ⟨v,o,ho,hd⟩:=I.cell x c h
      exact ⟨v,o,keep _ _ ho,hd⟩
    · exact ⟨_,h⟩
  · rcases cell x c (mem_of_lookup e) with ⟨h,_⟩ | ⟨_,h,_⟩
    · exact I.freeC x c h
    · exact I.hok.fresh (Nat.le_of_lt h)
  · rw [List.append_nil] at hp
    obtain ⟨e,n,ne,nf,d⟩:=I.pin p hp
    refine ⟨keep _ _ e,n,Nat.ne_of_lt (Heap.lt_size e),fun hm=>?_,d⟩
    rcases List.mem_cons.mp (I.stkSub _ hm) with h | h
    · exact ne h
    · exact nf h
  · show (src.map _).length = N.length
    rw [List.length_map]
    exact hlen
theorem FQ {fp : List Addr} {cs : List (Str × Addr)} {C : Addr} {σ' : St} {H' : Hp} {s' : Shared} {pins' : List (Addr × Obj)} (I : Inv X pins σ H s) (f2 : ∀ b∈fp,lR X pins H b)
    (I' : Inv (X.blk scope N cs C s H fp (X.pn ++ pins)) pins' σ' H' s') : Inv X pins σ H' s' :=
  I.call' (ch:=fp) I'.os I'.base I'.hok I'.bare fun b hb=>⟨(f2 b hb).2.2.2.1,(f2 b hb).2.1,(f2 b hb).2.2.2.2.1,(f2 b hb).2.2.2.2.2⟩
theorem x9 {C : Addr} {h' : Heap} (I : Inv X pins σ H s) (hC : H C = none) (hL : C≠X.env.locals) (h1 : X.s₀.heap.objs.size<=C) (h2 : ∀ x c,X.env.cells.lookup x = some c->c≠C) (h3 : ∀ p∈X.pn ++ pins,p.1≠C)
    (hs : Heap.SameBut C s.heap h') : Inv X pins σ H { s with heap:=h' } :=
  I.turned (t':=s.toks) (fun b o hb e=>(hs.2 b hb).trans e) hC hL (.inr h1) h2 h3
end
section
variable {M : Model} {A : Around} {E : Value->Shared->Prop} {s : Shared}
theorem yl {scope : Scope} {globals : Addr} {cl : List (Str × Addr)} {qual : Str} {env : Env} {Q : Env->Shared->Prop}
    (hQ : Q (newEnv scope s.heap.objs.size globals (cellsFrom (s.heap.objs.size + 1) scope.names cl) qual none .none (some env) builtinsNs) { s with heap:=pushCells (s.heap.push { cls:=.type "dict",data:=.dict #[] }) scope.names }) :
    wpAny M A (newFunctionEnv scope globals cl [] qual none .none (some env)) Q E s:=by
  simp only [newFunctionEnv,Option.isSome_some,if_true]
  refine wpAny_bind (wpAny_alloc ?_)
  refine wpAny_bind (wpAny_layCells _ (fun name kind cells=>by cases hkc : kind == NameKind.cell<;>simp [hkc]) _ _ _ _ ?_)
  rw [show ({ s with heap:=s.heap.push { cls:=.type "dict",data:=.dict #[] } } : Shared).heap.objs.size = s.heap.objs.size + 1 from Heap.size_push ..]
  simp only [List.forIn_nil]
  exact wpAny_bind (wpAny_pure (wpAny_pure hQ))
end
section
variable {X : Cx} {elt tg iter : Expr} {ifs : List Expr} {bv : List Comprehension} {scope : Scope} {pos : Pos} {N : List Str} {src : List (Option Nat)} {wi : TI} {g : TG} {tc : TT} {l : TL}
def wT (src : List (Option Nat)) (wi : TI) (g : TG) (tc : TT) (l : TL) : TE:=fun σ H Q=>wi σ H fun J H1=>∀ acc,H1 acc = none->Aa J g tc l acc (x8 src σ) (upd H1 acc (.lst [])) fun _ H'=>Q (.ref acc) H'
theorem xH {use : Option (Value->Sem Unit)} {pins : List (Addr × Obj)} {s : Shared} {σ : St} {H : Hp} {Q : Value->Shared->Prop} {Q' : VK} (hc : X.calm = true) (hb : dn scope X.env.scope N src X.N = true) (ha : ∀ g',bv[0]? = some g'->g'.is_async = 0)
    (hi : PI X tg iter wi)
    (hg : ∀ cs C s H ex pn,PG (X.blk scope N cs C s H ex pn) tg g) (ht : ∀ cs C s H ex pn,PTs (X.blk scope N cs C s H ex pn) ifs tc)
    (hl : ∀ cs C s H ex pn,PL (X.blk scope N cs C s H ex pn) elt (⟨tg,iter,ifs,0⟩ :: bv) scope pos 0 l)
    (hs : ∀ x,foldedSetIterable iter X.env x = pure x) (I : Inv X pins σ H s) (h : wT src wi g tc l σ H Q')
    (hQ : ∀ (acc C : Addr) (H' : Hp) (s' : Shared) (m : Str->Option Value),Inv X pins σ H' s'->Q' (.ref acc) H'->s'.heap.Ns C m->H' C = none->C≠X.env.locals->X.s₀.heap.objs.size<=C->(∀ x c,X.env.cells.lookup x = some c->c≠C)->(∀ p∈X.pn ++ pins,p.1≠C) ->
      compPost (model X.prog X.w) X.A X.xe use Q (.ref acc) C (.ok .next) s') :
    wpAny (model X.prog X.w) X.A (comprehension (.ListComp elt (⟨tg,iter,ifs,0⟩ :: bv) scope pos) scope X.env (firstIterPos (⟨tg,iter,ifs,0⟩ :: bv) pos) (newList []) false (firstIter (⟨tg,iter,ifs,0⟩ :: bv) X.env) use) Q X.xe s:=by
  obtain ⟨hk,hok,hlen,hnd,hfr,hsrc⟩:=ud hb
  refine wpAny_comprehension_free (g:=⟨tg,iter,ifs,0⟩) (gs:=bv) rfl hs (zA fun y hy e=>I.ok.has y.1 (.inl (hfr y hy e))) hk (fun y hy e=>by have:=hnd y hy;rw [e] at this;exact this) ?_
  refine thn (hi pins s σ H _ I h) fun v s1 h1=>thn h1 fun itv s2 h2=>?_
  obtain ⟨it,fp,tn,J,H2,e,I2,T,st2,f2,q⟩:=h2
  subst e
  have hfresh : H2 s2.heap.objs.size = none:=I2.hok.fresh (Nat.le_refl _)
  refine wpAny_newObj_type (yl ?_)
  dsimp only
  have old : ∀ b o,s2.heap.get? b = some o->(s2.heap.push { cls:=.type "list",dict:=none,data:=.seq ([] : List Value).toArray }).get? b = some o:=fun b o e=>Heap.get?_push_of_some _ e
  have I3 : Inv X pins σ (upd H2 s2.heap.objs.size (.lst [])) { s2 with heap:=s2.heap.push { cls:=.type "list",dict:=none,data:=.seq ([] : List Value).toArray } } :=
    I2.lnew (its:=[]) (t':=s2.toks) .nil (by decide)
  have f3 : ∀ b∈fp,lR X pins (upd H2 s2.heap.objs.size (.lst [])) b:=fun b hb=>by
    obtain ⟨o,ho,_⟩:=T.obj _ _ st2 b hb
    exact ⟨by rw [ax (Nat.ne_of_lt (Heap.lt_size ho))];exact (f2 b hb).1,(f2 b hb).2⟩
  have fo3 : ∀ b∈fp,∃ o,({ s2 with heap:=s2.heap.push { cls:=.type "list",dict:=none,data:=.seq ([] : List Value).toArray } } : Shared).heap.get? b = some o:=fun b hb=>by
    obtain ⟨o,ho,_⟩:=T.obj _ _ st2 b hb
    exact ⟨o,old b o ho⟩
  generalize hs3 : ({ s2 with heap:=s2.heap.push { cls:=.type "list",dict:=none,data:=.seq ([] : List Value).toArray } } : Shared) = s3 at I3 fo3 ⊢
  have st3 : tn 0 s3.heap:=by
    rw [← hs3]
    exact T.keep _ _ _ st2 fun b _ o e=>old b o e
  have IB:=Ce (t:=s3.toks) I3 hb f3 fo3
  have stB : tn 0 (pushCells (s3.heap.push { cls:=.type "dict",data:=.dict #[] }) scope.names):=T.keep _ _ _ st3 fun b _ o e=>pushCells_keeps _ _ b o (Heap.get?_push_of_some _ e)
  have fB : ∀ b∈fp,lR (X.blk scope N (cellsFrom (s3.heap.objs.size + 1) scope.names (jM X.env scope.names [])) s3.heap.objs.size s3 (upd H2 s2.heap.objs.size (.lst [])) fp (X.pn ++ pins)) [] (upd H2 s2.heap.objs.size (.lst [])) b:=fun b hb=>by
    obtain ⟨n0,n1,n2,n3,n4,n5⟩:=f3 b hb
    refine ⟨n0,(IB.ok.exf b hb).1,IB.ok.exfs b hb,.inl hb,(IB.ok.exf b hb).2,fun p hp=>?_⟩
    rw [List.append_nil] at hp
    exact n5 p hp
  have loop : codeAny (model X.prog X.w) X.A (.compLoop (.ListComp elt (⟨tg,iter,ifs,0⟩ :: bv) scope pos) 0 (.ref it) (.ref s2.heap.objs.size) (compEnvC scope (cellsFrom (s3.heap.objs.size + 1) scope.names (jM X.env scope.names [])) s3.heap.objs.size X.env))
      (compPost (model X.prog X.w) X.A X.xe use Q (.ref s2.heap.objs.size) s3.heap.objs.size) { s3 with heap:=pushCells (s3.heap.push { cls:=.type "dict",data:=.dict #[] }) scope.names }:=by
    refine uA (X:=X.blk scope N (cellsFrom (s3.heap.objs.size + 1) scope.names (jM X.env scope.names [])) s3.heap.objs.size s3 (upd H2 s2.heap.objs.size (.lst [])) fp (X.pn ++ pins)) rfl hc rfl (by simpa using ha) (hg _ _ _ _ _ _) (ht _ _ _ _ _ _) (hl _ _ _ _ _ _) IB T stB fB (q _ hfresh) fun σ' H' s' I' k'=>?_
    obtain ⟨m,hn,_⟩:=I'.loc
    refine hQ _ _ H' s' m (FQ I3 f3 I') k' hn I'.free ?_ I3.sz ?_ ?_
    · exact Nat.ne_of_gt I3.lt
    · intro x c e
      obtain ⟨v,o,ho,_⟩:=I3.cell x c e
      exact Nat.ne_of_lt (Heap.lt_size ho)
    · intro p hp
      exact Nat.ne_of_lt (Heap.lt_size (I3.pin p hp).1)
  subst hs3
  exact l8 (d:=0) rfl loop (T.self X.A 0 _ _ _ stB loop)
theorem dC (hc : X.calm = true) (hb : dn scope X.env.scope N src X.N = true) (ha : ∀ g',bv[0]? = some g'->g'.is_async = 0)
    (hi : PI X tg iter wi)
    (hg : ∀ cs C s H ex pn,PG (X.blk scope N cs C s H ex pn) tg g) (ht : ∀ cs C s H ex pn,PTs (X.blk scope N cs C s H ex pn) ifs tc)
    (hl : ∀ cs C s H ex pn,PL (X.blk scope N cs C s H ex pn) elt (⟨tg,iter,ifs,0⟩ :: bv) scope pos 0 l)
    (hs : ∀ x,foldedSetIterable iter X.env x = pure x:=by intro _;rfl) : PE X (.ListComp elt (⟨tg,iter,ifs,0⟩ :: bv) scope pos) (wT src wi g tc l):=.mk <| by
  intro pins s σ H Q I h
  rw [eval_ListComp]
  refine xH (use:=none) hc hb ha hi hg ht hl hs I h fun acc C H' s' m I' q' hn hC hL h1 h2 h3=>?_
  exact ⟨m,hn,fun h' hs'=>⟨.ref acc,H',x9 I' hC hL h1 h2 h3 hs',rfl,q'⟩⟩
theorem lJ {i : Nat} {x : Str} {pos' spos : Pos} (hN : X.N.Nodup) (hi0 : X.N[i]? = some x) (hx : Loc X.env.scope x) (hc : X.calm = true) (hb : dn scope X.env.scope N src X.N = true) (ha : ∀ g',bv[0]? = some g'->g'.is_async = 0)
    (hi : PI X tg iter wi)
    (hg : ∀ cs C s H ex pn,PG (X.blk scope N cs C s H ex pn) tg g) (ht : ∀ cs C s H ex pn,PTs (X.blk scope N cs C s H ex pn) ifs tc)
    (hl : ∀ cs C s H ex pn,PL (X.blk scope N cs C s H ex pn) elt (⟨tg,iter,ifs,0⟩ :: bv) scope pos 0 l)
    (hs : ∀ x,foldedSetIterable iter X.env x = pure x:=by intro _;rfl)
    (hsw : swapsWith (.ListComp elt (⟨tg,iter,ifs,0⟩ :: bv) scope pos) (some (.Name x pos')) spos.line X.env = pure true:=by rfl)
    (hf : X.fn x = true\/X.env.scope.names.lookup x = some .local:=by first | exact .inl rfl | exact .inr rfl | assumption) :
    PS X (.Assign [.Name x pos'] (.ListComp elt (⟨tg,iter,ifs,0⟩ :: bv) scope pos) spos) (B9 (wT src wi g tc l) (uy i)):=.mk <| by
  intro pins s σ H D I h
  rw [exec_Assign_Name_used _ _ _ _ hsw]
  refine wpAny_bind (wpAny_standAt (wpAny_bind ?_))
  show wpAny _ X.A (do let _ ← comprehension (.ListComp elt (⟨tg,iter,ifs,0⟩ :: bv) scope pos) scope X.env (firstIterPos (⟨tg,iter,ifs,0⟩ :: bv) pos) (newList []) false (firstIter (⟨tg,iter,ifs,0⟩ :: bv) X.env) (some (assign (.Name x pos') X.env))) _ _ s
  refine wpAny_bind (wpAny_mono (xH (use:=some (assign (.Name x pos') X.env)) (Q:=fun _ s'=>SP X pins D .next s') hc hb ha hi hg ht hl hs I h fun acc C H' s' m I' q' hn hC hL h1 h2 h3=>?_) (fun _ s' hq=>wpAny_pure (wpAny_pure hq)) fun _ _ e=>e)
  show wpAny _ X.A (assign (.Name x pos') X.env (.ref acc)) _ _ _
  refine wpAny_assign_Name (uh (v:=.ref acc) I' hN hi0 hx rfl (fun s'' I'' ⟨a,hsb,hwh⟩=>?_) hf)
  have hne : C≠a:=by
    rcases hwh with e | e
    · rw [e];exact hL
    · exact fun z=>h2 x a e z.symm
  exact ⟨m,hn.sameBut hsb hne,fun h' hs'=>⟨σ.set i (some (.ref acc)),H',x9 I'' hC hL h1 h2 h3 hs',q'⟩⟩
end
section
variable {X : Cx}
end
end L2
set_option autoImplicit false
namespace L2
open PySem PySem.Spec PyProof.Rows
inductive D where
  | non | bl (b : Bool) | int (i : Int) | str (x : Str) | tup (ds : List D) | lst (ds : List D)
mutual
def Dat (H : Hp) : D->V->Prop
  | .non,v=>v = .non
  | .bl b,v=>v = .bl b
  | .int i,v=>v = .int i
  | .str x,v=>v = .str x
  | .tup ds,v=>∃ a xs,v = .ref a/\H a = some (.tup xs)/\aV H ds xs
  | .lst ds,v=>∃ a xs,v = .ref a/\H a = some (.lst xs)/\aV H ds xs
def aV (H : Hp) : List D->List V->Prop
  | [],xs=>xs = []
  | d :: ds,xs=>∃ x r,xs = x :: r/\Dat H d x/\aV H ds r
end
mutual
def dep : D->Nat
  | .tup ds=>gq ds + 1
  | .lst ds=>gq ds + 1
  | _=>0
def gq : List D->Nat
  | []=>0
  | d :: ds=>max (dep d) (gq ds)
end
mutual
def eqD : D->D->Bool
  | .non,.non=>true
  | .bl a,.bl b=>a == b
  | .bl a,.int b=>(if a then 1 else 0) == b
  | .int a,.bl b=>a == (if b then 1 else 0)
  | .int a,.int b=>a == b
  | .str a,.str b=>a == b
  | .tup a,.tup b=>fR a b
  | .lst a,.lst b=>fR a b
  | _,_=>false
def fR : List D->List D->Bool
  | [],[]=>true
  | x :: xs,y :: ys=>eqD x y && fR xs ys
  | _,_=>false
end
theorem wA : ∀ {ds : List D} {d : D},d∈ds->dep d<=gq ds
  | d :: ds,e,h=>by
    unfold gq
    rcases List.mem_cons.mp h with rfl | h
    · exact Nat.le_max_left _ _
    · exact Nat.le_trans (wA h) (Nat.le_max_right _ _)
theorem aV.length : ∀ {H : Hp} {ds : List D} {xs : List V},aV H ds xs->xs.length = ds.length
  | H,[],xs,h=>by
    have e : xs = []:=by simpa [aV] using h
    rw [e];rfl
  | H,d :: ds,xs,h=>by
    obtain ⟨x,r,rfl,_,t⟩ : ∃ x r,xs = x :: r/\Dat H d x/\aV H ds r:=by simpa only [aV] using h
    rw [List.length_cons,List.length_cons,aV.length t]
theorem aV.get : ∀ {H : Hp} {ds : List D} {xs : List V} {i : Nat} {d : D},aV H ds xs->ds[i]? = some d->∃ x,xs[i]? = some x/\Dat H d x
  | H,[],xs,i,d,h,e=>by simp at e
  | H,d' :: ds,xs,i,d,h,e=>by
    obtain ⟨x,r,rfl,hx,t⟩ : ∃ x r,xs = x :: r/\Dat H d' x/\aV H ds r:=by simpa only [aV] using h
    cases i with
    | zero=>simp at e;subst e;exact ⟨x,rfl,hx⟩
    | succ i=>simpa using aV.get t (i:=i) (by simpa using e)
theorem aV.of_get : ∀ {H : Hp} {ds : List D} {xs : List V},xs.length = ds.length->(∀ (i : Nat) (d : D) (x : V),ds[i]? = some d->xs[i]? = some x->Dat H d x)->aV H ds xs
  | H,[],[],_,_=>by simp [aV]
  | H,d :: ds,x :: xs,hl,h=>by
    simp only [aV]
    exact ⟨x,xs,rfl,h 0 d x rfl rfl,aV.of_get (by simpa using hl) fun i d x e1 e2=>h (i + 1) d x (by simpa using e1) (by simpa using e2)⟩
  | H,[],_ :: _,hl,_=>by simp at hl
  | H,_ :: _,[],hl,_=>by simp at hl
theorem aV.append : ∀ {H : Hp} {ds es : List D} {xs ys : List V},aV H ds xs->aV H es ys->aV H (ds ++ es) (xs ++ ys)
  | H,[],es,xs,ys,h,h'=>by
    have e : xs = []:=by simpa [aV] using h
    rw [e];exact h'
  | H,d :: ds,es,xs,ys,h,h'=>by
    obtain ⟨x,r,rfl,hx,t⟩ : ∃ x r,xs = x :: r/\Dat H d x/\aV H ds r:=by simpa only [aV] using h
    show aV H (d :: (ds ++ es)) (x :: (r ++ ys))
    simp only [aV]
    exact ⟨x,r ++ ys,rfl,hx,aV.append t h'⟩
theorem aV.one {H : Hp} {d : D} {x : V} (h : Dat H d x) : aV H [d] [x]:=by
  simp only [aV]
  exact ⟨x,[],rfl,h,rfl⟩
mutual
theorem Dat.same {H H' : Hp} (e : c6 H H') : ∀ {d : D} {v : V},Dat H d v->Dat H' d v
  | .non,v,h=>by simpa only [Dat] using h
  | .bl b,v,h=>by simpa only [Dat] using h
  | .int i,v,h=>by simpa only [Dat] using h
  | .str x,v,h=>by simpa only [Dat] using h
  | .tup ds,v,h=>by
    simp only [Dat] at h ⊢
    obtain ⟨a,xs,rfl,h1,h2⟩:=h
    exact ⟨a,xs,rfl,e a _ h1,aV.same e h2⟩
  | .lst ds,v,h=>by
    simp only [Dat] at h ⊢
    obtain ⟨a,xs,rfl,h1,h2⟩:=h
    exact ⟨a,xs,rfl,e a _ h1,aV.same e h2⟩
theorem aV.same {H H' : Hp} (e : c6 H H') : ∀ {ds : List D} {xs : List V},aV H ds xs->aV H' ds xs
  | [],xs,h=>by simpa only [aV] using h
  | d :: ds,xs,h=>by
    simp only [aV] at h ⊢
    obtain ⟨x,r,rfl,h1,h2⟩:=h
    exact ⟨x,r,rfl,Dat.same e h1,aV.same e h2⟩
end
mutual
theorem Dat.inj {H : Hp} : ∀ {d e : D} {v : V},Dat H d v->Dat H e v->d = e
  | .non,e,v,h,h'=>by
    simp only [Dat] at h;subst h
    cases e<;>simp only [Dat] at h'<;>first | rfl | (obtain ⟨_,_,h',_⟩:=h';cases h';done) | (cases h';done)
  | .bl b,e,v,h,h'=>by
    simp only [Dat] at h;subst h
    cases e<;>simp only [Dat] at h'<;>first | (obtain ⟨_,_,h',_⟩:=h';cases h';done) | (cases h';rfl) | (cases h';done)
  | .int i,e,v,h,h'=>by
    simp only [Dat] at h;subst h
    cases e<;>simp only [Dat] at h'<;>first | (obtain ⟨_,_,h',_⟩:=h';cases h';done) | (cases h';rfl) | (cases h';done)
  | .str x,e,v,h,h'=>by
    simp only [Dat] at h;subst h
    cases e<;>simp only [Dat] at h'<;>first | (obtain ⟨_,_,h',_⟩:=h';cases h';done) | (cases h';rfl) | (cases h';done)
  | .tup ds,e,v,h,h'=>by
    simp only [Dat] at h
    obtain ⟨a,xs,rfl,h1,h2⟩:=h
    cases e with
    | tup es =>
      simp only [Dat] at h'
      obtain ⟨b,ys,e1,h3,h4⟩:=h'
      cases e1
      rw [h1] at h3;cases h3
      rw [aV.inj h2 h4]
    | lst es =>
      simp only [Dat] at h'
      obtain ⟨b,ys,e1,h3,h4⟩:=h'
      cases e1
      rw [h1] at h3;cases h3
    | _=>simp only [Dat] at h';cases h'
  | .lst ds,e,v,h,h'=>by
    simp only [Dat] at h
    obtain ⟨a,xs,rfl,h1,h2⟩:=h
    cases e with
    | lst es =>
      simp only [Dat] at h'
      obtain ⟨b,ys,e1,h3,h4⟩:=h'
      cases e1
      rw [h1] at h3;cases h3
      rw [aV.inj h2 h4]
    | tup es =>
      simp only [Dat] at h'
      obtain ⟨b,ys,e1,h3,h4⟩:=h'
      cases e1
      rw [h1] at h3;cases h3
    | _=>simp only [Dat] at h';cases h'
theorem aV.inj {H : Hp} : ∀ {ds es : List D} {xs : List V},aV H ds xs->aV H es xs->ds = es
  | [],[],_,_,_=>rfl
  | [],e :: es,xs,h,h'=>by
    simp only [aV] at h h'
    obtain ⟨x,r,rfl,_⟩:=h'
    cases h
  | d :: ds,[],xs,h,h'=>by
    simp only [aV] at h h'
    obtain ⟨x,r,rfl,_⟩:=h
    cases h'
  | d :: ds,e :: es,xs,h,h'=>by
    simp only [aV] at h h'
    obtain ⟨x,r,rfl,h1,h2⟩:=h
    obtain ⟨x',r',e1,h3,h4⟩:=h'
    cases e1
    rw [Dat.inj h1 h3,aV.inj h2 h4]
end
mutual
theorem nA : ∀ d : D,eqD d d = true
  | .non=>by simp [eqD]
  | .bl b=>by simp [eqD]
  | .int i=>by simp [eqD]
  | .str x=>by simp [eqD]
  | .tup ds=>by simp only [eqD];exact ix ds
  | .lst ds=>by simp only [eqD];exact ix ds
theorem ix : ∀ ds : List D,fR ds ds = true
  | []=>by simp [fR]
  | d :: ds=>by simp only [fR,nA d,ix ds,Bool.and_self]
end
theorem rO : ∀ {ds es : List D},ds.length≠es.length->fR ds es = false
  | [],[],h=>absurd rfl h
  | [],_ :: _,_=>by simp [fR]
  | _ :: _,[],_=>by simp [fR]
  | d :: ds,e :: es,h=>by
    simp only [fR,rO (ds:=ds) (es:=es) (by simpa using h),Bool.and_false]
theorem ms : ∀ {ds es : List D},ds.length = es.length->(List.range ds.length).all (fun j=>eqD (ds.getD j .non) (es.getD j .non)) = fR ds es
  | [],[],_=>by simp [fR]
  | [],_ :: _,h=>by simp at h
  | _ :: _,[],h=>by simp at h
  | d :: ds,e :: es,h=>by
    have ih:=ms (ds:=ds) (es:=es) (by simpa using h)
    rw [List.length_cons,List.range_succ_eq_map,List.all_cons,List.all_map]
    simp only [fR,← ih]
    rfl
section
variable {X : Cx} {pins : List (Addr × Obj)} {σ : St} {H : Hp} {s : Shared}
theorem Ak : ∀ {xs : List V} {us : List Value} {j : Nat} {x : V},ba xs us->xs[j]? = some x->∀ (h : j < us.toArray.size),bo x us.toArray[j]:=fun {xs us j x} r e h=>by
  obtain ⟨u,h1,h2⟩:=r.get e
  have : us[j]? = some us.toArray[j]:=by
    rw [List.getElem?_eq_getElem (by simpa using h)]
    simp
  rw [h1] at this
  cases this
  exact h2
theorem i9 (I : Inv X pins σ H s) {a : Addr} {xs : List V} (h : H a = some (.tup xs)) : ∃ its : List Value,ba xs its/\s.heap.IsTuple a its.toArray:=by
  obtain ⟨its,r,p,_⟩:=I.tuple (SqT.of (K:=X.K) h)
  exact ⟨its,r,p⟩
theorem mP (I : Inv X pins σ H s) {a : Addr} {xs : List V} (h : H a = some (.lst xs)) : ∃ its : List Value,ba xs its/\s.heap.IsList a its.toArray:=by
  obtain ⟨its,r,p,_⟩:=I.list (SqL.of (K:=X.K) h)
  exact ⟨its,r,p.isList⟩
theorem E9 {ds es : List D} : ((List.range (min ds.length es.length)).all (fun j=>eqD (ds.getD j .non) (es.getD j .non)) && ds.length == es.length) = fR ds es:=by
  by_cases h : ds.length = es.length
  · rw [← ms h]
    have : min ds.length es.length = ds.length:=by omega
    rw [this]
    simp [h]
  · rw [rO h]
    have : (ds.length == es.length) = false:=by simpa using h
    rw [this,Bool.and_false]
theorem vb (I : Inv X pins σ H s) (n : Nat) : ∀ (d e : D) (x y : V) (v u : Value) (A : Around),dep d<=n->A.units + n < cLine->Dat H d x->Dat H e y->bo x v->bo y u ->
    SeqAt.RcAt A s v u (eqD d e)/\SeqAt.EqAt A s v u (eqD d e)/\SeqAt.RcNeAt A s v u (!eqD d e):=by
  induction n with
  | zero =>
    intro d e x y v u A hd hu hx hy rx ry
    have hu' : A.units < cLine:=by omega
    cases d with
    | tup ds=>simp only [dep] at hd;omega
    | lst ds=>simp only [dep] at hd;omega
    | non =>
      simp only [Dat] at hx;subst hx;cases rx
      cases e with
      | non=>simp only [Dat] at hy;subst hy;cases ry;exact ⟨SeqAt.RcAt.none_none,SeqAt.EqAt.same _,SeqAt.RcNeAt.none_none⟩
      | bl b=>simp only [Dat] at hy;subst hy;cases ry;exact ⟨SeqAt.RcAt.none_bool b,SeqAt.EqAt.none_bool b,SeqAt.RcNeAt.none_bool b⟩
      | int b=>simp only [Dat] at hy;subst hy;obtain ⟨t,rfl⟩:=ry;exact ⟨SeqAt.RcAt.none_int b t,SeqAt.EqAt.none_int b t,SeqAt.RcNeAt.none_int b t⟩
      | str b=>simp only [Dat] at hy;subst hy;obtain ⟨t,rfl⟩:=ry;exact ⟨SeqAt.RcAt.none_str b t,SeqAt.EqAt.none_str b t,SeqAt.RcNeAt.none_str b t⟩
      | tup es =>
        simp only [Dat] at hy;obtain ⟨b,ys,rfl,hb,_⟩:=hy;cases ry
        obtain ⟨its,_,p⟩:=i9 I hb
        exact ⟨SeqAt.RcAt.none_tuple p hu',SeqAt.EqAt.none_tuple p hu',SeqAt.RcNeAt.none_tuple p hu'⟩
      | lst es =>
        simp only [Dat] at hy;obtain ⟨b,ys,rfl,hb,_⟩:=hy;cases ry
        obtain ⟨its,_,p⟩:=mP I hb
        exact ⟨SeqAt.RcAt.none_list p hu',SeqAt.EqAt.none_list p hu',SeqAt.RcNeAt.none_list p hu'⟩
    | bl a =>
      simp only [Dat] at hx;subst hx;cases rx
      cases e with
      | non=>simp only [Dat] at hy;subst hy;cases ry;exact ⟨SeqAt.RcAt.bool_none a,SeqAt.EqAt.bool_none a,SeqAt.RcNeAt.bool_none a⟩
      | bl b=>simp only [Dat] at hy;subst hy;cases ry;exact ⟨SeqAt.RcAt.bool_bool a b,SeqAt.EqAt.bool_bool a b,SeqAt.RcNeAt.bool_bool a b⟩
      | int b=>simp only [Dat] at hy;subst hy;obtain ⟨t,rfl⟩:=ry;exact ⟨SeqAt.RcAt.bool_int a b t,SeqAt.EqAt.bool_int a b t,SeqAt.RcNeAt.bool_int a b t⟩
      | str b=>simp only [Dat] at hy;subst hy;obtain ⟨t,rfl⟩:=ry;exact ⟨SeqAt.RcAt.bool_str a b t,SeqAt.EqAt.bool_str a b t,SeqAt.RcNeAt.bool_str a b t⟩
      | tup es =>
        simp only [Dat] at hy;obtain ⟨b,ys,rfl,hb,_⟩:=hy;cases ry
        obtain ⟨its,_,p⟩:=i9 I hb
        exact ⟨SeqAt.RcAt.bool_tuple a p hu',SeqAt.EqAt.bool_tuple a p hu',SeqAt.RcNeAt.bool_tuple a p hu'⟩
      | lst es =>
        simp only [Dat] at hy;obtain ⟨b,ys,rfl,hb,_⟩:=hy;cases ry
        obtain ⟨its,_,p⟩:=mP I hb
        exact ⟨SeqAt.RcAt.bool_list a p hu',SeqAt.EqAt.bool_list a p hu',SeqAt.RcNeAt.bool_list a p hu'⟩
    | int a =>
      simp only [Dat] at hx;subst hx;obtain ⟨t',rfl⟩:=rx
      cases e with
      | non=>simp only [Dat] at hy;subst hy;cases ry;exact ⟨SeqAt.RcAt.int_none a t',SeqAt.EqAt.int_none a t',SeqAt.RcNeAt.int_none a t'⟩
      | bl b=>simp only [Dat] at hy;subst hy;cases ry;exact ⟨SeqAt.RcAt.int_bool a t' b,SeqAt.EqAt.int_bool a t' b,SeqAt.RcNeAt.int_bool a t' b⟩
      | int b=>simp only [Dat] at hy;subst hy;obtain ⟨t,rfl⟩:=ry;exact ⟨SeqAt.RcAt.int_int a t' b t,SeqAt.EqAt.int_int a t' b t,SeqAt.RcNeAt.int_int a t' b t⟩
      | str b=>simp only [Dat] at hy;subst hy;obtain ⟨t,rfl⟩:=ry;exact ⟨SeqAt.RcAt.int_str a t' b t,SeqAt.EqAt.int_str a t' b t,SeqAt.RcNeAt.int_str a t' b t⟩
      | tup es =>
        simp only [Dat] at hy;obtain ⟨b,ys,rfl,hb,_⟩:=hy;cases ry
        obtain ⟨its,_,p⟩:=i9 I hb
        exact ⟨SeqAt.RcAt.int_tuple a t' p hu',SeqAt.EqAt.int_tuple a t' p hu',SeqAt.RcNeAt.int_tuple a t' p hu'⟩
      | lst es =>
        simp only [Dat] at hy;obtain ⟨b,ys,rfl,hb,_⟩:=hy;cases ry
        obtain ⟨its,_,p⟩:=mP I hb
        exact ⟨SeqAt.RcAt.int_list a t' p hu',SeqAt.EqAt.int_list a t' p hu',SeqAt.RcNeAt.int_list a t' p hu'⟩
    | str a =>
      simp only [Dat] at hx;subst hx;obtain ⟨t',rfl⟩:=rx
      cases e with
      | non=>simp only [Dat] at hy;subst hy;cases ry;exact ⟨SeqAt.RcAt.str_none a t',SeqAt.EqAt.str_none a t',SeqAt.RcNeAt.str_none a t'⟩
      | bl b=>simp only [Dat] at hy;subst hy;cases ry;exact ⟨SeqAt.RcAt.str_bool a t' b,SeqAt.EqAt.str_bool a t' b,SeqAt.RcNeAt.str_bool a t' b⟩
      | int b=>simp only [Dat] at hy;subst hy;obtain ⟨t,rfl⟩:=ry;exact ⟨SeqAt.RcAt.str_int a t' b t,SeqAt.EqAt.str_int a t' b t,SeqAt.RcNeAt.str_int a t' b t⟩
      | str b=>simp only [Dat] at hy;subst hy;obtain ⟨t,rfl⟩:=ry;exact ⟨SeqAt.RcAt.str_str a t' b t,SeqAt.EqAt.str_str a t' b t,SeqAt.RcNeAt.str_str a t' b t⟩
      | tup es =>
        simp only [Dat] at hy;obtain ⟨b,ys,rfl,hb,_⟩:=hy;cases ry
        obtain ⟨its,_,p⟩:=i9 I hb
        exact ⟨SeqAt.RcAt.str_tuple a t' p hu',SeqAt.EqAt.str_tuple a t' p hu',SeqAt.RcNeAt.str_tuple a t' p hu'⟩
      | lst es =>
        simp only [Dat] at hy;obtain ⟨b,ys,rfl,hb,_⟩:=hy;cases ry
        obtain ⟨its,_,p⟩:=mP I hb
        exact ⟨SeqAt.RcAt.str_list a t' p hu',SeqAt.EqAt.str_list a t' p hu',SeqAt.RcNeAt.str_list a t' p hu'⟩
  | succ n ih =>
    intro d e x y v u A hd hu hx hy rx ry
    have hu' : A.units < cLine:=by omega
    by_cases h0 : dep d<=n
    · exact ih d e x y v u A h0 (by omega) hx hy rx ry
    have hin : A.in1.units + n < cLine:=by show A.units + 1 + n < cLine;omega
    have items : ∀ (ds es : List D) (xs ys : List V) (its its2 : List Value),gq ds<=n->aV H ds xs->aV H es ys->ba xs its->ba ys its2 ->
        ∀ j (h1 : j < its.toArray.size) (h2 : j < its2.toArray.size),SeqAt.EqAt A.in1 s its.toArray[j] its2.toArray[j] (eqD (ds.getD j .non) (es.getD j .non)):=by
      intro ds es xs ys its its2 hdp hxs hys r1 r2 j h1 h2
      have l1 : j < ds.length:=by rw [← hxs.length,r1.length];simpa using h1
      have l2 : j < es.length:=by rw [← hys.length,r2.length];simpa using h2
      obtain ⟨x',ex,hx'⟩:=hxs.get (List.getElem?_eq_getElem l1)
      obtain ⟨y',ey,hy'⟩:=hys.get (List.getElem?_eq_getElem l2)
      have g1 : ds.getD j .non = ds[j]:=by rw [List.getD_eq_getElem?_getD,List.getElem?_eq_getElem l1];rfl
      have g2 : es.getD j .non = es[j]:=by rw [List.getD_eq_getElem?_getD,List.getElem?_eq_getElem l2];rfl
      rw [g1,g2]
      exact (ih ds[j] es[j] x' y' _ _ A.in1 (Nat.le_trans (wA (List.getElem_mem l1)) hdp) hin hx' hy' (Ak r1 ex h1) (Ak r2 ey h2)).2.1
    cases d with
    | non=>simp only [dep] at h0;omega
    | bl a=>simp only [dep] at h0;omega
    | int a=>simp only [dep] at h0;omega
    | str a=>simp only [dep] at h0;omega
    | tup ds =>
      simp only [dep] at hd
      have hx0:=hx
      simp only [Dat] at hx;obtain ⟨a,xs,rfl,ha,hxs⟩:=hx;cases rx
      obtain ⟨its,r1,p⟩:=i9 I ha
      cases e with
      | non=>simp only [Dat] at hy;subst hy;cases ry;exact ⟨SeqAt.RcAt.tuple_none p hu',SeqAt.EqAt.tuple_none p hu',SeqAt.RcNeAt.tuple_none p hu'⟩
      | bl b=>simp only [Dat] at hy;subst hy;cases ry;exact ⟨SeqAt.RcAt.tuple_bool b p hu',SeqAt.EqAt.tuple_bool b p hu',SeqAt.RcNeAt.tuple_bool b p hu'⟩
      | int b=>simp only [Dat] at hy;subst hy;obtain ⟨t,rfl⟩:=ry;exact ⟨SeqAt.RcAt.tuple_int b t p hu',SeqAt.EqAt.tuple_int b t p hu',SeqAt.RcNeAt.tuple_int b t p hu'⟩
      | str b=>simp only [Dat] at hy;subst hy;obtain ⟨t,rfl⟩:=ry;exact ⟨SeqAt.RcAt.tuple_str b t p hu',SeqAt.EqAt.tuple_str b t p hu',SeqAt.RcNeAt.tuple_str b t p hu'⟩
      | lst es =>
        simp only [Dat] at hy;obtain ⟨b,ys,rfl,hb,_⟩:=hy;cases ry
        obtain ⟨its2,_,p2⟩:=mP I hb
        exact ⟨SeqAt.RcAt.tuple_list p p2 hu',SeqAt.EqAt.tuple_list p p2 hu',SeqAt.RcNeAt.tuple_list p p2 hu'⟩
      | tup es =>
        have hy0:=hy
        simp only [Dat] at hy;obtain ⟨b,ys,rfl,hb,hys⟩:=hy;cases ry
        obtain ⟨its2,r2,p2⟩:=i9 I hb
        have it:=items ds es xs ys its its2 (by omega) hxs hys r1 r2
        have z1 : its.toArray.size = ds.length:=by rw [← hxs.length,r1.length];simp
        have z2 : its2.toArray.size = es.length:=by rw [← hys.length,r2.length];simp
        have e0:=E9 (ds:=ds) (es:=es)
        have rc : SeqAt.RcAt A s (.ref a) (.ref b) (fR ds es):=by
          have:=SeqAt.RcAt.tuples p p2 hu' it
          rw [z1,z2,e0] at this
          exact this
        have rn : SeqAt.RcNeAt A s (.ref a) (.ref b) (!fR ds es):=by
          have:=SeqAt.RcNeAt.tuples p p2 hu' it
          rw [z1,z2,e0] at this
          exact this
        simp only [eqD]
        refine ⟨rc,?_,rn⟩
        by_cases hab : a = b
        · subst hab
          have : D.tup ds = D.tup es:=hx0.inj hy0
          cases this
          rw [ix]
          exact SeqAt.EqAt.same _
        · exact .of_refs hab rc
    | lst ds =>
      simp only [dep] at hd
      have hx0:=hx
      simp only [Dat] at hx;obtain ⟨a,xs,rfl,ha,hxs⟩:=hx;cases rx
      obtain ⟨its,r1,p⟩:=mP I ha
      cases e with
      | non=>simp only [Dat] at hy;subst hy;cases ry;exact ⟨SeqAt.RcAt.list_none p hu',SeqAt.EqAt.list_none p hu',SeqAt.RcNeAt.list_none p hu'⟩
      | bl b=>simp only [Dat] at hy;subst hy;cases ry;exact ⟨SeqAt.RcAt.list_bool b p hu',SeqAt.EqAt.list_bool b p hu',SeqAt.RcNeAt.list_bool b p hu'⟩
      | int b=>simp only [Dat] at hy;subst hy;obtain ⟨t,rfl⟩:=ry;exact ⟨SeqAt.RcAt.list_int b t p hu',SeqAt.EqAt.list_int b t p hu',SeqAt.RcNeAt.list_int b t p hu'⟩
      | str b=>simp only [Dat] at hy;subst hy;obtain ⟨t,rfl⟩:=ry;exact ⟨SeqAt.RcAt.list_str b t p hu',SeqAt.EqAt.list_str b t p hu',SeqAt.RcNeAt.list_str b t p hu'⟩
      | tup es =>
        simp only [Dat] at hy;obtain ⟨b,ys,rfl,hb,_⟩:=hy;cases ry
        obtain ⟨its2,_,p2⟩:=i9 I hb
        exact ⟨SeqAt.RcAt.list_tuple p p2 hu',SeqAt.EqAt.list_tuple p p2 hu',SeqAt.RcNeAt.list_tuple p p2 hu'⟩
      | lst es =>
        have hy0:=hy
        simp only [Dat] at hy;obtain ⟨b,ys,rfl,hb,hys⟩:=hy;cases ry
        obtain ⟨its2,r2,p2⟩:=mP I hb
        have it:=items ds es xs ys its its2 (by omega) hxs hys r1 r2
        have z1 : its.toArray.size = ds.length:=by rw [← hxs.length,r1.length];simp
        have z2 : its2.toArray.size = es.length:=by rw [← hys.length,r2.length];simp
        have Ct : SeqAt.RcAt A s (.ref a) (.ref b) (fR ds es)/\SeqAt.RcNeAt A s (.ref a) (.ref b) (!fR ds es):=by
          by_cases hl : ds.length = es.length
          · have r:=SeqAt.RcAt.lists p p2 (by rw [z1,z2];exact hl) hu' it
            have q:=SeqAt.RcNeAt.lists p p2 (by rw [z1,z2];exact hl) hu' it
            rw [z1,ms hl] at r q
            exact ⟨r,q⟩
          · have hne : (its.toArray.size != its2.toArray.size) = true:=by rw [z1,z2];simpa using hl
            rw [rO hl]
            exact ⟨SeqAt.RcAt.lists_lengths p p2 hne hu',SeqAt.RcNeAt.lists_lengths p p2 hne hu'⟩
        simp only [eqD]
        refine ⟨Ct.1,?_,Ct.2⟩
        by_cases hab : a = b
        · subst hab
          have : D.lst ds = D.lst es:=hx0.inj hy0
          cases this
          rw [ix]
          exact SeqAt.EqAt.same _
        · exact .of_refs hab Ct.1
def Jm (neg : Bool) : R2:=fun x y H Q=>∃ d e,Dat H d x/\Dat H e y/\dep d<=100/\Q (.bl (if neg then !eqD d e else eqD d e)) H
theorem bd (hu : X.A.units + 100 < cLine) : OpR X (compareOp .Eq) (Jm false):=by
  intro pins s σ H x y v u Q I rx ry h
  obtain ⟨d,e,hx,hy,hd,q⟩:=h
  exact (vb I 100 d e x y v u X.A hd hu hx hy rx ry).1 X.prog X.w _ _ ⟨.bl _,H,I,rfl,q⟩
theorem mm (hu : X.A.units + 100 < cLine) : OpR X (compareOp .NotEq) (Jm true):=by
  intro pins s σ H x y v u Q I rx ry h
  obtain ⟨d,e,hx,hy,hd,q⟩:=h
  exact (vb I 100 d e x y v u X.A hd hu hx hy rx ry).2.2 X.prog X.w _ _ ⟨.bl _,H,I,rfl,q⟩
end
theorem CC {H : Hp} {p : Addr} {o : HO} (h : H p = none) : c6 H (upd H p o):=fun b u e=>by
  rw [ax (aZ e h)];exact e
section
variable {X : Cx}
end
section
variable {K : PySem.W.Frag} {g : TG} {tc : TT} {l : TL} {acc : Addr} {σ : St} {H : Hp} {R : St->Hp->Prop}
end
theorem xU {e k y : Int} (h : 0 < k) (h2 : k<=2 ^ 64) : tm (e % k) y:=by
  have h1:=Int.emod_nonneg e (Int.ne_of_gt h)
  have h3:=Int.emod_lt_of_pos e h
  exact .inl ⟨by omega,by omega⟩
theorem zL {x y : Int} (h : -(2 ^ 64) < x/\x < 2 ^ 64) : tm x y:=.inl h
theorem HW {x y : Int} (h : -(2 ^ 64) < y/\y < 2 ^ 64) : tm x y:=.inr h
section
variable {X : Cx} {tg a b l : Expr} {ta tb tl : TE} {pos : Pos}
theorem aj (K : PySem.W.Frag) (h : X.K = K) : IxR X (rIx K):=h ▸ Ih
theorem cm (K : PySem.W.Frag) (h : X.K = K) : lU X (.builtin "len") (fun xs H Q=>∃ x n,xs = [x]/\FY K x H n/\Q (.int n) H):=h ▸ D1
theorem bp (K : PySem.W.Frag) (h : X.K = K) (ha : PE X a ta) (he : ∀ whole,isTrue a X.env whole = (do let v ← whole;standAt a.pos;holding [v] (truthy v))) :
    PT X a (fun σ H Q=>ta σ H fun x H'=>∃ k,w6 K x H' k/\Q k H'):=h ▸ Ds ha he
theorem cN (K : PySem.W.Frag) (h : X.K = K) : lU X (.type "tuple") (fun xs H Q=>∃ p ys,xs = [.ref p]/\((SqL K H p ys/\∀ l,H l = none->Q (.ref l) (upd H l (.tup ys)))\/(SqT K H p ys/\Q (.ref p) H))):=h ▸ s0
end
def KQ (J : It) (g : TG) (tb : TS) (D : jJ) (σ : St) (H : Hp) : Prop:=∃ W : Nat->Nat->St->Hp->Prop,(∃ m,W 0 m σ H)/\∀ i m σ H,W i m σ H ->
  (J.stop i H/\D.nx σ H)\/(J.go i H/\∃ N : St->Hp->Prop,(∀ σ' H',N σ' H'->∃ m',m' < m/\W (i + 1) m' σ' H')/\∀ x H',J.yld i H x H'->g x σ H' fun σ2 H2=>tb { D with nx:=N,ct:=N,bk:=D.nx } σ2 H2)
theorem Gh (wi : TI) (g : TG) (tb : TS) (D : jJ) (σ : St) (H : Hp) : H9 wi g tb D σ H = wi σ H fun J H1=>KQ J g tb D σ H1:=rfl
section
variable {K : PySem.W.Frag} {a : Addr} {xs : List V} {g : TG} {tb : TS} {D : jJ} {σ : St} {H : Hp}
end
mutual
def noL : D->Bool
  | .lst _=>false
  | .tup ds=>noLs ds
  | _=>true
def noLs : List D->Bool
  | []=>true
  | d :: ds=>noL d && noLs ds
end
theorem m6 : ∀ {ds : List D},(∀ d∈ds,noL d = true)->noLs ds = true
  | [],_=>by simp [noLs]
  | d :: ds,h=>by
    simp only [noLs,Bool.and_eq_true]
    exact ⟨h d (List.mem_cons_self ..),m6 fun e he=>h e (List.mem_cons_of_mem _ he)⟩
theorem B5 (ns : List Int) : noLs (ns.map D.int) = true:=m6 fun d hd=>by
  obtain ⟨n,_,rfl⟩:=List.mem_map.mp hd
  simp [noL]
end L2
namespace L2
end L2
namespace L2
open PySem
theorem dN.u100 {k : Nat} {A : Around} (r : dN k A) : A.units + 100 < cLine:=by have:=r.un;omega
theorem wr : ∀ {ds : List D} {n : Nat},(∀ d∈ds,dep d<=n)->gq ds<=n
  | [],n,_=>by simp [gq]
  | d :: ds,n,h=>by
    simp only [gq]
    exact Nat.max_le.mpr ⟨h d (List.mem_cons_self ..),wr fun e he=>h e (List.mem_cons_of_mem _ he)⟩
theorem ug (ns : List Int) : gq (ns.map D.int) = 0:=by
  have : gq (ns.map D.int)<=0:=wr fun d hd=>by
    obtain ⟨n,_,rfl⟩:=List.mem_map.mp hd
    simp [dep]
  omega
end L2
namespace L2
open PySem PySem.Spec PyProof.Rows
section
variable {X : Cx}
end
end L2
namespace L2
open PySem
theorem aV.take {H : Hp} : ∀ {ds : List D} {xs : List V} (n : Nat),aV H ds xs->aV H (ds.take n) (xs.take n):=fun {ds xs} n h=>by
  refine aV.of_get (by rw [List.length_take,List.length_take,h.length]) fun i d x e1 e2=>?_
  rw [List.getElem?_take] at e1 e2
  split at e1
  · rename_i hi
    rw [if_pos hi] at e2
    obtain ⟨x',h1,h2⟩:=h.get e1
    rw [e2] at h1;cases h1;exact h2
  · cases e1
theorem aV.drop {H : Hp} : ∀ {ds : List D} {xs : List V} (n : Nat),aV H ds xs->aV H (ds.drop n) (xs.drop n):=fun {ds xs} n h=>by
  refine aV.of_get (by rw [List.length_drop,List.length_drop,h.length]) fun i d x e1 e2=>?_
  rw [List.getElem?_drop] at e1 e2
  obtain ⟨x',h1,h2⟩:=h.get e1
  rw [e2] at h1;cases h1;exact h2
end L2
namespace L2
open PySem PySem.Spec PyProof.Rows
section
variable {X : Cx} {e st : Expr} {te ts : TE} {pos p2 : Pos}
def Jl (K : PySem.W.Frag) (te ts : TE) : TE:=fun σ H Q=>te σ H fun x H1=>ts σ H1 fun k H2=>k = .int (-1)/\∃ a xs,x = .ref a/\SqL K H2 a xs/\∀ p,H2 p = none->Q (.ref p) (upd H2 p (.lst xs.reverse))
theorem zz (K : PySem.W.Frag) (hK : X.K = K) (he : PE X e te) (hs : PE X st ts) : PE X (.Subscript e (.Slice none none (some st) p2) pos) (Jl K te ts):=.mk <| by
  subst hK
  intro pins s σ H Q I h
  refine Subscript_ (thn (he pins s σ H _ I h) fun v s1 ⟨x,H1,I1,r1,q1⟩=>?_)
  refine wpAny_Slice ?_
  rw [evalPart_none]
  refine wpAny_pure (wpAny_pure ?_)
  rw [evalPart_some]
  refine thn (hs pins s1 σ H1 _ I1 q1) fun u s2 ⟨k,H2,I2,r2,q2⟩=>?_
  obtain ⟨rfl,a,xs,rfl,hx,q⟩:=q2
  obtain ⟨t,rfl⟩:=r2
  cases r1
  have I4 : Inv X pins σ H2 { s2 with heap:=s2.heap.push { cls:=.type "slice",data:=.fields #[.none,.none,.int (-1) t] } }:=I2.kept (t':=s2.toks) fun b ob q=>Heap.get?_push_of_some _ q
  obtain ⟨its,r,ht,hz⟩:=I4.list hx
  have hlen:=r.length
  refine tail_any (ops:=[.ref a,.ref s2.heap.objs.size]) (ht.isList.typeIs) slot_list_getitem.lookup ?_ (by with_unfolding_all rfl)
  refine wpAny_getItem_list_slice ht.isList (Heap.IsSliceOf.new ..) .none .none (.int (-1) t) (by simp) ?_ (by rw [List.size_toArray]<;>omega)
  rw [PySem.W.krv_pick]
  refine ⟨.ref _,_,I4.laid (t':=s2.toks) (o:=.lst xs.reverse) (fun b ob q=>Heap.get?_push_of_some _ q) (Nat.le_refl _) ?_,rfl,q _ (I4.hok.fresh (Nat.le_refl _))⟩
  refine ⟨by rw [List.length_reverse];exact hz,its.reverse,0,?_,Heap.get?_push_size _ rfl⟩
  exact r.reverse
end
def LD (H : Hp) (l : Addr) (ds : List D) : Prop:=noLs ds = true/\∃ xs,H l = some (.lst xs)/\aV H ds xs
theorem wB {ds es : List D} : noLs (ds ++ es) = (noLs ds && noLs es):=by
  induction ds with
  | nil=>simp [noLs]
  | cons d ds ih=>simp [noLs,ih,Bool.and_assoc]
inductive Tr where
  | lf (x : List D)
  | nd (x : List D) (l r : Tr)
namespace Tr
def d : Tr->D
  | .lf x=>.tup x
  | .nd x l r=>.tup (x ++ [l.d,r.d])
def size : Tr->Nat
  | .lf _=>1
  | .nd _ l r=>l.size + r.size + 1
def lvs : Tr->Nat
  | .lf _=>1
  | .nd _ l r=>l.lvs + r.lvs
def dp : Tr->Nat
  | .lf _=>0
  | .nd _ l r=>1 + max l.dp r.dp
def post : Tr->List Tr
  | .lf x=>[.lf x]
  | .nd x l r=>l.post ++ r.post ++ [.nd x l r]
def pre : Tr->List Tr
  | .lf x=>[.lf x]
  | .nd x l r=>.nd x l r :: (r.pre ++ l.pre)
def ok (lw : Str) : Tr->Prop
  | .lf x=>x[0]? = some (.str lw)/\noLs x = true
  | .nd x l r=>(∃ w,x[0]? = some (.str w)/\w≠lw)/\noLs x = true/\l.ok lw/\r.ok lw
theorem vo : ∀ t : Tr,t.pre.reverse = t.post
  | .lf x=>rfl
  | .nd x l r=>by simp [pre,post,vo l,vo r]
theorem nM : ∀ t : Tr,t.post.length = t.size
  | .lf x=>rfl
  | .nd x l r=>by simp [post,size,nM l,nM r];omega
theorem wJ : ∀ t : Tr,1<=t.size
  | .lf x=>Nat.le_refl _
  | .nd x l r=>by simp only [size];omega
theorem fH : ∀ t : Tr,t.size + 1 = 2 * t.lvs
  | .lf x=>rfl
  | .nd x l r=>by
    have:=fH l
    have:=fH r
    simp only [size,lvs];omega
theorem ok.noL {lw : Str} : ∀ {t : Tr},t.ok lw->noL t.d = true
  | .lf x,h=>by simp only [d,L2.noL];exact h.2
  | .nd x l r,h=>by
    obtain ⟨_,h1,h2,h3⟩:=h
    simp only [d,L2.noL,wB,Bool.and_eq_true]
    exact ⟨h1,by simp [noLs,ok.noL h2,ok.noL h3]⟩
theorem ok.post {lw : Str} : ∀ {t : Tr},t.ok lw->∀ u∈t.post,u.ok lw
  | .lf x,h,u,hu=>by simp only [Tr.post,List.mem_singleton] at hu;subst hu;exact h
  | .nd x l r,h,u,hu=>by
    simp only [Tr.post,List.mem_append,List.mem_singleton] at hu
    rcases hu with (hu | hu) | hu
    · exact ok.post h.2.2.1 u hu
    · exact ok.post h.2.2.2 u hu
    · subst hu;exact h
theorem ok.noLs {lw : Str} {ts : List Tr} (h : ∀ t∈ts,t.ok lw) : noLs (ts.map d) = true:=m6 fun e he=>by
  obtain ⟨t,ht,rfl⟩:=List.mem_map.mp he
  exact (h t ht).noL
def chk (s : Tr) : List Tr->List Tr->Prop
  | [],st=>st = [s]
  | .lf x :: r,st=>chk s r (st ++ [.lf x])
  | .nd x a b :: r,st=>∃ st',st = st' ++ [a,b]/\chk s r (st' ++ [.nd x a b])
theorem qP (s : Tr) : ∀ (t : Tr) (r st : List Tr),chk s r (st ++ [t])->chk s (t.post ++ r) st
  | .lf x,r,st,h=>h
  | .nd x a b,r,st,h=>by
    simp only [post,List.append_assoc]
    refine qP s a _ st (qP s b _ _ ?_)
    refine ⟨st,by simp,h⟩
theorem Gw (s : Tr) : chk s s.post []:=by
  have:=qP s s [] [] rfl
  simpa using this
end Tr
section
variable {K : PySem.W.Frag} {a p : Addr} {ds : List D} {zs : List V} {g : TG} {tb : TS} {Dn : jJ} {σ : St} {H : Hp}
end
section
variable {K : PySem.W.Frag} {a acc : Addr} {ds : List D} {g : TG} {tc : TT} {l : TL} {σ : St} {H : Hp} {R : St->Hp->Prop} {zs : List V}
end
section
variable {X : Cx}
theorem vg : OpR X (compareOp .IsNot) (fun x y H Q=>∃ c d,x = .bl c/\y = .bl d/\Q (.bl (c != d)) H):=by
  intro pins s σ H x y v u Q I rx ry h
  obtain ⟨c,d,rfl,rfl,q⟩:=h
  cases rx
  cases ry
  exact isnot_bool (DN I q rfl)
theorem lS {prog : Program} {w : World} {A : Around} {E : Value->Shared->Prop} {s : Shared} {t sl : Addr} {items : Array Value} {vl vu : Value} {lo hi : Option Int} {Q : Value->Shared->Prop} (ht : IsTup s.heap t items) (hs : s.heap.IsSliceOf sl vl vu .none) (pl : IsPart vl lo) (pu : IsPart vu hi)
    (hw : HT.sIx items.size 0 lo = 0/\HT.sIx items.size items.size hi = items.size) (h : Q (.ref t) s) : wpAny (model prog w) A (getItem (.ref t) (.ref sl)) Q E s:=by
  obtain ⟨os,hos,hcs,hds⟩:=id hs
  have hTs : s.TypeIs (.ref sl) "slice":=⟨os,hos,hcs⟩
  unfold getItem
  try with_reducible refine wpAny_holding ?_
  first | refine wpAny_bind (wpAny_pure ?_) | skip
  refine wpAny_bind (wpAny_sequenceKey ht.typeIs (by decide) ?_)
  refine wpAny_bind (wpAny_callSpecial?_slot (name:=Str.ofString "__getitem__") ht.typeIs PyProof.Rows.slot_tuple_getitem
    (wpAny_call_entry PyProof.Rows.slot_tuple_getitem ht.typeIs PyProof.Rows.entry_tuple_getitem ?_ (PyProof.Rows.args_tuple_getitem _ _)))
  show wpAny _ _ (Builtin.Tuple.tupleItemsOf (.ref t) >>= _) _ _ s
  refine wpAny_bind (tupleItemsOf_ ht ?_)
  refine wpAny_bind (wpAny_typeOf hTs ?_)
  rw [if_pos (by decide)]
  refine wpAny_bind (HT.sliceApplied_gen hs pl pu ?_)
  have hyes : (((HT.sIx items.size 0 lo : Nat) : Int) == 0 && (1 : Int) == 1 && (HT.sIx items.size items.size hi - HT.sIx items.size 0 lo) == items.size) = true:=by
    rw [hw.1,hw.2];simp
  show wpAny _ _ (if (((HT.sIx items.size 0 lo : Nat) : Int) == 0 && (1 : Int) == 1 && (HT.sIx items.size items.size hi - HT.sIx items.size 0 lo) == items.size) = true then _ else _) _ _ s
  rw [if_pos hyes]
  unfold Builtin.Tuple.tupleIsExact
  refine wpAny_bind (wpAny_bind (wpAny_typeOf ht.typeIs (wpAny_pure ?_)))
  rw [if_pos (by decide)]
  exact wpAny_bind (wpAny_rule (wpAny_pure ⟨_,rfl,wpAny_pure h⟩))
def Hk (K : PySem.W.Frag) : V->Option Int->Option Int->Hp->VK->Prop:=fun x lo hi H Q=>∃ a xs,x = .ref a/\SqT K H a xs /\
  if HT.sIx xs.length 0 lo = 0/\HT.sIx xs.length xs.length hi = xs.length then Q (.ref a) H else ∀ p,H p = none->Q (.ref p) (upd H p (.tup (vi xs lo hi)))
theorem FB : SlR X (Hk X.K):=by
  intro pins s σ H x v vl vu lo hi sl Q I rx hs pl pu h
  obtain ⟨a,xs,rfl,hx,h⟩:=h
  by_cases hw : HT.sIx xs.length 0 lo = 0/\HT.sIx xs.length xs.length hi = xs.length
  · rw [if_pos hw] at h
    cases rx
    obtain ⟨its,r,ht,hz⟩:=I.tuple hx
    have hlen : its.toArray.size = xs.length:=by rw [List.size_toArray];exact r.length.symm
    exact ⟨"tuple",_,PyProof.Rows.slot_tuple_getitem.lookup,ht.typeIs,lS ht hs pl pu (by rw [hlen];exact hw) ⟨.ref a,H,I,rfl,h⟩⟩
  · rw [if_neg hw] at h
    exact IU pins s σ H (.ref a) v vl vu lo hi sl Q I rx hs pl pu ⟨a,xs,rfl,hx,hw,h⟩
end
section
variable {K : PySem.W.Frag} {a : Addr} {ds : List D} {xs : List V} {g : TG} {tb : TS} {Dn : jJ} {σ : St} {H : Hp}
end
section
variable {K : PySem.W.Frag} {a acc : Addr} {ds : List D} {xs : List V} {g : TG} {tc : TT} {l : TL} {σ : St} {H : Hp} {R : St->Hp->Prop}
end
section
variable {X : Cx}
end
def wdD (w : List Int) : D:=.tup (w.map D.int)
def csD (pl : Nat) (ys ns : List (List Int)) : D:=.tup [.int pl,.tup (ys.map wdD),.tup (ns.map wdD)]
theorem IM (w : List Int) : noL (wdD w) = true:=by simp only [wdD,noL];exact B5 w
theorem Fe (ws : List (List Int)) : noLs (ws.map wdD) = true:=m6 fun d hd=>by
  obtain ⟨w,_,rfl⟩:=List.mem_map.mp hd
  exact IM w
structure SN (n : Nat) (H : Hp) (S : Addr) (ad : Nat->Addr) (fs : Nat->List D) : Prop where
  s : H S = some (.lst ((List.range n).map fun i=>.ref (ad i)))
  l : ∀ i,i < n->LD H (ad i) (fs i)
def StE (w : World) (e : DictEntry) (p : Str × V) : Prop:=e.hash = PyData.keyHash w.params p.1/\(∃ t,e.key = .str p.1 t)/\bo p.2 e.val
def StD (w : World) (K : PySem.W.Frag) (a : Addr) (kvs : List (Str × V)) : Prop:=∃ (o : Obj) (es : List DictEntry) (ep : Nat),K.lookup a = some o/\o.ExactDict/\o.data = .dict es.toArray ep/\Paired (StE w) es kvs
def yH (kvs : List (Str × V)) (x : Str) : Option V:=(kvs.find? fun p=>decide (p.1 = x)).map (·.2)
theorem StE.find {P : Program} {w : World} : ∀ {es : List DictEntry} {kvs : List (Str × V)} {x : Str} {v : V},Paired (StE w) es kvs->yH kvs x = some v->∃ u,findBy (bx P w).is es.toArray (Sum.inr x) = some u/\bo v u:=by
  intro es
  induction es with
  | nil=>intro kvs x v h hv;cases h;cases hv
  | cons e es ih =>
    intro kvs x v h hv
    cases h with
    | @cons _ p _ kvs r t =>
      obtain ⟨h1,⟨tk,h2⟩,h3⟩:=r
      have hf : findBy (bx P w).is (e :: es).toArray (Sum.inr x) = if j6 (Sum.inr x) e.key = true then some e.val else findBy (bx P w).is es.toArray (Sum.inr x):=by
        unfold findBy
        simp only [List.find?_toArray,List.find?_cons,yz]
        cases j6 (Sum.inr x) e.key<;>simp
      by_cases hx : p.1 = x
      · have hk : j6 (Sum.inr x) e.key = true:=by rw [h2,← hx];exact t0 _ _
        rw [hf,if_pos hk]
        unfold yH at hv
        rw [List.find?_cons_of_pos (by simp [hx])] at hv
        cases hv
        exact ⟨_,rfl,h3⟩
      · have hk : ¬ j6 (Sum.inr x) e.key = true:=by
          rw [h2]
          intro z
          rcases b9 z with ⟨i,t',e1,e2⟩ | ⟨y,t',e1,e2⟩
          · cases e2
          · injection e2 with e2 _
            injection e1 with e1
            exact hx (e2.trans e1.symm)
        rw [hf,if_neg hk]
        unfold yH at hv
        rw [List.find?_cons_of_neg (by simp [hx])] at hv
        exact ih t hv
theorem StE.keys {P : Program} {w : World} : ∀ {es : List DictEntry} {kvs : List (Str × V)},Paired (StE w) es kvs->∀ e∈es,∃ k,(bx P w).is k e.key = true/\e.hash = (bx P w).hash k
  | _,_,.nil,e,h=>by cases h
  | _,_,.cons (a:=e0) (b:=p) r t,e,h=>by
    rcases List.mem_cons.mp h with rfl | h
    · obtain ⟨h1,⟨tk,h2⟩,_⟩:=r
      exact ⟨Sum.inr p.1,by rw [h2];exact jS _ _ _ _,h1⟩
    · exact StE.keys t e h
section
variable {X : Cx} {o i : Expr} {ty : TE} {pos : Pos} {a : Addr} {kvs : List (Str × V)}
def G6 (kvs : List (Str × V)) (td ty : TE) : TE:=fun σ H Q=>td σ H fun _ H0=>ty σ H0 fun y H1=>∃ x v,y = .str x/\yH kvs x = some v/\Q v H1
theorem F5 (hd : StD X.w X.K a kvs) (ho : PE X o (tC (.ref a))) (hi : PE X i ty) (hs : Ji i) : PE X (.Subscript o i pos) (G6 kvs (tC (.ref a)) ty):=.mk <| by
  intro pins s σ H Q I h
  obtain ⟨ob,es,ep,hk,hx,hdat,hp⟩:=hd
  refine Af PySem.F.slot_dict_getitem.lookup hs (thn (ho pins s σ H (fun x H1=>x = .ref a/\ty σ H1 fun y H1=>∃ x v,y = .str x/\yH kvs x = some v/\Q v H1) I ⟨rfl,h⟩) fun u s1 ⟨x,H1,I1,rx,ex,q1⟩=>thn (hi pins s1 σ H1 _ I1 q1) fun iv s2 ⟨y,H2,I2,ry,k,v,ey,hv,q2⟩=>?_)
  subst ex
  subst ey
  obtain rfl : u = Value.ref a:=rx
  obtain ⟨t,rfl⟩:=ry
  obtain ⟨u',hf,ru⟩:=StE.find (P:=X.prog) hp hv
  have hg : s2.heap.get? a = some ob:=I2.kIn a ob hk
  have hm : s2.heap.MapOf (bx X.prog X.w) a (findBy (bx X.prog X.w).is es.toArray):=⟨ob,es.toArray,ep,hg,hx,hdat,fun e he=>StE.keys hp e (by simpa using he),fun _=>rfl⟩
  exact ⟨⟨ob,hg,hx.1⟩,wpAny_getItem_of (knd:=bx X.prog X.w) (jS _ _ _ _) hm hf ⟨v,H2,I2.tok _,ru,q2⟩⟩
end
open Classical in
def eqF (H : Hp) (dx : D) (u : Value) : Bool:=if h : ∃ d,∃ x,bo x u/\Dat H d x then eqD (Classical.choose h) dx else false
theorem yP {H : Hp} {dx d : D} {x : V} {u : Value} (r : bo x u) (h : Dat H d x) : eqF H dx u = eqD d dx:=by
  have hex : ∃ d,∃ x,bo x u/\Dat H d x:=⟨d,x,r,h⟩
  unfold eqF
  rw [dif_pos hex]
  obtain ⟨x',r',h'⟩:=Classical.choose_spec hex
  have : x' = x:=r'.inj r
  subst this
  rw [Dat.inj h' h]
theorem oh {H : Hp} {dx : D} : ∀ {ds : List D} {xs : List V} {its : List Value},aV H ds xs->ba xs its->its.any (eqF H dx) = ds.any fun d=>eqD d dx
  | [],xs,its,h,r=>by
    simp only [aV] at h;subst h;cases r;rfl
  | d :: ds,xs,its,h,r=>by
    simp only [aV] at h
    obtain ⟨x,xr,rfl,h1,h2⟩:=h
    cases r with
    | cons r1 r2=>rw [List.any_cons,List.any_cons,yP r1 h1,oh h2 r2]
theorem rm {H : Hp} : ∀ {ds : List D} {xs : List V} {its : List Value},aV H ds xs->ba xs its->∀ u∈its,∃ d x,d∈ds/\bo x u/\Dat H d x
  | [],xs,its,h,r,u,hu=>by simp only [aV] at h;subst h;cases r;cases hu
  | d :: ds,xs,its,h,r,u,hu=>by
    simp only [aV] at h
    obtain ⟨x,xr,rfl,h1,h2⟩:=h
    cases r with
    | cons r1 r2 =>
      rcases List.mem_cons.mp hu with rfl | hu
      · exact ⟨d,x,List.mem_cons_self ..,r1,h1⟩
      · obtain ⟨d',x',m,q⟩:=rm h2 r2 u hu
        exact ⟨d',x',List.mem_cons_of_mem _ m,q⟩
theorem uM : ∀ {ds : List D} {d : D},d∈ds->dep d<=gq ds
  | e :: ds,d,h=>by
    simp only [gq]
    rcases List.mem_cons.mp h with rfl | h
    · omega
    · have:=uM h;omega
def inD (dx : D) (ds : List D) : Bool:=ds.any fun d=>eqD d dx
def Ix (neg : Bool) : R2:=fun x y H Q=>∃ dx ds,Dat H dx x/\(Dat H (.lst ds) y\/Dat H (.tup ds) y)/\gq ds<=90/\Q (.bl (if neg then !inD dx ds else inD dx ds)) H
section
variable {X : Cx}
theorem zk (hu : X.A.units + 100 < cLine) : OpR X (compareOp .In) (Ix false):=by
  intro pins s σ H x y v u Q I rx ry h
  obtain ⟨dx,ds,hx,hy,hdp,q⟩:=h
  have he : ∀ {xs : List V} {its : List Value},aV H ds xs->ba xs its->∀ w,w∈its.toArray->SeqAt.EqAt X.A.in1 s w v (eqF H dx w):=fun hd r w hw=>by
    obtain ⟨d,z,hm,rz,hz⟩:=rm hd r w (by simpa using hw)
    rw [yP rz hz]
    exact (vb I 90 d dx z x w v X.A.in1 (Nat.le_trans (uM hm) hdp) (by show X.A.units + 1 + 90 < cLine;omega) hz hx rz rx).2.1
  rcases hy with hy | hy
  · simp only [Dat] at hy
    obtain ⟨a,xs,rfl,ha,hd⟩:=hy
    cases ry
    obtain ⟨its,r,pl,_⟩:=I.list (SqL.of ha)
    refine SeqAt.in_listAt (eqF H dx) pl.isList (he hd r) ⟨.bl _,H,I,rfl,?_⟩
    rw [show its.toArray.any (eqF H dx) = its.any (eqF H dx) by simp,oh hd r]
    exact q
  · simp only [Dat] at hy
    obtain ⟨a,xs,rfl,ha,hd⟩:=hy
    cases ry
    obtain ⟨its,r,pl,_⟩:=I.tuple (SqT.of ha)
    refine SeqAt.in_tupleAt (eqF H dx) pl (he hd r) ⟨.bl _,H,I,rfl,?_⟩
    rw [show its.toArray.any (eqF H dx) = its.any (eqF H dx) by simp,oh hd r]
    exact q
theorem kX (hu : X.A.units + 100 < cLine) : OpR X (compareOp .NotIn) (Ix true):=by
  intro pins s σ H x y v u Q I rx ry h
  obtain ⟨dx,ds,hx,hy,hdp,q⟩:=h
  have he : ∀ {xs : List V} {its : List Value},aV H ds xs->ba xs its->∀ w,w∈its.toArray->SeqAt.EqAt X.A.in1 s w v (eqF H dx w):=fun hd r w hw=>by
    obtain ⟨d,z,hm,rz,hz⟩:=rm hd r w (by simpa using hw)
    rw [yP rz hz]
    exact (vb I 90 d dx z x w v X.A.in1 (Nat.le_trans (uM hm) hdp) (by show X.A.units + 1 + 90 < cLine;omega) hz hx rz rx).2.1
  rcases hy with hy | hy
  · simp only [Dat] at hy
    obtain ⟨a,xs,rfl,ha,hd⟩:=hy
    cases ry
    obtain ⟨its,r,pl,_⟩:=I.list (SqL.of ha)
    refine SeqAt.notIn_listAt (eqF H dx) pl.isList (he hd r) ⟨.bl _,H,I,rfl,?_⟩
    rw [show its.toArray.any (eqF H dx) = its.any (eqF H dx) by simp,oh hd r]
    exact q
  · simp only [Dat] at hy
    obtain ⟨a,xs,rfl,ha,hd⟩:=hy
    cases ry
    obtain ⟨its,r,pl,_⟩:=I.tuple (SqT.of ha)
    refine SeqAt.notIn_tupleAt (eqF H dx) pl (he hd r) ⟨.bl _,H,I,rfl,?_⟩
    rw [show its.toArray.any (eqF H dx) = its.any (eqF H dx) by simp,oh hd r]
    exact q
end
end L2
namespace L2
open PySem PySem.Spec PyProof.Rows
section
variable {X : Cx} {pins : List (Addr × Obj)} {σ : St} {H : Hp} {s : Shared}
end
section
variable {X : Cx}
end
section
variable {prog : Program} {w : World} {A : Around} {E : Value->Shared->Prop}
end
section
variable {X : Cx} {pos : Pos}
end
section
variable {X : Cx}
theorem be {es fs x1 pos te t} (ha : PE X (.Tuple fs x1 pos) te) (hr : PA X es t) : PA X (.Tuple fs x1 pos :: es) (iA te t):=aa ha hr (by rfl)
theorem Ff {es fs pos te t} (ha : PE X (.List fs pos) te) (hr : PA X es t) : PA X (.List fs pos :: es) (iA te t):=aa ha hr (by rfl)
theorem aA {es c j pos te t} (ha : PE X (.Constant c j pos) te) (hr : PA X es t) : PA X (.Constant c j pos :: es) (iA te t):=aa ha hr (by rfl)
end
end L2
namespace L2
open PySem PySem.Spec PySem.Calls PyProof.Rows
def Frz (H H' : Hp) : Prop:=∀ b o u,H b = some (.frz o u)->H' b = some (.frz o u)
theorem c6.frz {H H' : Hp} (h : c6 H H') : Frz H H':=fun b o u e=>h b _ e
def sS (H : Hp) (f : Addr) (q : Str) (params : Arguments) (body : Expr) (scope : Scope) (clos : List (Str × Addr)) : Prop :=
  ∃ (pm : Value) (c : Addr) (ctv : Value) (oc : Obj) (vs : Array Value) (t : Tok) (u u' : HO),H f = some (.frz (PySem.W.kla_obj "<lambda>" q params body scope clos pm c ctv) u)/\H c = some (.frz oc u')/\oc.data = .fields vs/\vs[1]? = some (.str q t)
theorem sS.frz {H H' : Hp} {f : Addr} {q : Str} {params : Arguments} {body : Expr} {scope : Scope} {clos : List (Str × Addr)} (x : sS H f q params body scope clos) (k : Frz H H') : sS H' f q params body scope clos :=
  let ⟨pm,c,ctv,oc,vs,t,u,u',h1,h2,r⟩:=x;⟨pm,c,ctv,oc,vs,t,u,u',k _ _ _ h1,k _ _ _ h2,r⟩
def vf (K : PySem.W.Frag) (c P : Addr) : Bool:=match K.lookup c with
  | some o=>(o.cls == .type "code") && c != P && (match o.data with
    | .fields vs=>(vs[11]? == some (.ref P)) && (match vs.getD 18 .none,vs.getD 7 .none,vs.getD 9 .none,vs.getD 10 .none with
      | .str _ _,.int _ _,.bool _,.int _ _=>true
      | _,_,_,_=>false)
    | _=>false)
  | none=>false
theorem BD {K : PySem.W.Frag} {h : Heap} {c P : Addr} (X : K.In h) (e : vf K c P = true) : PySem.W.CodeHd h c P:=by
  unfold vf at e
  cases q : K.lookup c with
  | none=>rw [q] at e;cases e
  | some o =>
    rw [q] at e
    simp only [Bool.and_eq_true] at e
    obtain ⟨⟨e1,e2⟩,e3⟩:=e
    cases d : o.data with
    | fields vs =>
      rw [d] at e3
      simp only [Bool.and_eq_true] at e3
      obtain ⟨e4,e5⟩:=e3
      have e4' : vs[11]? = some (.ref P):=eq_of_beq e4
      split at e5
      · rename_i f tf g tg b x tt h18 h7 h9 h10
        refine ⟨o,vs,f,tf,g,tg,b,x,tt,X _ _ q,eq_of_beq e1,d,e4',?_,h18,h7,h9,h10,by simpa using e2⟩
        simp [Array.getD_eq_getD_getElem?,e4']
      · cases e5
    | _=>rw [d] at e3;cases e3
theorem zo {pos : Pos} {a b : Int} {c cv : Value} (l : List Value) (h : TriplesOk l) (e : codeAmong pos (l ++ [rawInt a,rawInt b,c]) = some cv) : codeAmong pos l = some cv\/cv = c:=by
  fun_induction TriplesOk l with
  | case1 =>
    simp only [List.nil_append,rawInt,codeAmong] at e
    split at e
    · exact .inr (Option.some.inj e).symm
    · cases e
  | case2 a' t b' u x bv ih =>
    simp only [List.cons_append,codeAmong] at e ⊢
    split at e
    · rename_i hc
      rw [if_pos hc]
      exact .inl e
    · rename_i hc
      rw [if_neg hc]
      exact ih h e
  | case3 l h1 h2=>exact h.elim
section
variable {P : Program} {w : World} {H H' : Hp} {h h' : Heap} {p : Addr} {ps : Array Value}
theorem Un.lam {fs : List Addr} (hok : HOk P w H h) (hP : H p = some (.tbl ps)) (k : ∀ b o,b≠p->h.get? b = some o->h'.get? b = some o) (hp' : ∃ o,h'.get? p = some o) (same : ∀ b,b < h.objs.size->H' b = H b) : Un fs [] H H' h h':=by
  have ne : ∀ b,H b = none->b≠p:=fun b n z=>by rw [z,hP] at n;cases n
  refine ⟨fun b o q n _ _=>k b o (ne b n) q,fun b o q n _ _=>⟨o.slots,k b o (ne b n) q⟩,fun b o q n _=>(same b (Heap.lt_size q)).trans n,fun b o q _=>?_,fun b xs q=>(same b (hok.lt q)).trans q,fun b o u q=>(same b (hok.lt q)).trans q,fun b xs q=>⟨#[],?_⟩⟩
  · by_cases hb : b = p
    · rw [hb];exact hp'
    · exact ⟨o,k b o hb q⟩
  · rw [(same b (hok.lt q)).trans q];simp
theorem HOk.lam (hok : HOk P w H h) (hP : H p = some (.tbl ps)) (k : ∀ b o,b≠p->h.get? b = some o->h'.get? b = some o) (same : ∀ b,b < h.objs.size->H' b = H b)
    (newP : c7 P w H' h' p (.tbl ps)) (new : ∀ b u,h.objs.size<=b->H' b = some u->c7 P w H' h' b u) : HOk P w H' h':=fun b u e=>by
  rcases Nat.lt_or_ge b h.objs.size with hb | hb
  · rw [same b hb] at e
    by_cases hp : b = p
    · subst hp
      rw [hP] at e;cases e
      exact newP
    · refine (hok b u e).stay (fun c v hc q=>k c v ?_ q) (fun c q=>(same c (hok.lt q)).trans q) (fun c xs q=>(same c (hok.lt q)).trans q) fun c o u q=>(same c (hok.lt q)).trans q
      rcases hc with rfl | hc
      · exact hp
      · rintro rfl
        rw [hP] at hc;cases hc
  · exact new b u hb e
end
def IY (q : Str) (args : Arguments) (body : Expr) (scope : Scope) (clos : List (Str × Addr)) : TE:=fun _ H Q=>∀ f H',c6 H H'->H f = none->sS H' f q args body scope clos->Q (.ref f) H'
section
variable {X : Cx} {args : Arguments} {body : Expr} {scope : Scope} {pos : Pos} {x : Str} {c p : Addr} {clos : List (Str × Addr)}
theorem ky (hcode : X.env.code = .ref c) (hq : X.env.qual = x ++ ".<locals>.") (hm : (x,c,p)∈jK X.K) (hh : vf X.K c p = true) (hcl : closureFor scope X.env = pure clos) (hdef : defaultsOf args X.env = ([],[]):=by rfl) :
    PE X (.Lambda args body scope pos) (IY (x ++ ".<locals>." ++ "<lambda>") args body scope clos):=.mk <| by
  intro pins s σ H Q I h
  refine PySem.W.kla_eval hdef ?_
  rw [hq]
  obtain ⟨ps,eP,z0⟩:=(I.ok.tt.mono I.base.tbls) _ hm
  obtain ⟨qs,hP,tr,codes⟩:=I.hok _ _ eP
  dsimp only at eP z0 hP
  have C : PySem.W.CodeHd s.heap c p:=(BD I.ok.mod.kin hh).keeps I.bk
  have hg : s.heap.Ns mainGlobals X.mg:=I.ok.mod.glob.keeps I.bk
  obtain ⟨bm,ob,b1,b2,b3,b4,b5,b6⟩:=I.ok.mod.bm
  have hgP : mainGlobals≠p:=fun q=>by
    obtain ⟨o,es,ep,e,hd,_⟩:=hg
    rw [q,hP] at e;cases e;cases hd
  have hbP : bm≠p:=fun q=>by
    have e:=I.bk _ _ b3
    rw [q,hP] at e;cases e;cases b4
  have hbG : bm≠mainGlobals:=fun q=>by
    obtain ⟨o,es,ep,e,hd,_⟩:=I.ok.mod.glob
    rw [q,e] at b3;cases b3;rw [hd] at b6;cases b6
  have hB : s.heap.BuiltinsAt X.mg p:=⟨bm,ob,b1,b2,hbG,hbP,I.bk _ _ b3,b4,b5,b6⟩
  have hps : p < s.heap.objs.size:=Heap.lt_size hP
  cases e : codeAmong pos qs.toList with
  | none =>
    refine PySem.W.kla_makeFunction (mg:=X.mg) hcl I.ok.glob hg hcode C hP tr e hgP hB fun c' ctv h' tk hx hge hlt hrec htb=>?_
    obtain ⟨c₂,oc,vs,t,e2,hoc,hd,hv⟩:=hrec
    cases e2
    have hps' : p < h'.objs.size:=Heap.lt_size htb
    let H' : Hp:=upd (upd H c' (.frz oc (.own p))) h'.objs.size (.frz (PySem.W.kla_obj "<lambda>" (x ++ ".<locals>." ++ "<lambda>") args body scope clos ((X.mg "__name__").getD .none) c' ctv) (.own h'.objs.size))
    have ef : H' h'.objs.size = some (.frz (PySem.W.kla_obj "<lambda>" (x ++ ".<locals>." ++ "<lambda>") args body scope clos ((X.mg "__name__").getD .none) c' ctv) (.own h'.objs.size)):=bQ
    have ec : H' c' = some (.frz oc (.own p)):=(ax (Nat.ne_of_lt hlt)).trans bQ
    have same : ∀ b,b < s.heap.objs.size->H' b = H b:=fun b hb=>by
      have h1 : b≠h'.objs.size:=Nat.ne_of_lt (Nat.lt_trans (Nat.lt_of_lt_of_le hb hge) hlt)
      have h2 : b≠c':=Nat.ne_of_lt (Nat.lt_of_lt_of_le hb hge)
      exact (ax h1).trans (ax h2)
    have k : ∀ b o,b≠p->s.heap.get? b = some o->(h'.push (PySem.W.kla_obj "<lambda>" (x ++ ".<locals>." ++ "<lambda>") args body scope clos ((X.mg "__name__").getD .none) c' ctv)).get? b = some o:=fun b o n q=>Heap.get?_push_of_some _ (hx b o n q)
    have htb':=Heap.get?_push_of_some (PySem.W.kla_obj "<lambda>" (x ++ ".<locals>." ++ "<lambda>") args body scope clos ((X.mg "__name__").getD .none) c' ctv) htb
    refine ⟨.ref h'.objs.size,H',I.un (Un.lam I.hok eP k ⟨_,htb'⟩ same) (I.hok.lam eP k same ⟨_,htb',?_,?_⟩ ?_),rfl,h _ _ (fun b o q=>(same b (I.hok.lt q)).trans q) (I.hok.fresh (Nat.le_trans hge (Nat.le_of_lt hlt))) ⟨_,c',ctv,oc,vs,t,_,_,ef,ec,hd,hv⟩⟩
    · rw [Array.toList_append]
      exact TriplesOk_snoc _ _ _ _ tr
    · intro pos' cv q
      rw [Array.toList_append] at q
      rcases zo _ tr q with q | rfl
      · obtain ⟨c1,o1,v1,t1,q1,a1,a2,a3,a4,a5⟩:=codes pos' cv q
        exact ⟨c1,o1,v1,t1,q1,a1,(same c1 (I.hok.lt a2)).trans a2,a3,a4,a5⟩
      · exact ⟨c',oc,vs,t,_,rfl,ec,hd,hv,z0⟩
    · intro b u hb q
      by_cases hbf : b = h'.objs.size
      · subst hbf
        rw [ef] at q;cases q
        exact ⟨Heap.get?_push_size _ rfl,_,Heap.get?_push_size _ rfl⟩
      · have q' : upd H c' (.frz oc (.own p)) b = some u:=(ax hbf).symm.trans q
        by_cases hbc : b = c'
        · subst hbc
          rw [bQ] at q';cases q'
          exact ⟨Heap.get?_push_of_some _ hoc,_,Heap.get?_push_of_some _ hoc⟩
        · rw [ax hbc,I.hok.fresh hb] at q';cases q'
  | some cv =>
    obtain ⟨c',oc,vs,t,q,rfl,ec,hd,hv,hq0⟩:=codes pos cv e
    have hqq : q = x ++ ".<locals>." ++ "<lambda>":=by
      rw [hq0] at z0
      injection z0 with z0
      injection z0
    subst hqq
    refine PySem.W.kla_makeFunctionHit (mg:=X.mg) hcl I.ok.glob hg hcode C hP tr e hB fun ctv h' tk hk hsz=>?_
    have hne : ∀ b u,H b = some u->b≠h'.objs.size:=fun b u q z=>absurd (Nat.lt_of_lt_of_le (I.hok.lt q) hsz) (by rw [z];exact Nat.lt_irrefl _)
    refine ⟨.ref h'.objs.size,upd H h'.objs.size (.frz (PySem.W.kla_obj "<lambda>" (x ++ ".<locals>." ++ "<lambda>") args body scope clos ((X.mg "__name__").getD .none) c' ctv) (.own h'.objs.size)),I.laid (fun b u q=>Heap.get?_push_of_some _ (hk b u q)) hsz ?_,rfl,h _ _ (fun b o q=>(ax (hne b o q)).trans q) (I.hok.fresh hsz) ⟨_,c',ctv,oc,vs,t,_,_,bQ,(ax (hne _ _ ec)).trans ec,hd,hv⟩⟩
    exact ⟨Heap.get?_push_size _ rfl,_,Heap.get?_push_size _ rfl⟩
end
structure Clo (P : Program) (w : World) (K : PySem.W.Frag) (mg : Str->Option Value) (base : Heap) (H₀ : Hp) (k : Nat) (f : Addr) (n : Nat) (sp : Sp) : Prop where
  fn : (∃ (oc : Value) (od : Option Addr) (fd : FuncData) (sl : Array (Option Value)) (u : HO),H₀ f = some (.frz ⟨oc,od,.func fd,sl⟩ u))\/∃ (oc : Value) (od : Option Addr) (fd : FuncData) (sl : Array (Option Value)),K.lookup f = some ⟨oc,od,.func fd,sl⟩
  len : ∀ vs H Q E,sp vs H Q E->vs.length = n
  run : ∀ (A : Around) (outer : List Env) (s : Shared) (H : Hp) (us : List Value) (vs : List V) (Q : VK) (E : XK),dN k A->zH P w K mg base A outer s H->Frz H₀ H->ba vs us->sp vs H Q E ->
    codeAny (model P w) A (.call (.ref f) ⟨us,[]⟩) (CR CX0 outer P w H s Q E) s
def CZ (X : Cx) (k n i : Nat) (t : TA) : TE:=fun σ H Q=>∃ f sp,σ[i]? = some (some (.ref f))/\Clo X.prog X.w X.K X.mg X.base X.H₀ k f n sp/\t σ H fun vs H1=>sp vs H1 Q E0
section
variable {X : Cx} {k n i : Nat} {x : Str} {p pos : Pos} {e : Expr} {es : List Expr} {t : TA}
theorem wX (hr : dN k X.A) (hN : X.N[i]? = some x) (hv : Vis X.env.scope x) (ha : PA X (e :: es) t) (hd : (x == ("__debug__" : Str)) = false:=by decide) (hcd : (x == ("__classdict__" : Str)) = false:=by decide)
    (he : starEach (e :: es) X.env = (false,eval e X.env) :: starEach es X.env:=by rfl) (hpl : (backTo pos (starEach es X.env)).any (·.1) = false:=by rfl) :
    PE X (.Call (.Name x p) (e :: es) [] pos) (CZ X k n i t):=.mk <| by
  intro pins s σ H Q I h
  obtain ⟨f,sp,ev,C,h⟩:=h
  have at' : ∀ {σ1 : St} {H1 : Hp} {s1 : Shared},Inv X pins σ1 H1 s1->PySem.W.FnAt f s1.heap:=fun {σ1 H1 s1} J=>by
    rcases C.fn with ⟨oc,od,fd,sl,u,q⟩ | ⟨oc,od,fd,sl,q⟩
    · exact ⟨oc,od,fd,sl,(J.hok _ _ (J.base.frzs _ _ _ q)).1⟩
    · exact ⟨oc,od,fd,sl,J.kIn _ _ q⟩
  refine wpAny_Call_Name_kw (thn (CD (X:=X) hN hv hd hcd pins s σ H (fun v H1=>v = .ref f/\H1 = H) I ⟨_,ev,rfl,rfl⟩) fun u s1 ⟨v,H1,I1,r,e1,e2⟩=>?_)
  subst e1 e2
  obtain rfl : u = Value.ref f:=r
  refine PySem.W.callWith_F (at' I1) (thn (ha pos pins s1 σ H1 _ I1 h) fun us s2 ⟨vs,H2,I2,r2,q2⟩=>⟨at' I2,?_⟩) he hpl
  refine wpAny_call (codeAny_mono (C.run X.A X.stack s2 H2 us vs Q E0 hr I2.env0 (fun b o u q=>I2.base.frzs b o u q) r2 q2) fun r s' hq=>?_)
  cases r with
  | error e=>exact False.elim hq
  | ok fl =>
    cases fl with
    | ret u=>exact I2.after hq
    | next=>exact False.elim hq
    | brk=>exact False.elim hq
    | cont=>exact False.elim hq
end
theorem Mod.mono {K : PySem.W.Frag} {mg : Str->Option Value} {b b' : Heap} (m : Mod K mg b) (k : ∀ a o,b.get? a = some o->b'.get? a = some o) : Mod K mg b' :=
  ⟨m.kin.keeps k,m.glob.keeps k,let ⟨mb,h1,h2⟩:=m.blt;⟨mb,h1.keeps k,h2⟩,m.nolimit.keeps k,let ⟨bm,ob,h1,h2,h3,r⟩:=m.bm;⟨bm,ob,h1,h2,k _ _ h3,r⟩⟩
def ER (X : Cx) (σ : St) (b : Heap) : Prop:=∀ (i : Nat) (x : Str) (v : V),X.N[i]? = some x->σ[i]? = some (some v)->X.env.scope.names.lookup x = some .cell->X.fn x = true->∃ c u,X.env.cells.lookup x = some c/\b.IsCell c (some u)/\bo v u
theorem p7 {h b b' : Heap} : ∀ {l : List Env},h.FunFrames b l->(∀ a∈frs l,b'.get? a = none)->h.FunFrames b' l
  | [],_,_=>trivial
  | env :: r,x,k=>by
    obtain ⟨hk,⟨L,o,hf,hn,ho,hd⟩,hr⟩:=x
    have hL : L∈frs (env :: r):=by unfold frs;rw [List.filterMap_cons,hf];exact List.mem_cons_self
    refine ⟨hk,⟨L,o,hf,k L hL,ho,hd⟩,p7 hr fun a ha=>k a ?_⟩
    unfold frs at ha ⊢
    rw [List.filterMap_cons,hf]
    exact List.mem_cons_of_mem _ ha
theorem Inv.grow {X : Cx} {pins : List (Addr × Obj)} {σ : St} {H : Hp} {s : Shared} (I : Inv X pins σ H s) :
    ∃ b',(∀ a o,X.base.get? a = some o->b'.get? a = some o)/\zH X.prog X.w X.K X.mg b' X.A X.stack s H/\ER X σ b':=by
  have keep : ∀ a o,s.heap.get? a = some o->H a = none->a ∉ frs X.stack->(PySem.W.hideAll s.heap (trk s.heap H ++ frs X.stack)).get? a = some o:=fun a o e n hf=>PySem.W.hideAll_get _ e fun hm=>by
    rcases List.mem_append.mp hm with z | z
    · have q : (H a).isSome = true:=(List.mem_filter.mp z).2
      rw [n] at q;simp at q
    · exact hf z
  have sub : ∀ a o,X.base.get? a = some o->(PySem.W.hideAll s.heap (trk s.heap H ++ frs X.stack)).get? a = some o:=fun a o e=>keep a o (I.bs a o e).1 (I.bs a o e).2 fun hm=>by
    have:=(I.stack.mem hm).1
    rw [e] at this;cases this
  have e0:=I.env0
  refine ⟨PySem.W.hideAll s.heap (trk s.heap H ++ frs X.stack),sub,⟨e0.frames,e0.mod.mono sub,fun a o e=>⟨PySem.W.of_hideAll _ e,?_⟩,Nat.le_of_eq (PySem.W.hideAll_size _ _),p7 e0.funs fun a ha=>PySem.W.hideAll_none _ (List.mem_append_right _ ha),e0.frf,e0.tt,e0.hok,e0.bare⟩,?_⟩
  · cases q : H a with
    | none=>rfl
    | some u =>
      have hm : a∈trk s.heap H:=List.mem_filter.mpr ⟨List.mem_range.mpr (I.hok.lt q),by simp [q]⟩
      rw [PySem.W.hideAll_none _ (List.mem_append_left _ hm)] at e;cases e
  · intro i x v h1 h2 h3 h4
    obtain ⟨m,hn,hl⟩:=I.loc
    obtain ⟨u,r,l⟩:=hl i x v h1 h2 (.inr (.inl h3))
    rcases l with ⟨k,_⟩ | ⟨_,c,hc,o,ho,hd⟩
    · have k' : X.env.scope.names.lookup x = some .local:=k
      rw [h3] at k';cases k'
    · refine ⟨c,u,hc,⟨o,keep c o ho (I.freeC x c hc) fun hm=>?_,hd⟩,r⟩
      rcases List.mem_cons.mp (I.stkSub c hm) with z | z
      · exact I.cne x c hc z
      · obtain ⟨_,o',ho',_⟩:=I.ok.funs.mem z
        exact absurd (Nat.lt_of_lt_of_le (Heap.lt_size ho') (I.ok.cab x c h4 hc)) (Nat.lt_irrefl _)
def CQ (X : Cx) (spf : Heap->Sp) (t : TA) : TE:=fun σ H Q=>t σ H fun vs H1=>∀ b',(∀ a o,X.base.get? a = some o->b'.get? a = some o)->ER X σ b'->spf b' vs H1 Q E0
section
variable {X : Cx} {k : Nat} {f : Addr} {fd : FuncData} {ps : List Str} {x : Str} {p pos : Pos} {e : Expr} {es : List Expr} {t : TA} {spf : Heap->Sp}
theorem nL (F : ∀ b',aJ X.prog X.w X.K X.mg b' CX0 k f fd ps (spf b')) (hr : dN k X.A) (hg : Gl X x) (hm : X.mg x = some (.ref f)) (hk : PySem.W.keepIn X.K (.ref f) = true) (hb : a7 X.K fd ps [])
    (ha : PA X (e :: es) t) (hdb : (x == ("__debug__" : Str)) = false:=by decide) (he : starEach (e :: es) X.env = (false,eval e X.env) :: starEach es X.env:=by rfl) (hpl : (backTo pos (starEach es X.env)).any (·.1) = false:=by rfl) :
    PE X (.Call (.Name x p) (e :: es) [] pos) (CQ X spf t):=.mk <| by
  intro pins s σ H Q I h
  refine wpAny_Call_Name_kw (kT I hg hm ?_ hdb)
  refine PySem.W.callWith_K (h₀:=X.base) I.ok.mod.kin hk (thn (ha pos pins s σ H _ I h) fun us s1 ⟨vs,H1,I1,r,q⟩=>⟨I1.kIn,?_⟩) he hpl
  obtain ⟨b',sub,e0,cb⟩:=I1.grow
  have q:=q b' sub cb
  have hl : (us ++ []).length = ps.length:=by rw [List.append_nil,← r.length];exact (F b').len _ _ _ _ q
  have hbb:=hb s1 us I1.kIn hl
  rw [List.append_nil] at hbb
  refine wpAny_call (codeAny_mono ((F b').run X.A X.stack s1 H1 ⟨us,[]⟩ us vs Q E0 hr e0 hbb r q) fun r s' hq=>?_)
  cases r with
  | error e=>exact False.elim hq
  | ok fl =>
    cases fl with
    | ret u=>exact I1.after hq
    | next=>exact False.elim hq
    | brk=>exact False.elim hq
    | cont=>exact False.elim hq
end
def BA (P : Program) (w : World) (K : PySem.W.Frag) (mg : Str->Option Value) (base : Heap) (N : List Str) (qual : Str) (scope : Scope) (f : Addr) (cd : Value) (cl : List (Str × Addr)) (A : Around) (outer : List Env) (s : Shared) (H : Hp) : Cx where
  prog:=P
  w:=w
  K:=K
  mg:=mg
  base:=base
  A:=A.deeper (PySem.W.envX qual scope s.heap.objs.size f cd cl)
  N:=N
  s₀:=s
  H₀:=H
  env:=PySem.W.envX qual scope s.heap.objs.size f cd cl
  outer:=outer
  stack:=PySem.W.envX qual scope s.heap.objs.size f cd cl :: outer
  ex:=[]
  calm:=true
  fn:=fun _=>false
  pn:=[]
  xe:=fun _ _=>False
structure xh (ps cs : List Str) (sc : Scope) : Prop where
  kind : sc.kind = .function
  co : sc.isCoroutine = false
  gen : sc.isGenerator = false
  nd : (ps ++ cs).Nodup
  par : ∀ x∈ps,sc.names.lookup x = some .local
  free : ∀ x∈cs,sc.names.lookup x = some .free
  has : ∀ y∈sc.names,y.2≠.cell/\(y.2 = .free->y.1∈cs)
def xl (b : Heap) (cl : List (Str × Addr)) (cs : List Str) (caps : List V) : Prop:=caps.length = cs.length/\(∀ x c,cl.lookup x = some c->x∈cs)/\(∀ x y c,cl.lookup x = some c->cl.lookup y = some c->x = y) /\
  ∀ (j : Nat) (x : Str) (v : V),cs[j]? = some x->caps[j]? = some v->∃ c u,cl.lookup x = some c/\b.IsCell c (some u)/\bo v u
theorem sK {α : Type} : ∀ {ps : List Str} {us : List α} {i : Nat} {x : Str} {u : α},ps.Nodup->ps[i]? = some x->us[i]? = some u->(ps.zip us).reverse.lookup x = some u:=by
  intro ps
  induction ps with
  | nil=>intro us i x u _ h;simp at h
  | cons p ps ih =>
    intro us i x u nd h1 h2
    cases us with
    | nil=>simp at h2
    | cons w us =>
      obtain ⟨n1,n2⟩:=List.nodup_cons.mp nd
      rw [List.zip_cons_cons,List.reverse_cons,List.lookup_append]
      cases i with
      | zero =>
        simp at h1 h2
        subst h1 h2
        have : (ps.zip us).reverse.lookup p = none:=by
          rw [List.lookup_eq_none_iff]
          intro q hq
          rw [List.mem_reverse] at hq
          have:=(List.of_mem_zip (a:=q.1) (b:=q.2) hq).1
          simp only [beq_eq_false_iff_ne,ne_eq,bne_iff_ne]
          intro z
          exact n1 (z ▸ this)
        rw [this]
        simp [List.lookup]
      | succ i =>
        rw [ih n2 (by simpa using h1) (by simpa using h2)]
        rfl
theorem IX {P : Program} {w : World} {K : PySem.W.Frag} {mg : Str->Option Value} {base : Heap} {H₀ : Hp} {k : Nat} {f : Addr} {q : Str} {params : Arguments} {body : Expr} {scope : Scope} {cl : List (Str × Addr)} {ps cs : List Str} {caps : List V} {sp : Sp}
    (L : sS H₀ f q params body scope cl) (S : xh ps cs scope) (C : xl base cl cs caps)
    (hb : ∀ (pm : Value) (c : Addr) (ctv : Value) (us : List Value),us.length = ps.length->bindArgs (PySem.W.kla_fn "<lambda>" q params body scope cl pm (.ref c) ctv) ⟨us,[]⟩ = pure (ps.zip us))
    (len : ∀ vs H Q E,sp vs H Q E->vs.length = ps.length)
    (hbody : ∀ (cd : Value) (A : Around) (outer : List Env) (s : Shared) (H : Hp) (vs : List V) (Q : VK) (E : XK),dN k (A.deeper (PySem.W.envX q scope s.heap.objs.size f cd cl))->sp vs H Q E ->
      ∃ t,PE (BA P w K mg base (ps ++ cs) q scope f cd cl A outer s H) body t/\t ((vs ++ caps).map some) H Q) : Clo P w K mg base H₀ (k + 1) f ps.length sp:=by
  obtain ⟨pm,c,ctv,oc,vc,tc,u1,u2,e1,e2,e3,e4⟩:=L
  refine ⟨.inl ⟨_,_,_,_,_,e1⟩,len,fun A outer s H us vs Q E hr e0 hF r hsp=>?_⟩
  have hl:=len _ _ _ _ hsp
  have hlu : us.length = ps.length:=r.length.symm.trans hl
  have f1:=(e0.hok _ _ (hF _ _ _ e1)).1
  have f2:=(e0.hok _ _ (hF _ _ _ e2)).1
  have lim : s.heap.NoLimit:=e0.mod.nolimit.keeps fun b o e=>(e0.bs b o e).1
  have nps : ps.Nodup:=S.nd.sublist (List.sublist_append_left _ _)
  refine PySem.W.kla_callFunE hr.depth f1 rfl S.co S.gen rfl ⟨c,oc,vc,tc,rfl,f2,e3,e4⟩ ?_
  rw [hb pm c ctv us hlu]
  refine wpAny_pure (wpAny_newFunctionEnv (fun y hy=>(S.has y hy).1) (fun y hy=>S.par y.1 (List.of_mem_zip (a:=y.1) (b:=y.2) hy).1) (fun h₁ hns hsb=>⟨lim.fresh _ hsb,?_⟩) S.kind)
  show codeAny _ _ (.expr body (PySem.W.envX q scope s.heap.objs.size f (.ref c) cl)) _ _
  have hk₁ : ∀ b o,s.heap.get? b = some o->h₁.get? b = some o:=fun b o e=>hsb.extBut b o (Nat.ne_of_lt (Heap.lt_size e)) (Heap.get?_push_of_some _ e)
  obtain ⟨c1,c2,c3,c4⟩:=C
  obtain ⟨t,ht,hq⟩:=hbody (.ref c) A outer s H vs Q E (hr.deeper _) hsp
  have capC : ∀ x c,cl.lookup x = some c->∃ v,base.IsCell c v:=fun x c e=>by
    obtain ⟨j,hj⟩:=List.getElem?_of_mem (c2 x c e)
    have hj2 : j < caps.length:=by rw [c1];exact (List.getElem?_eq_some_iff.mp hj).1
    obtain ⟨c',u,z1,z2,_⟩:=c4 j x caps[j] hj (List.getElem?_eq_getElem hj2)
    rw [e] at z1;cases z1
    exact ⟨_,z2⟩
  have noA : ∀ b : Addr,b ∉ (BA P w K mg base (ps ++ cs) q scope f (.ref c) cl A outer s H).ex:=fun b z=>absurd (show b∈([] : List Addr) from z) (by simp)
  have I : Inv (BA P w K mg base (ps ++ cs) q scope f (.ref c) cl A outer s H) [] ((vs ++ caps).map some) H { s with heap:=h₁,toks:=s.toks + (ps.zip us).length }:=by
    refine ⟨⟨e0.mod,S.kind,rfl,rfl,Nat.le_refl _,c3,fun y hy=>?_,fun y c h=>(nomatch h),fun _=>hr.hd,Around.frames_deeper e0.frames,.inr ⟨rfl,rfl⟩,fun b z=>absurd z (noA b),e0.bs,e0.bsz,fun b _ _=>noA b,fun b z=>absurd z (noA b),e0.funs,e0.frf,e0.tt⟩,
      rfl,e0.bare,Un.kept hk₁,⟨_,hns,fun i y v h1 h2 h3=>?_⟩,fun y c h=>?_,e0.hok.fresh (Nat.le_refl _),fun y c h=>?_,fun p hp=>absurd (show p∈([] : List (Addr × Obj)) from hp) (by simp),e0.hok.kept hk₁,?_⟩
    · have hy : scope.names.lookup y = some .cell\/scope.names.lookup y = some .free:=hy
      rcases hy with hy | hy
      · exact absurd rfl (S.has _ (PySem.mem_of_lookup hy)).1
      · have hm:=(S.has _ (PySem.mem_of_lookup hy)).2 rfl
        obtain ⟨j,hj⟩:=List.getElem?_of_mem hm
        have hj2 : j < caps.length:=by rw [c1];exact (List.getElem?_eq_some_iff.mp hj).1
        obtain ⟨c',u,z1,z2,_⟩:=c4 j y caps[j] hj (List.getElem?_eq_getElem hj2)
        exact ⟨c',z1⟩
    · have h1 : (ps ++ cs)[i]? = some y:=h1
      rw [List.getElem?_map] at h2
      cases hv : (vs ++ caps)[i]? with
      | none=>rw [hv] at h2;cases h2
      | some v' =>
        rw [hv] at h2
        cases h2
        rcases Nat.lt_or_ge i ps.length with hi | hi
        · rw [List.getElem?_append_left hi] at h1
          rw [List.getElem?_append_left (by rw [hl];exact hi)] at hv
          obtain ⟨u,hu,ru⟩:=r.get hv
          exact ⟨u,ru,.inl ⟨S.par y (List.mem_of_getElem? h1),sK nps h1 hu⟩⟩
        · rw [List.getElem?_append_right hi] at h1
          rw [List.getElem?_append_right (by rw [hl];exact hi),hl] at hv
          obtain ⟨c',u,z1,z2,z3⟩:=c4 _ y v h1 hv
          refine ⟨u,z3,.inr ⟨.inr (S.free y (List.mem_of_getElem? h1)),c',z1,?_⟩⟩
          obtain ⟨o,ho,hd⟩:=z2
          exact ⟨o,hk₁ _ _ (e0.bs _ _ ho).1,hd⟩
    · obtain ⟨v,o,ho,hd⟩:=capC y c h
      exact ⟨v,o,hk₁ _ _ (e0.bs _ _ ho).1,hd⟩
    · obtain ⟨v,o,ho,hd⟩:=capC y c h
      exact (e0.bs _ _ ho).2
    · show ((vs ++ caps).map some).length = (ps ++ cs).length
      rw [List.length_map,List.length_append,List.length_append,hl,c1]
  refine PySem.W.kla_codeExpr (wpAny_mono (ht [] _ _ H _ I hq) (fun v s' ⟨v',H',J,rv,q'⟩=>?_) fun e s' hs=>False.elim hs)
  exact ⟨v',H',J.os,J.bare,J.base,J.hok,rv,q'⟩
structure wq (K : PySem.W.Frag) (x qual : Str) (st : Stmt) (f : Addr) (fd : FuncData) (c p : Addr) : Prop where
  ex : ∃ (oc : Value) (od : Option Addr) (kV doc pm : Value) (an : Option Addr) (ct : Value) (osl : Array (Option Value)),
    fd = PySem.W.fnOf x qual (defArgs st) (defBody st) (defScope st) .none kV doc pm an (.ref c) ct/\K.lookup f = some ⟨oc,od,.func fd,osl⟩/\PySem.W.codeIn K (.ref c) qual = true
  tab : (x,c,p)∈jK K
  hd : vf K c p = true
theorem wq.ok {P : Program} {w : World} {K : PySem.W.Frag} {mg : Str->Option Value} {base : Heap} {x qual : Str} {st : Stmt} {f c p : Addr} {fd : FuncData} {N ps : List Str} {k : Nat} {sp : Sp} (F : wq K x qual st f fd c p) (S : aH N ps (defScope st)) (len : ∀ vs H Q E,sp vs H Q E->vs.length = ps.length)
    (hbody : ∀ (A : Around) (outer : List Env) (s : Shared) (H : Hp) (vs : List V) (Q : VK) (E : XK),dN k (A.deeper (envOfC qual (defScope st) s.heap.objs.size f (.ref c)))->sp vs H Q E ->
      ∃ t,PSs (kE CX0 P w K mg base N qual (defScope st) f (.ref c) A outer s H E).nox (defBody st) t/\t { nx:=fun _ H'=>Q .non H',rt:=Q } (start N vs) H) : aJ P w K mg base CX0 (k + 1) f fd ps sp:=by
  obtain ⟨oc,od,kV,doc,pm,an,ct,osl,rfl,lk,hcd⟩:=F.ex
  refine Ea lk hcd S len fun A outer s H vs Q E hr hsp=>?_
  obtain ⟨t,h,q⟩:=hbody A outer s H vs Q E hr hsp
  exact ⟨t,h.nox,q⟩
theorem qw {K : PySem.W.Frag} {x qual : Str} {st : Stmt} {f c p : Addr} {oc : Value} {od an : Option Addr} {osl : Array (Option Value)} {kV doc pm cdv ct : Value} (l : K.lookup f = some ⟨oc,od,.func (PySem.W.fnOf x qual (defArgs st) (defBody st) (defScope st) .none kV doc pm an cdv ct),osl⟩)
    (hc : PySem.W.codeIn K cdv qual = true) (e : cdv = .ref c) (t : (jK K).contains (x,c,p) = true) (h : vf K c p = true) : wq K x qual st f (PySem.W.fnOf x qual (defArgs st) (defBody st) (defScope st) .none kV doc pm an cdv ct) c p:=by
  subst e
  exact ⟨⟨oc,od,kV,doc,pm,an,ct,osl,rfl,l,hc⟩,by simpa using t,h⟩
def ndB : List Nat->Bool
  | []=>true
  | a :: r=>!(r.contains a) && ndB r
theorem zP {α : Type} (f : α->Nat) : ∀ {l : List α} {q : α},ndB (l.map f) = true->q∈l->l.find? (fun t=>f t == f q) = some q
  | [],_,_,m=>nomatch m
  | a :: r,q,h,m=>by
    rw [List.map_cons,ndB,Bool.and_eq_true] at h
    obtain ⟨h1,h2⟩:=h
    rcases List.mem_cons.mp m with e | m
    · subst e
      rw [List.find?_cons_of_pos (by simp)]
    · have ne : (f a == f q) = false:=by
        cases z : f a == f q with
        | false=>rfl
        | true =>
          have z' : f a = f q:=eq_of_beq z
          have : (r.map f).contains (f a) = true:=by
            rw [z']
            simpa using ⟨q,m,rfl⟩
          rw [this] at h1
          cases h1
      rw [List.find?_cons_of_neg (by rw [ne];simp)]
      exact zP f h2 m
def tD (K : PySem.W.Frag) (b : Addr) : Option HO:=((jK K).find? fun t=>t.2.2 == b).map fun t=>HO.tbl #[.str (t.1 ++ ".<locals>." ++ "<lambda>") 0]
theorem rL {K : PySem.W.Frag} {b : Addr} {o : HO} (e : tD K b = some o) : ∃ t∈jK K,t.2.2 = b/\o = HO.tbl #[.str (t.1 ++ ".<locals>." ++ "<lambda>") 0]:=by
  unfold tD at e
  cases q : (jK K).find? (fun t=>t.2.2 == b) with
  | none=>rw [q] at e;cases e
  | some t =>
    rw [q] at e
    cases e
    have:=List.find?_some q
    exact ⟨t,List.mem_of_find?_eq_some q,eq_of_beq this,rfl⟩
def CB (K : PySem.W.Frag) (names : List Str) : Bool:=PySem.W.noTabs K && ndB ((jK K).map fun t=>t.2.2) && (jK K).all fun t=>names.contains t.1
theorem Gz {K : PySem.W.Frag} {t : Str × Addr × Addr} (h : t∈jK K) : PySem.W.tabIn K t.1 = some t.2:=by
  unfold jK at h
  split at h
  · obtain ⟨e,_,q⟩:=List.mem_filterMap.mp h
    split at q
    · rename_i x tk hx
      cases z : PySem.W.tabIn K x with
      | none=>rw [z] at q;cases q
      | some r=>rw [z] at q;cases q;exact z
    · cases q
  · cases h
theorem BF {P : Program} {w : World} {K : PySem.W.Frag} {mg mb : Str->Option Value} {CX : CXT} {k : Nat} {fa a : Addr} {fd : FuncData} {x : Str} {sp : Sp} {s₁ : Shared} {vs : List Value} {ns : List Int}
    (KX : K.In s₁.heap) (hns : s₁.heap.Ns mainGlobals mg) (hb : s₁.heap.Ns builtinsNs mb) (hbb : ∀ x : Str,x≠"__name__"->mb x = bootBuiltins x) (hlim : s₁.heap.NoLimit) (hg : s₁.gens = #[])
    (hbm : ∃ bm ob,mg "__builtins__" = some (.ref bm)/\bm≠builtinsNs/\s₁.heap.get? bm = some ob/\ob.cls = .type "module"/\ob.dict = some builtinsNs/\ob.data = .plain)
    (hT : ∀ t∈jK K,PySem.W.CodeHd s₁.heap t.2.1 t.2.2/\s₁.heap.get? t.2.2 = some (PySem.W.tabObj #[])) (nt : PySem.W.noTabs K = true) (nd : ndB ((jK K).map fun t=>t.2.2) = true)
    (ha : s₁.heap.get? a = some { cls:=.type "list",data:=.seq vs.toArray }) (hi : IntsAre vs ns) (hl : ns.length<=sizeLine) (hr : dN k callerA)
    (F : ∀ base : Heap,aJ P w K mg base CX k fa fd [x] sp) (hbind : ∀ (s : Shared) (u : Value),BindsTo s fd ⟨[u],[]⟩ [(x,u)])
    (hsp : ∀ H : Hp,SqL K H a (ns.map V.int)->sp [.ref a] H (fun v _=>v = .bl true) fun _ _ _=>False)
    (hCX : ∀ H e s',CX [] H s₁ (fun _ _ _=>False) e s'->False) :
    codeAny (model P w) callerA (.call (.ref fa) ⟨[.ref a],[]⟩) (fun r s'=>r = .ok (.ret (.bool true))/\OldK s₁.heap s'.heap/\s'.os = s₁.os/\AllBare s'.gens) s₁:=by
  have rv:=uB hi
  have lenV:=hi.length
  have tabNot : ∀ b o,K.lookup b = some o->tD K b = none:=fun b o e=>by
    cases q : tD K b with
    | none=>rfl
    | some u =>
      obtain ⟨t,ht,rfl,_⟩:=rL q
      have e1:=(hT t ht).2
      rw [KX _ _ e] at e1
      cases e1
      have h2:=List.all_eq_true.mp nt _ (PySem.W.mem_of_lookupK e)
      exact absurd (show false = true from h2) Bool.false_ne_true
  have tabA : tD K a = none:=by
    cases q : tD K a with
    | none=>rfl
    | some u =>
      obtain ⟨t,ht,e,_⟩:=rL q
      have e1:=(hT t ht).2
      rw [e,ha] at e1
      cases e1
  have core : ∀ H : Hp,(∀ b,b≠a->H b = tD K b)->(H a = none\/(K.lookup a = none/\H a = some (.frz { cls:=.type "list",data:=.seq vs.toArray } (.lst (ns.map V.int)))))->SqL K H a (ns.map V.int) ->
      codeAny (model P w) callerA (.call (.ref fa) ⟨[.ref a],[]⟩) (fun r s'=>r = .ok (.ret (.bool true))/\OldK s₁.heap s'.heap/\s'.os = s₁.os/\AllBare s'.gens) s₁:=by
    intro H hH hA hS
    have what : ∀ b u,H b = some u->(b = a/\K.lookup a = none/\u = .frz { cls:=.type "list",data:=.seq vs.toArray } (.lst (ns.map V.int)))\/∃ t∈jK K,t.2.2 = b/\u = HO.tbl #[.str (t.1 ++ ".<locals>." ++ "<lambda>") 0]:=fun b u e=>by
      by_cases hb : b = a
      · subst hb
        rcases hA with z | ⟨z1,z2⟩
        · rw [z] at e;cases e
        · rw [z2] at e;cases e
          exact .inl ⟨rfl,z1,rfl⟩
      · rw [hH b hb] at e
        exact .inr (rL e)
    have hok : HOk P w H s₁.heap:=fun b u e=>by
      rcases what b u e with ⟨rfl,_,rfl⟩ | ⟨t,ht,rfl,rfl⟩
      · exact ⟨ha,by rw [List.length_map];exact hl,vs,_,rv,ha⟩
      · exact ⟨#[],(hT t ht).2,trivial,fun pos cv q=>by cases q⟩
    have tt : BS K H:=fun t ht=>by
      refine ⟨#[.str (t.1 ++ ".<locals>." ++ "<lambda>") 0],?_,rfl⟩
      have ne : t.2.2≠a:=fun z=>by
        have e1:=(hT t ht).2
        rw [z,ha] at e1
        cases e1
      rw [hH _ ne]
      unfold tD
      rw [zP (fun t : Str × Addr × Addr=>t.2.2) nd ht]
      rfl
    have base_of : ∀ {b : Addr} {o : Obj},s₁.heap.get? b = some o->H b = none->(uV s₁.heap H).get? b = some o:=fun e n=>Dk e n
    have freeB : ∀ {b : Addr} {o : Obj},s₁.heap.get? b = some o->o.cls≠.none->o.cls≠.type "list"->H b = none:=fun {b o} e c1 c2=>by
      cases q : H b with
      | none=>rfl
      | some u =>
        rcases what b u q with ⟨rfl,_,_⟩ | ⟨t,ht,rfl,_⟩
        · rw [ha] at e;cases e;exact absurd rfl c2
        · rw [(hT t ht).2] at e;cases e;exact absurd rfl c1
    have noD : ∀ {b : Addr} {o : Obj} {es : Array DictEntry} {ep : Nat},s₁.heap.get? b = some o->o.data = .dict es ep->H b = none:=fun {b o es ep} e d=>by
      cases q : H b with
      | none=>rfl
      | some u =>
        rcases what b u q with ⟨rfl,_,_⟩ | ⟨t,ht,rfl,_⟩
        · rw [ha] at e;cases e;cases d
        · rw [(hT t ht).2] at e;cases e;cases d
    have nsK : ∀ {b : Addr} {m : Str->Option Value},s₁.heap.Ns b m->(uV s₁.heap H).Ns b m:=fun {b m} ⟨o,es,ep,e,d,r⟩=>⟨o,es,ep,base_of e (noD e d),d,r⟩
    have hKb : K.In (uV s₁.heap H):=fun b o e=>base_of (KX b o e) (by
      cases q : H b with
      | none=>rfl
      | some u =>
        by_cases hb : b = a
        · subst hb
          rcases hA with z | ⟨z1,_⟩
          · rw [z] at q;cases q
          · rw [e] at z1;cases z1
        · rw [hH b hb,tabNot b o e] at q;cases q)
    have hM : Mod K mg (uV s₁.heap H):=⟨hKb,nsK hns,⟨mb,nsK hb,hbb⟩,let ⟨mc,h1,h2⟩:=hlim;⟨mc,nsK h1,h2⟩,
      let ⟨bm,ob,b1,b2,b3,b4,b5,b6⟩:=hbm;⟨bm,ob,b1,b2,base_of b3 (freeB b3 (by rw [b4];nofun) (by rw [b4];decide)),b4,b5,b6⟩⟩
    have e0 : zH P w K mg (uV s₁.heap H) callerA [] s₁ H:=⟨rfl,hM,fun b o e=>FK e,Nat.le_of_eq (BN _ _),trivial,fun b hb=>absurd (show b∈([] : List Addr) from hb) (by simp),tt,hok,.of_eq hg⟩
    refine codeAny_mono ((F _).run callerA [] s₁ H ⟨[.ref a],[]⟩ [.ref a] [.ref a] _ _ hr e0 (hbind s₁ (.ref a)) (.cons rfl .nil) (hsp H hS)) fun r s' h=>?_
    cases r with
    | error e=>exact (hCX H e s' h).elim
    | ok fl =>
      cases fl with
      | next=>exact False.elim h
      | brk=>exact False.elim h
      | cont=>exact False.elim h
      | ret u =>
        obtain ⟨v,H',os,bare,un,hok',r',q⟩:=h
        have q' : v = .bl true:=q
        subst q'
        obtain rfl : u = Value.bool true:=r'
        refine ⟨rfl,⟨fun b o e=>?_,fun b o e=>un.there b o e (by simp)⟩,os,bare⟩
        cases q : H b with
        | none=>exact .inl (un.keep b o e q (by intro z;exact absurd (show b∈([] : List Addr) from z) (by simp)) (by simp))
        | some u =>
          rcases what b u q with ⟨rfl,_,rfl⟩ | ⟨t,ht,rfl,rfl⟩
          · have z2:=un.frzs _ _ _ q
            obtain ⟨e1,_⟩:=hok _ _ q
            obtain ⟨e2,_⟩:=hok' _ _ z2
            rw [e] at e1;cases e1
            exact .inl e2
          · obtain ⟨more,z2⟩:=un.tbls _ _ q
            obtain ⟨qs,e2,_⟩:=hok' _ _ z2
            have e1:=(hT t ht).2
            rw [e] at e1
            obtain rfl:=Option.some.inj e1
            exact .inr (.inl ⟨((hT t ht).1.tab (hT t ht).2).isCodeTable,rfl,#[],qs,rfl,by rw [Array.empty_append];exact e2⟩)
  cases hk : K.lookup a with
  | some o =>
    have e:=KX a o hk
    rw [ha] at e
    cases e
    exact core (fun b=>tD K b) (fun _ _=>rfl) (.inl tabA) (.inr ⟨_,vs.toArray,_,hk,rfl,rfl,rfl,by rw [List.size_toArray,lenV];exact hl,by simpa using rv⟩)
  | none =>
    refine core (fun b=>if b = a then some (.frz { cls:=.type "list",data:=.seq vs.toArray } (.lst (ns.map V.int))) else tD K b) (fun b hb=>if_neg hb) (.inr ⟨hk,if_pos rfl⟩) (.inl (.inr ⟨_,if_pos rfl⟩))
theorem Eg {l : PySem.W.OpenLaw} {n k : Nat} {q : Program} {loose : List Str} {XP : (Str->Option Value)->Heap->Prop} {YP : World->Heap->Prop} {d : DefRec} {K : Params->PySem.W.Frag} {CX : CXT} {sp : PySem.W.Frag->Sp} {x : Str}
    (hn : l.most = some n) (hn2 : n<=sizeLine) (hdf : d.params.defaults = []) (hr : dN k callerA)
    (hY : ∀ (w : World) (h : Heap),YP w h->(K w.params).In h)
    (tabs : ∀ w : World,CB (K w.params) ((recsOf q).map (·.name)) = true)
    (F : ∀ (w : World) (mg : Str->Option Value) (fa : Addr) (h : Heap),(K w.params).In h->h.Ns mainGlobals mg->mg d.name = some (.ref fa) ->
      ∃ fd : FuncData,(∀ (s : Shared) (u : Value),BindsTo s fd ⟨[u],[]⟩ [(x,u)])/\∀ base : Heap,aJ l.prog w (K w.params) mg base CX k fa fd [x] (sp (K w.params)))
    (hsp : ∀ (K : PySem.W.Frag) (H : Hp) (a : Addr) (ns : List Int),ns.length<=n->Kh H->SqL K H a (ns.map V.int)->sp K [.ref a] H (fun v _=>v = .bl true) fun _ _ _=>False)
    (hCX : ∀ (H : Hp) (s : Shared) (e : Value) (s' : Shared),CX [] H s (fun _ _ _=>False) e s'->False) :
    PySem.W.WalkO q loose XP YP l.row.toRowW d [] (fun f vs=>PySem.call f vs):=by
  refine Att.wF hn hdf fun w s₀ s₁ mg mb fa o pm cd doc a vs ns G Y ho hd hcd hmg hobj hints hlen hg=>?_
  have KX:=hY w _ Y
  have tb:=tabs w
  unfold CB at tb
  rw [Bool.and_eq_true,Bool.and_eq_true] at tb
  obtain ⟨⟨t1,t2⟩,t3⟩:=tb
  obtain ⟨fd,hb,hF⟩:=F w mg fa _ KX G.T.g hmg
  refine BF KX G.T.g G.T.b G.T.builtins G.T.nolimit hg G.T.bmain (fun t ht=>?_) t1 t2 hobj hints (Nat.le_trans hlen hn2) hr hF hb (fun H hS=>hsp _ H a ns hlen trivial hS) fun H e s'=>hCX H s₁ e s'
  have hc:=List.all_eq_true.mp t3 t ht
  have hm : t.1∈(recsOf q).map (·.name):=by simpa using hc
  obtain ⟨r,hr1,hr2⟩:=List.mem_map.mp hm
  cases z : (recsOf q).find? (fun e=>e.name == t.1) with
  | none =>
    have:=List.find?_eq_none.mp z r hr1
    rw [hr2] at this
    simp at this
  | some d'=>exact PySem.W.tab_of G.T KX z (Gz ht)
end L2
namespace L2
open PySem PySem.Spec PySem.Calls PyProof.Rows
open AutoSeq1 (wpAny_loadPart')
section
variable {prog : Program} {w : World} {A : Around} {E : Value->Shared->Prop} {S : Shared}
theorem yr {j t : Addr} {k : Nat} {its : Array Value} {v : Value} {Q : Value->Shared->Prop} (hj : S.heap.IsTupleIter j t k) (ht : S.heap.IsTuple t its) (hv : its[k]? = some v)
    (hQ : ∀ h1,h1.IsTupleIter j t (k + 1)->Heap.SameBut j S.heap h1->Q v { S with heap:=h1 }) : wpAny (model prog w) A (Builtin.SmallTypes.nextOf (.ref j)) Q E S:=by
  obtain ⟨oj,hoj,hcj,hdj⟩:=id hj
  obtain ⟨ot,hot,_,nt,hdt⟩:=ht
  unfold Builtin.SmallTypes.nextOf
  refine wpAny_bind (wpAny_callSpecial?_slot (name:=Str.ofString "__next__") hj.typeIs F.slot_tuple_iterator_next (wpAny_call_entry F.slot_tuple_iterator_next hj.typeIs F.entry_tuple_iterator_next ?_ (F.args_tuple_iterator_next_1 _)))
  show wpAny _ _ (field (.ref j) 0 >>= _) _ _ S
  refine wpAny_bind (wpAny_field hoj hdj (x:=.ref t) rfl ?_)
  show wpAny _ _ (if (Value.ref t == Value.none) = true then _ else _) _ _ S
  rw [if_neg (show ¬ (Value.ref t == Value.none) = true by intro z;cases z)]
  show wpAny _ _ (field (.ref j) 1 >>= _) _ _ S
  refine wpAny_bind (wpAny_field hoj hdj (x:=.int k 0) rfl ?_)
  show wpAny _ _ (seqItems? (.ref t) >>= _) _ _ S
  refine wpAny_bind (wpAny_seqItems hot hdt ?_)
  simp only [Int.toNat_natCast,hv]
  refine wpAny_bind (wpAny_setField hoj hdj (by simp) (wpAny_pure ⟨v,rfl,wpAny_pure (hQ _ ?_ (Heap.SameBut.update ..))⟩))
  refine ⟨_,Heap.get?_update_self _ hoj (Obj.isFreed_of_fields (Obj.data_mapFields hdj _)),(Obj.cls_mapFields ..).trans hcj,?_⟩
  rw [Obj.data_mapFields hdj]
  simp [rawInt]
theorem B1 {j t : Addr} {k : Nat} {its : Array Value} {Q : Value->Shared->Prop} (hh : A.handled = none) (hj : S.heap.IsTupleIter j t k) (ht : S.heap.IsTuple t its) (hv : its[k]? = none)
    (hE : ∀ h1 e,Heap.ExtBut j S.heap h1->(∃ o,h1.get? e = some o/\o.cls = .type "StopIteration")->E (.ref e) { S with heap:=h1 }) : wpAny (model prog w) A (Builtin.SmallTypes.nextOf (.ref j)) Q E S:=by
  obtain ⟨oj,hoj,hcj,hdj⟩:=id hj
  obtain ⟨ot,hot,_,nt,hdt⟩:=ht
  unfold Builtin.SmallTypes.nextOf
  refine wpAny_bind (wpAny_callSpecial?_slot (name:=Str.ofString "__next__") hj.typeIs F.slot_tuple_iterator_next (wpAny_call_entry F.slot_tuple_iterator_next hj.typeIs F.entry_tuple_iterator_next ?_ (F.args_tuple_iterator_next_1 _)))
  show wpAny _ _ (field (.ref j) 0 >>= _) _ _ S
  refine wpAny_bind (wpAny_field hoj hdj (x:=.ref t) rfl ?_)
  show wpAny _ _ (if (Value.ref t == Value.none) = true then _ else _) _ _ S
  rw [if_neg (show ¬ (Value.ref t == Value.none) = true by intro z;cases z)]
  show wpAny _ _ (field (.ref j) 1 >>= _) _ _ S
  refine wpAny_bind (wpAny_field hoj hdj (x:=.int k 0) rfl ?_)
  show wpAny _ _ (seqItems? (.ref t) >>= _) _ _ S
  refine wpAny_bind (wpAny_seqItems hot hdt ?_)
  simp only [Int.toNat_natCast,hv]
  refine wpAny_bind (wpAny_rule (wpAny_bind (wpAny_setField hoj hdj (by simp) ?_)))
  show wpAny _ _ (newExc (Value.type "StopIteration") [] >>= _) _ _ _
  refine wpAny_bind ?_
  simp only [newTuple,newExc]
  refine wpAny_bind (wpAny_newObj_type ?_ (by size_fits))
  refine wpAny_bind (m:=firstArgMember _ _) (wpAny_of_eq (a:=Value.none) (by first | rfl | (unfold firstArgMember;rfl)) ?_)
  refine wpAny_newObj_type ?_ (hd:=by size_fits)
  unfold raiseNew
  refine wpAny_bind (wpAny_handled ?_)
  first | rw [show A.in1.handled = none from hh] | rw [hh]
  refine wpAny_bind (wpAny_pure (wpAny_throw (hE _ _ ?_ ⟨_,Heap.get?_push_size _ rfl,rfl⟩)))
  exact ((Heap.SameBut.update ..).extBut.push _).push _
set_option maxHeartbeats 2000000 in
end
theorem Inv.turnNew {X : Cx} {pins : List (Addr × Obj)} {σ : St} {H : Hp} {s : Shared} {h' : Heap} {tk : Nat} {ch : List Addr} {T : Addr} {o : HO} (I : Inv X pins σ H s) (hch : ∀ b∈ch,lR X pins H b)
    (k : ∀ b ob,b ∉ ch->s.heap.get? b = some ob->h'.get? b = some ob) (hT : s.heap.objs.size<=T) (new : c7 X.prog X.w (upd H T o) h' T o) : Inv X pins σ (upd H T o) { s with heap:=h',toks:=tk }:=by
  have hn:=I.hok.fresh hT
  have nc : ∀ b u,H b = some u->b ∉ ch:=fun b u e hb=>by rw [(hch b hb).1] at e;cases e
  have nT : ∀ b u,H b = some u->b≠T:=fun b u e=>aZ e hn
  have lT : ∀ b ob,s.heap.get? b = some ob->b≠T:=fun b ob e=>Nat.ne_of_lt (Nat.lt_of_lt_of_le (Heap.lt_size e) hT)
  refine I.step (g':=s.gens) (d':=s.drawn) (ch:=ch) (fun b hb=>?_) (fun b ob _ _ hc e _=>k b ob hc e) (fun b ob _ _ hc e _=>⟨ob.slots,k b ob hc e⟩) (fun b ob _ e n=>by rw [ax (lT b ob e)];exact n)
    (fun b ob hc e=>⟨ob,k b ob hc e⟩) (fun b xs e=>by rw [ax (nT b _ e)];exact e) (fun b ob u e=>by rw [ax (nT b _ e)];exact e) (fun b ps e=>⟨#[],by rw [ax (nT b _ e),e];simp⟩) (fun m hm=>?_) (fun b u e=>?_) I.bare
  · obtain ⟨f0,f1,f2,f3,f4,f5⟩:=hch b hb
    exact ⟨f3,f1,f4,f5⟩
  · obtain ⟨ob,es,ep,ho,r⟩:=hm
    exact ⟨ob,es,ep,k _ ob (fun z=>(hch _ z).2.1 rfl) ho,r⟩
  · by_cases hb : b = T
    · subst hb;rw [bQ] at e;cases e;exact new
    · rw [ax hb] at e
      refine (I.hok b u e).stay (fun c v hc q=>k c v ?_ q) (fun c q=>by rw [ax (nT c _ q)];exact q) (fun c xs q=>by rw [ax (nT c _ q)];exact q) fun c ob u' q=>by rw [ax (nT c _ q)];exact q
      rcases hc with rfl | hc
      · exact nc _ _ e
      · exact nc _ _ hc
theorem Inv.turnAll {X : Cx} {pins : List (Addr × Obj)} {σ : St} {H : Hp} {s : Shared} {h' : Heap} {tk : Nat} {ch : List Addr} (I : Inv X pins σ H s) (hch : ∀ b∈ch,lR X pins H b)
    (k : ∀ b ob,b ∉ ch->s.heap.get? b = some ob->h'.get? b = some ob) : Inv X pins σ H { s with heap:=h',toks:=tk }:=by
  have nc : ∀ b u,H b = some u->b ∉ ch:=fun b u e hb=>by rw [(hch b hb).1] at e;cases e
  refine I.step (g':=s.gens) (d':=s.drawn) (ch:=ch) (fun b hb=>?_) (fun b ob _ _ hc e _=>k b ob hc e) (fun b ob _ _ hc e _=>⟨ob.slots,k b ob hc e⟩) (fun b ob _ e n=>n)
    (fun b ob hc e=>⟨ob,k b ob hc e⟩) (fun b xs e=>e) (fun b ob u e=>e) (fun b ps e=>⟨#[],by rw [e];simp⟩) (fun m hm=>?_) (fun b u e=>?_) I.bare
  · obtain ⟨f0,f1,f2,f3,f4,f5⟩:=hch b hb
    exact ⟨f3,f1,f4,f5⟩
  · obtain ⟨ob,es,ep,ho,r⟩:=hm
    exact ⟨ob,es,ep,k _ ob (fun z=>(hch _ z).2.1 rfl) ho,r⟩
  · refine (I.hok b u e).stay (fun c v hc q=>k c v ?_ q) (fun c q=>q) (fun c xs q=>q) fun c ob u' q=>q
    rcases hc with rfl | hc
    · exact nc _ _ e
    · exact nc _ _ hc
end L2
namespace L2
open PySem PySem.Spec PySem.Calls PyProof.Rows
section
variable {X : Cx}
end
section
variable {X : Cx}
end
structure Src (prog : Program) (w : World) (A : Around) (j q : Addr) (its : Array Value) (It1 : Nat->Heap->Prop) (Sq1 : Heap->Prop) : Prop where
  item : ∀ (n : Nat) (v : Value) (S : Shared) (Q : Value->Shared->Prop) (E : Value->Shared->Prop),It1 n S.heap->Sq1 S.heap->its[n]? = some v->(∀ h1,It1 (n + 1) h1->Heap.SameBut j S.heap h1->Q v { S with heap:=h1 })->wpAny (model prog w) A (Builtin.SmallTypes.nextOf (.ref j)) Q E S
  stop : ∀ (n : Nat) (S : Shared) (Q : Value->Shared->Prop) (E : Value->Shared->Prop),It1 n S.heap->Sq1 S.heap->its[n]? = none->(∀ h1 e,Heap.ExtBut j S.heap h1->(∃ o,h1.get? e = some o/\o.cls = .type "StopIteration")->E (.ref e) { S with heap:=h1 })->wpAny (model prog w) A (Builtin.SmallTypes.nextOf (.ref j)) Q E S
  mv : ∀ (n : Nat) (h h1 : Heap),It1 n h->(∀ o,h.get? j = some o->h1.get? j = some o)->It1 n h1
  sv : ∀ (h h1 : Heap),Sq1 h->(∀ o,h.get? q = some o->h1.get? q = some o)->Sq1 h1
  live : ∀ (n : Nat) (h : Heap),It1 n h->∃ o vs,h.get? j = some o/\o.data = .fields vs
theorem KL {prog : Program} {w : World} {A : Around} (hh : A.handled = none) (j q : Addr) (its : Array Value) : Src prog w A j q its (fun n h=>h.IsTupleIter j q n) (fun h=>h.IsTuple q its) :=
  ⟨fun n v S Q E a b c d=>yr a b c d,fun n S Q E a b c d=>B1 hh a b c d,fun n h h1 a k=>a.at k,fun h h1 a k=>let ⟨o,e,r⟩:=a;⟨o,k o e,r⟩,fun n h a=>let ⟨o,e,_,d⟩:=a;⟨o,_,e,d⟩⟩
theorem KD {prog : Program} {w : World} {A : Around} (hh : A.handled = none) (j q : Addr) (its : Array Value) : Src prog w A j q its (fun n h=>h.IsListIter j q n) (fun h=>h.IsList q its) :=
  ⟨fun n v S Q E a b c d=>wpAny_nextOf_list_item a b c d,fun n S Q E a b c d=>wpAny_nextOf_list_end hh a b c d,fun n h h1 a k=>a.at k,fun h h1 a k=>let ⟨o,e,r⟩:=a;⟨o,k o e,r⟩,fun n h a=>let ⟨o,e,_,d⟩:=a;⟨o,_,e,d⟩⟩
section
variable {prog : Program} {w : World} {A : Around} {E : Value->Shared->Prop} {S : Shared} {z u o i j p q : Addr} {m n : Nat} {xs ys : Array Value} {x y a b : Value} {Ii Ij : Nat->Heap->Prop} {Sp Sq : Heap->Prop}
theorem BP {Q : Value->Shared->Prop} (D : ZipApart z u o i j p q) (Gi : Src prog w A i p xs Ii Sp) (Gj : Src prog w A j q ys Ij Sq) (hz : IsZip S.heap z u o .none) (hu : IsPair S.heap u (.ref i) (.ref j)) (ho : IsPair S.heap o a b)
    (hi : Ii m S.heap) (hj : Ij n S.heap) (hp : Sp S.heap) (hq : Sq S.heap) (hx : xs[m]? = some x) (hy : ys[n]? = some y)
    (hQ : ∀ h1,IsZip h1 z u o (rawInt S.heap.objs.size)->IsPair h1 o x y->Ii (m + 1) h1->Ij (n + 1) h1->IsPair h1 S.heap.objs.size x y->(∀ c ob,c≠z->c≠o->c≠i->c≠j->S.heap.get? c = some ob->h1.get? c = some ob)->Q (.ref S.heap.objs.size) { S with heap:=h1 }) :
    wpAny (model prog w) A (Builtin.«zip.__next__» ⟨[.ref z],[]⟩) (fun fin s1=>∃ v,fin = .done (.ret v)/\Q v s1) E S:=by
  show wpAny _ _ (field (.ref z) 2 >>= _) _ _ S
  refine wpAny_bind (wpAny_field hz (x:=.bool false) rfl rfl ?_)
  show wpAny _ _ (field (.ref z) 3 >>= _) _ _ S
  refine wpAny_bind (wpAny_field hz (x:=.ref u) rfl rfl ?_)
  refine wpAny_bind (wpAny_seqItems hu rfl ?_)
  show wpAny _ _ (Builtin.SmallTypes.ownedTupleIsFree (.ref z) >>= _) _ _ S
  refine wpAny_bind ?_
  unfold Builtin.SmallTypes.ownedTupleIsFree
  refine wpAny_bind (wpAny_field hz (x:=.none) rfl rfl (wpAny_pure ?_))
  simp only [if_true]
  refine wpAny_bind (wpAny_rule (wpAny_bind (wpAny_field hz (x:=.ref o) rfl rfl ?_)))
  refine wpAny_bind (wpAny_setField_rec hz (by simp) fun k1 z1 b1=>?_)
  replace z1 : IsZip k1 z u o .ellipsis:=z1
  refine wpAny_bind ?_
  simp only [List.zipIdx_cons,List.forIn_cons,List.zipIdx_nil,List.forIn_nil]
  refine wpAny_bind (wpAny_bind (wpAny_onRaise ?_))
  show wpAny _ _ (Builtin.SmallTypes.nextOf (.ref i) >>= _) _ _ _
  refine wpAny_bind (Gi.item m x _ _ _ (Gi.mv _ _ _ hi fun ob e=>b1.extBut _ _ D.i1z e) (Gi.sv _ _ hp fun ob e=>b1.extBut _ _ D.l1z e) hx fun k2 i2 b2=>wpAny_pure ?_)
  have o2 : IsPair k2 o a b:=b2.extBut _ _ D.TOi1 (b1.extBut _ _ D.TOz ho)
  refine wpAny_bind (wpAny_seqItems o2 rfl ?_)
  refine wpAny_bind (wpAny_updateSeq_pair o2 fun k3 o3 b3=>?_)
  replace o3 : IsPair k3 o x b:=o3
  refine wpAny_bind (wpAny_letGo (wpAny_pure ?_))
  refine wpAny_bind (wpAny_bind (wpAny_onRaise ?_))
  show wpAny _ _ (Builtin.SmallTypes.nextOf (.ref j) >>= _) _ _ _
  refine wpAny_bind (Gj.item n y _ _ _ (Gj.mv _ _ _ hj fun ob e=>b3.extBut _ _ D.TOi2.symm (b2.extBut _ _ D.i12.symm (b1.extBut _ _ D.i2z e))) (Gj.sv _ _ hq fun ob e=>b3.extBut _ _ D.l2TO (b2.extBut _ _ D.l2i1 (b1.extBut _ _ D.l2z e))) hy fun k4 j4 b4=>wpAny_pure ?_)
  have o4 : IsPair k4 o x b:=b4.extBut _ _ D.TOi2 o3
  refine wpAny_bind (wpAny_seqItems o4 rfl ?_)
  refine wpAny_bind (wpAny_updateSeq_pair o4 fun k5 o5 b5=>?_)
  replace o5 : IsPair k5 o x y:=o5
  refine wpAny_bind (wpAny_letGo (wpAny_pure (wpAny_pure ?_)))
  refine wpAny_bind (wpAny_seqItems o5 rfl (wpAny_bind (wpAny_newTuple ?_)))
  have hsz : k5.objs.size = S.heap.objs.size:=by rw [b5.1,b4.1,b3.1,b2.1,b1.1]
  have z5 : IsZip k5 z u o .ellipsis:=b5.extBut _ _ D.TOz.symm (b4.extBut _ _ D.i2z.symm (b3.extBut _ _ D.TOz.symm (b2.extBut _ _ D.i1z.symm z1)))
  have all5 : ∀ c ob,c≠z->c≠o->c≠i->c≠j->S.heap.get? c = some ob->k5.get? c = some ob:=fun c ob c1 c2 c3 c4 e=>b5.extBut _ _ c2 (b4.extBut _ _ c4 (b3.extBut _ _ c2 (b2.extBut _ _ c3 (b1.extBut _ _ c1 e))))
  have i5 : Ii (m + 1) k5:=Gi.mv _ _ _ i2 fun ob e=>b5.extBut _ _ D.TOi1.symm (b4.extBut _ _ D.i12 (b3.extBut _ _ D.TOi1.symm e))
  have j5 : Ij (n + 1) k5:=Gj.mv _ _ _ j4 fun ob e=>b5.extBut _ _ D.TOi2.symm e
  have zlt : z < k5.objs.size:=Heap.lt_size z5
  show wpAny _ _ (Builtin.SmallTypes.ownedTupleHandOut (.ref z) (.ref k5.objs.size) >>= _) _ _ _
  refine wpAny_bind ?_
  unfold Builtin.SmallTypes.ownedTupleHandOut
  have z6 : IsZip (k5.push { cls:=.type "tuple",data:=.seq #[x,y] }) z u o .ellipsis:=Heap.get?_push_of_some _ z5
  refine wpAny_bind (wpAny_setField_rec z6 (by simp) fun k7 z7 b7=>?_)
  replace z7 : IsZip k7 z u o (rawInt k5.objs.size):=z7
  refine wpAny_setField_rec z7 (by simp) fun k8 z8 b8=>?_
  replace z8 : IsZip k8 z u o (rawInt k5.objs.size):=z8
  have up : ∀ c ob,c≠z->k5.get? c = some ob->k8.get? c = some ob:=fun c ob c1 e=>b8.extBut _ _ c1 (b7.extBut _ _ c1 (Heap.get?_push_of_some _ e))
  have t8 : IsPair k8 k5.objs.size x y:=b8.extBut _ _ (Nat.ne_of_gt zlt) (b7.extBut _ _ (Nat.ne_of_gt zlt) (Heap.get?_push_size _ rfl))
  rw [hsz] at z8 t8
  refine wpAny_pure ⟨_,rfl,?_⟩
  show Q (.ref k5.objs.size) _
  rw [hsz]
  exact hQ k8 z8 (up _ _ D.TOz o5) (Gi.mv _ _ _ i5 fun ob e=>up _ ob D.i1z e) (Gj.mv _ _ _ j5 fun ob e=>up _ ob D.i2z e) t8 fun c ob c1 c2 c3 c4 e=>up c ob c1 (all5 c ob c1 c2 c3 c4 e)
theorem Do {Q : Fin->Shared->Prop} (D : ZipApart z u o i j p q) (Gi : Src prog w A i p xs Ii Sp) (Gj : Src prog w A j q ys Ij Sq) (hz : IsZip S.heap z u o .none) (hu : IsPair S.heap u (.ref i) (.ref j)) (ho : IsPair S.heap o a b)
    (hi : Ii m S.heap) (hj : Ij n S.heap) (hp : Sp S.heap) (hq : Sq S.heap) (he : xs[m]? = none\/ys[n]? = none)
    (hE : ∀ h1 e,(∀ c ob,c≠z->c≠o->c≠i->c≠j->S.heap.get? c = some ob->h1.get? c = some ob)->(∃ ob,h1.get? e = some ob/\ob.cls = .type "StopIteration")->E (.ref e) { S with heap:=h1 }) :
    wpAny (model prog w) A (Builtin.«zip.__next__» ⟨[.ref z],[]⟩) Q E S:=by
  show wpAny _ _ (field (.ref z) 2 >>= _) _ _ S
  refine wpAny_bind (wpAny_field hz (x:=.bool false) rfl rfl ?_)
  show wpAny _ _ (field (.ref z) 3 >>= _) _ _ S
  refine wpAny_bind (wpAny_field hz (x:=.ref u) rfl rfl ?_)
  refine wpAny_bind (wpAny_seqItems hu rfl ?_)
  show wpAny _ _ (Builtin.SmallTypes.ownedTupleIsFree (.ref z) >>= _) _ _ S
  refine wpAny_bind ?_
  unfold Builtin.SmallTypes.ownedTupleIsFree
  refine wpAny_bind (wpAny_field hz (x:=.none) rfl rfl (wpAny_pure ?_))
  simp only [if_true]
  refine wpAny_bind (wpAny_rule (wpAny_bind (wpAny_field hz (x:=.ref o) rfl rfl ?_)))
  refine wpAny_bind (wpAny_setField_rec hz (by simp) fun k1 z1 b1=>?_)
  replace z1 : IsZip k1 z u o .ellipsis:=z1
  refine wpAny_bind ?_
  simp only [List.zipIdx_cons,List.forIn_cons,List.zipIdx_nil,List.forIn_nil]
  refine wpAny_bind (wpAny_bind (wpAny_onRaise ?_))
  show wpAny _ _ (Builtin.SmallTypes.nextOf (.ref i) >>= _) _ _ _
  have i1:=Gi.mv _ _ _ hi fun ob e=>b1.extBut _ _ D.i1z e
  have p1:=Gi.sv _ _ hp fun ob e=>b1.extBut _ _ D.l1z e
  cases hx : xs[m]? with
  | none =>
    refine wpAny_bind (Gi.stop m _ _ _ i1 p1 hx fun k2 e b2 x2=>?_)
    obtain ⟨oe,eoe,ece⟩:=x2
    have z2 : IsZip k2 z u o .ellipsis:=b2 _ _ D.i1z.symm z1
    have ez : e≠z:=fun w1=>by subst w1;rw [z2] at eoe;cases eoe;simp at ece
    exact wpAny_setField_rec z2 (by simp) fun k3 _ b3=>hE k3 e (fun c ob c1 _ c3 _ e1=>b3.extBut _ _ c1 (b2 _ _ c3 (b1.extBut _ _ c1 e1))) ⟨oe,b3.extBut _ _ ez eoe,ece⟩
  | some x =>
    have hy : ys[n]? = none:=he.resolve_left (by rw [hx];simp)
    refine wpAny_bind (Gi.item m x _ _ _ i1 p1 hx fun k2 i2 b2=>wpAny_pure ?_)
    have o2 : IsPair k2 o a b:=b2.extBut _ _ D.TOi1 (b1.extBut _ _ D.TOz ho)
    refine wpAny_bind (wpAny_seqItems o2 rfl ?_)
    refine wpAny_bind (wpAny_updateSeq_pair o2 fun k3 o3 b3=>?_)
    refine wpAny_bind (wpAny_letGo (wpAny_pure ?_))
    refine wpAny_bind (wpAny_bind (wpAny_onRaise ?_))
    show wpAny _ _ (Builtin.SmallTypes.nextOf (.ref j) >>= _) _ _ _
    refine wpAny_bind (Gj.stop n _ _ _ (Gj.mv _ _ _ hj fun ob e=>b3.extBut _ _ D.TOi2.symm (b2.extBut _ _ D.i12.symm (b1.extBut _ _ D.i2z e))) (Gj.sv _ _ hq fun ob e=>b3.extBut _ _ D.l2TO (b2.extBut _ _ D.l2i1 (b1.extBut _ _ D.l2z e))) hy fun k4 e b4 x4=>?_)
    obtain ⟨oe,eoe,ece⟩:=x4
    have z4 : IsZip k4 z u o .ellipsis:=b4 _ _ D.i2z.symm (b3.extBut _ _ D.TOz.symm (b2.extBut _ _ D.i1z.symm z1))
    have ez : e≠z:=fun w1=>by subst w1;rw [z4] at eoe;cases eoe;simp at ece
    exact wpAny_setField_rec z4 (by simp) fun k5 _ b5=>hE k5 e (fun c ob c1 c2 c3 c4 e1=>b5.extBut _ _ c1 (b4 _ _ c4 (b3.extBut _ _ c2 (b2.extBut _ _ c3 (b1.extBut _ _ c1 e1))))) ⟨oe,b5.extBut _ _ ez eoe,ece⟩
end
def Zp (Sa Sb : Hp->Addr->List V->Prop) (a b : Addr) : It :=
  ⟨fun i H=>∃ xs ys x y,Sa H a xs/\Sb H b ys/\xs[i]? = some x/\ys[i]? = some y,fun i H v H'=>∃ T x y,H T = none/\v = .ref T/\H' = upd H T (.tup [x,y])/\∀ xs ys,Sa H a xs->Sb H b ys->xs[i]? = some x/\ys[i]? = some y,
   fun i H=>∃ xs ys,Sa H a xs/\Sb H b ys/\min xs.length ys.length = i⟩
structure Kd (cls : String) (Sa : PySem.W.Frag->Hp->Addr->List V->Prop) (Iti : Heap->Addr->Addr->Nat->Prop) (Is : Heap->Addr->Array Value->Prop) : Prop where
  got : ∀ {X : Cx} {pins : List (Addr × Obj)} {σ : St} {H : Hp} {s : Shared} {a : Addr} {xs : List V},Inv X pins σ H s->Sa X.K H a xs->∃ its : List Value,ba xs its/\Is s.heap a its.toArray
  inj : ∀ {X : Cx} {pins : List (Addr × Obj)} {σ : St} {H : Hp} {s : Shared} {a : Addr} {xs ys : List V},Inv X pins σ H s->Sa X.K H a xs->Sa X.K H a ys->xs = ys
  src : ∀ (prog : Program) (w : World) (A : Around) (j q : Addr) (its : Array Value),A.handled = none->Src prog w A j q its (fun n h=>Iti h j q n) (fun h=>Is h q its)
  seq : ∀ {h : Heap} {a : Addr} {its : Array Value},Is h a its->∃ o n,h.get? a = some o/\o.data = .seq its n
  ne : ∀ {X : Cx} {pins : List (Addr × Obj)} {σ : St} {H : Hp} {s : Shared} {a b : Addr} {xs : List V},Inv X pins σ H s->Sa X.K H a xs->lR X pins H b->a≠b
  itr : ∀ {prog : Program} {w : World} {A : Around} {E : Value->Shared->Prop} {S : Shared} {a : Addr} {its : Array Value} {Q : Value->Shared->Prop},Is S.heap a its->Q (.ref S.heap.objs.size) { S with heap:=S.heap.push { cls:=.type cls,data:=.fields #[.ref a,.int 0 0] } }->wpAny (model prog w) A (pyIter (.ref a)) Q E S
  sv : ∀ {h h1 : Heap} {a : Addr} {its : Array Value},Is h a its->(∀ ob,h.get? a = some ob->h1.get? a = some ob)->Is h1 a its
  new : ∀ {h : Heap} {j q : Addr},h.get? j = some { cls:=.type cls,data:=.fields #[.ref q,.int 0 0] }->Iti h j q 0
theorem Jq {X : Cx} {pins : List (Addr × Obj)} {σ : St} {H : Hp} {s : Shared} {a b : Addr} {ob : Obj} (I : Inv X pins σ H s) (e : X.K.lookup a = some ob) (f : lR X pins H b) : a≠b:=fun z=>by
  subst z
  have hb:=I.ok.mod.kin a ob e
  rcases f.2.2.2.1 with h | h
  · exact I.ok.noex a ob hb h
  · exact absurd (Nat.lt_of_lt_of_le (Heap.lt_size hb) (Nat.le_trans I.ok.bsz h)) (Nat.lt_irrefl _)
theorem kdT : Kd "tuple_iterator" SqT (fun h j q n=>h.IsTupleIter j q n) (fun h q its=>h.IsTuple q its) where
  got:=fun I h=>let ⟨its,rv,p,_⟩:=I.tuple h;⟨its,rv,p⟩
  inj:=fun I h h'=>I.tuple_inj h h'
  src:=fun prog w A j q its hh=>KL hh j q its
  seq:=fun x=>let ⟨o,e,_,n,d⟩:=x;⟨o,n,e,d⟩
  ne:=fun I h f=>by
    rcases h with (h | ⟨ob,h⟩) | ⟨ob,its,n,hk,_⟩
    · exact aZ h f.1
    · exact aZ h f.1
    · exact Jq I hk f
  itr:=fun h hQ=>wpAny_pyIter_tuple h hQ
  sv:=fun x k=>let ⟨o,e,r⟩:=x;⟨o,k o e,r⟩
  new:=fun e=>⟨_,e,rfl,rfl⟩
theorem kdL : Kd "list_iterator" SqL (fun h j q n=>h.IsListIter j q n) (fun h q its=>h.IsList q its) where
  got:=fun I h=>let ⟨its,rv,p,_⟩:=I.list h;⟨its,rv,p.isList⟩
  inj:=fun I h h'=>I.list_inj h h'
  src:=fun prog w A j q its hh=>KD hh j q its
  seq:=fun x=>let ⟨o,e,_,n,d⟩:=x;⟨o,n,e,d⟩
  ne:=fun I h f=>by
    rcases h with (h | ⟨ob,h⟩) | ⟨ob,its,n,hk,_⟩
    · exact aZ h f.1
    · exact aZ h f.1
    · exact Jq I hk f
  itr:=fun h hQ=>wpAny_pyIter_list h hQ
  sv:=fun x k=>let ⟨o,e,r⟩:=x;⟨o,k o e,r⟩
  new:=fun e=>⟨_,e,rfl,rfl⟩
section
variable {c1 c2 : String} {Sa Sb : PySem.W.Frag->Hp->Addr->List V->Prop} {Ia Ib : Heap->Addr->Addr->Nat->Prop} {Isa Isb : Heap->Addr->Array Value->Prop}
theorem EY {P : Program} {w : World} {K : PySem.W.Frag} {elts : List Expr} {kk : Nat} {pp : Pos} (k1 : Kd c1 Sa Ia Isa) (k2 : Kd c2 Sb Ib Isb) (a b z u o i j : Addr) (huz : u≠z) (hoz : o≠z) (hiz : i≠z) (hjz : j≠z) (huo : u≠o) (hui : u≠i) (huj : u≠j) (hoi : o≠i) (hoj : o≠j) (hij : i≠j) :
    yx P w K (.Tuple elts kk pp) (Zp (Sa K) (Sb K) a b) [z,u,o,i,j] z (fun n h=>IsZip h z u o .none/\IsPair h u (.ref i) (.ref j)/\(∃ x y,IsPair h o x y)/\Ia h i a n/\Ib h j b n) where
  mem:=by simp
  obj:=fun n h st c hc=>by
    obtain ⟨h1,h2,⟨x,y,h3⟩,h4,h5⟩:=st
    obtain ⟨o4,v4,e4,d4⟩:=(k1.src default w callerA i a #[] rfl).live _ _ h4
    obtain ⟨o5,v5,e5,d5⟩:=(k2.src default w callerA j b #[] rfl).live _ _ h5
    rcases (by simpa using hc : c = z\/c = u\/c = o\/c = i\/c = j) with rfl | rfl | rfl | rfl | rfl
    · exact ⟨_,h1,fun v q=>by cases q⟩
    · exact ⟨_,h2,fun v q=>by cases q⟩
    · exact ⟨_,h3,fun v q=>by cases q⟩
    · exact ⟨_,e4,fun v q=>by rw [d4] at q;cases q⟩
    · exact ⟨_,e5,fun v q=>by rw [d5] at q;cases q⟩
  keep:=fun n h h' st k=>by
    obtain ⟨h1,h2,⟨x,y,h3⟩,h4,h5⟩:=st
    exact ⟨k z (by simp) _ h1,k u (by simp) _ h2,⟨x,y,k o (by simp) _ h3⟩,(k1.src default w callerA i a #[] rfl).mv _ _ _ h4 fun ob e=>k i (by simp) ob e,(k2.src default w callerA j b #[] rfl).mv _ _ _ h5 fun ob e=>k j (by simp) ob e⟩
  item:=by
    intro X hP hw hK hc n pins s σ H E I hf st hg
    subst hP hw hK
    obtain ⟨xs,ys,x,y,ha,hb,hx,hy⟩:=hg
    obtain ⟨its,rv,pa⟩:=k1.got I ha
    obtain ⟨jts,rw',pb⟩:=k2.got I hb
    obtain ⟨vx,hvx,rx⟩:=rv.get hx
    obtain ⟨vy,hvy,ry⟩:=rw'.get hy
    obtain ⟨h1,h2,⟨x0,y0,h3⟩,h4,h5⟩:=st
    have na:=fun c (hc : c∈[z,u,o,i,j])=>k1.ne I ha (hf c hc)
    have nb:=fun c (hc : c∈[z,u,o,i,j])=>k2.ne I hb (hf c hc)
    have D : ZipApart z u o i j a b:=⟨huz,hoz,hiz,hjz,huo,hui,huj,hoi,hoj,hij,na z (by simp),na o (by simp),na i (by simp),na j (by simp),nb z (by simp),nb o (by simp),nb i (by simp),nb j (by simp)⟩
    have hT : s.TypeIs (.ref z) "zip":=⟨_,h1,rfl⟩
    unfold pyNext
    refine wpAny_bind (wpAny_attempt (wpAny_callSpecial?_slot (name:=Str.ofString "__next__") hT F.slot_zip_next (wpAny_call_entry F.slot_zip_next hT F.entry_zip_next
      (BP D (k1.src X.prog X.w _ i a its.toArray (I.ok.hd hc)) (k2.src X.prog X.w _ j b jts.toArray (I.ok.hd hc)) h1 h2 h3 h4 h5 pa pb (x:=vx) (y:=vy) (by simpa using hvx) (by simpa using hvy) fun q1 a1 a2 a3 a4 a5 a6=>wpAny_pure ?_) (F.args_zip_next_1 _))))
    refine ⟨_,rfl,wpAny_letOwnedTupleGo_zip a1 fun q2 b1 sb=>?_⟩
    have lt : ∀ {c ob},s.heap.get? c = some ob->c < s.heap.objs.size:=fun e=>Heap.lt_size e
    have zl:=lt h1
    have kp : ∀ c ob,c ∉ [z,u,o,i,j]->s.heap.get? c = some ob->q2.get? c = some ob:=fun c ob hc' e=>(sb.2 c fun w1=>hc' (by simp [w1])).trans (a6 c ob (fun w1=>hc' (by simp [w1])) (fun w1=>hc' (by simp [w1])) (fun w1=>hc' (by simp [w1])) (fun w1=>hc' (by simp [w1])) e)
    have hT2 : q2.get? s.heap.objs.size = some { cls:=.type "tuple",data:=.seq #[vx,vy] }:=(sb.2 _ (Nat.ne_of_gt zl)).trans a5
    have J:=I.turnNew (h':=q2) (tk:=s.toks) (ch:=[z,u,o,i,j]) (T:=s.heap.objs.size) (o:=.tup [x,y]) hf kp (Nat.le_refl _) ⟨(show 2<=sizeLine by decide),[vx,vy],.cons rx (.cons ry .nil),⟨⟨_,hT2,rfl,_,rfl⟩,_,hT2,rfl⟩⟩
    refine ⟨.ref s.heap.objs.size,_,J,rfl,⟨_,x,y,I.hok.fresh (Nat.le_refl _),rfl,rfl,fun xs' ys' e1 e2=>⟨by rw [k1.inj I e1 ha];exact hx,by rw [k2.inj I e2 hb];exact hy⟩⟩,⟨b1,(sb.2 u huz).trans (a6 u _ huz huo hui huj h2),⟨vx,vy,(sb.2 o hoz).trans a2⟩,?_,?_⟩,fun c hc'=>?_⟩
    · exact (k1.src default X.w callerA i a #[] rfl).mv _ _ _ a3 fun ob e=>(sb.2 i hiz).trans e
    · exact (k2.src default X.w callerA j b #[] rfl).mv _ _ _ a4 fun ob e=>(sb.2 j hjz).trans e
    · have hlt : c < s.heap.objs.size:=by
        obtain ⟨o4,v4,e4,d4⟩:=(k1.src default X.w callerA i a #[] rfl).live _ _ h4
        obtain ⟨o5,v5,e5,d5⟩:=(k2.src default X.w callerA j b #[] rfl).live _ _ h5
        rcases (by simpa using hc' : c = z\/c = u\/c = o\/c = i\/c = j) with rfl | rfl | rfl | rfl | rfl
        · exact lt h1
        · exact lt h2
        · exact lt h3
        · exact lt e4
        · exact lt e5
      rw [ax (Nat.ne_of_lt hlt)]
      exact (hf c hc').1
  done:=by
    intro X hP hw hK hc n pins s σ H E I hf st hg
    subst hP hw hK
    obtain ⟨xs,ys,ha,hb,hm⟩:=hg
    obtain ⟨its,rv,pa⟩:=k1.got I ha
    obtain ⟨jts,rw',pb⟩:=k2.got I hb
    obtain ⟨h1,h2,⟨x0,y0,h3⟩,h4,h5⟩:=st
    have na:=fun c (hc : c∈[z,u,o,i,j])=>k1.ne I ha (hf c hc)
    have nb:=fun c (hc : c∈[z,u,o,i,j])=>k2.ne I hb (hf c hc)
    have D : ZipApart z u o i j a b:=⟨huz,hoz,hiz,hjz,huo,hui,huj,hoi,hoj,hij,na z (by simp),na o (by simp),na i (by simp),na j (by simp),nb z (by simp),nb o (by simp),nb i (by simp),nb j (by simp)⟩
    have hT : s.TypeIs (.ref z) "zip":=⟨_,h1,rfl⟩
    have l1:=rv.length
    have l2:=rw'.length
    unfold pyNext
    refine wpAny_bind (wpAny_attempt (wpAny_callSpecial?_slot (name:=Str.ofString "__next__") hT F.slot_zip_next (wpAny_call_entry F.slot_zip_next hT F.entry_zip_next
      (Do D (k1.src X.prog X.w _ i a its.toArray (I.ok.hd hc)) (k2.src X.prog X.w _ j b jts.toArray (I.ok.hd hc)) h1 h2 h3 h4 h5 pa pb ?_ fun q1 e ke xe=>?_) (F.args_zip_next_1 _))))
    · rcases Nat.le_total xs.length ys.length with h | h
      · exact .inl (Array.getElem?_eq_none (by simp;omega))
      · exact .inr (Array.getElem?_eq_none (by simp;omega))
    · obtain ⟨ob,eob,cob⟩:=xe
      refine wpAny_bind (wpAny_isInstance (T:="StopIteration") (b:=true) ⟨ob,eob,cob⟩ isSubtype_stop (wpAny_pure ⟨rfl,?_⟩))
      exact I.turnAll (h':=q1) (tk:=s.toks) (ch:=[z,u,o,i,j]) hf fun c ob' hc' e1=>ke c ob' (fun w1=>hc' (by simp [w1])) (fun w1=>hc' (by simp [w1])) (fun w1=>hc' (by simp [w1])) (fun w1=>hc' (by simp [w1])) e1
  self:=fun A n s Q E st h=>wpAny_pyIter_zip st.1 h
end
section
variable {c1 c2 : String} {Sa Sb : PySem.W.Frag->Hp->Addr->List V->Prop} {Ia Ib : Heap->Addr->Addr->Nat->Prop} {Isa Isb : Heap->Addr->Array Value->Prop}
abbrev zk1 (c1 : String) (h : Heap) (a : Addr) : Heap:=h.push { cls:=.type c1,data:=.fields #[.ref a,.int 0 0] }
abbrev zk2 (c1 c2 : String) (h : Heap) (a b : Addr) : Heap:=(zk1 c1 h a).push { cls:=.type c2,data:=.fields #[.ref b,.int 0 0] }
abbrev zk3 (c1 c2 : String) (h : Heap) (a b : Addr) : Heap:=(zk2 c1 c2 h a b).push { cls:=.type "tuple",data:=.seq #[.ref h.objs.size,.ref (zk1 c1 h a).objs.size] }
abbrev zk4 (c1 c2 : String) (h : Heap) (a b : Addr) : Heap:=(zk3 c1 c2 h a b).push { cls:=.type "tuple",data:=.seq #[.none,.none] }
abbrev zk5 (c1 c2 : String) (h : Heap) (a b : Addr) : Heap:=(zk4 c1 c2 h a b).push { cls:=.type "zip",data:=.fields #[.none,.bool false,.bool false,.ref (zk2 c1 c2 h a b).objs.size,.ref (zk3 c1 c2 h a b).objs.size] }
theorem CG (k1 : Kd c1 Sa Ia Isa) (k2 : Kd c2 Sb Ib Isb) (a b : Addr) (its jts : Array Value) :
    Meets (Builtin.«zip.__new__» ⟨[.type "zip",.ref a,.ref b],[]⟩) (fun _ R S=>Isa S.heap a its/\Isb S.heap b jts/\R (.ok (.ret (.ref (zk4 c1 c2 S.heap a b).objs.size))) { S with heap:=zk5 c1 c2 S.heap a b }) :=
  .of_wp fun prog w A R S h=>by
    obtain ⟨hp,g,d,tk,os⟩:=S
    obtain ⟨h1,h2,h⟩:=h
    have hsub:=sub_zip
    have g1 : Isa (Shared.heap ⟨hp,g,d,tk,os⟩) a its:=h1
    have g2 : Isb (Shared.heap ⟨zk1 c1 hp a,g,d,tk,os⟩) b jts:=k2.sv h2 fun ob e=>Heap.get?_push_of_some _ e
    wp_walk using k1.itr g1,k2.itr g2
    exact ⟨_,rfl,h⟩
theorem BO {prog : Program} {w : World} {A : Around} {E : Value->Shared->Prop} {S : Shared} {a b : Addr} {its jts : Array Value} {Q : Value->Shared->Prop} (k1 : Kd c1 Sa Ia Isa) (k2 : Kd c2 Sb Ib Isb) (h1 : Isa S.heap a its) (h2 : Isb S.heap b jts)
    (h : ∀ q,IsZip q (S.heap.objs.size + 4) (S.heap.objs.size + 2) (S.heap.objs.size + 3) .none->IsPair q (S.heap.objs.size + 2) (.ref S.heap.objs.size) (.ref (S.heap.objs.size + 1))->IsPair q (S.heap.objs.size + 3) .none .none ->
      Ia q S.heap.objs.size a 0->Ib q (S.heap.objs.size + 1) b 0->(∀ c ob,S.heap.get? c = some ob->q.get? c = some ob)->Q (.ref (S.heap.objs.size + 4)) { S with heap:=q }) : wpAny (model prog w) A (call (.type "zip") [.ref a,.ref b]) Q E S:=by
  refine callType_new F.called_zip (by decide) (F.typeCall_zip_2 _ _) (F.newCall_zip_2 _ _) (fun obj=>F.args_object_init_3 obj _ _) F.entry_zip_new (CG k1 k2 a b its jts) ⟨h1,h2,?_⟩
  have n1 : (zk1 c1 S.heap a).objs.size = S.heap.objs.size + 1:=Heap.size_push ..
  have n2 : (zk2 c1 c2 S.heap a b).objs.size = S.heap.objs.size + 2:=by rw [Heap.size_push,n1]
  have n3 : (zk3 c1 c2 S.heap a b).objs.size = S.heap.objs.size + 3:=by rw [Heap.size_push,n2]
  have n4 : (zk4 c1 c2 S.heap a b).objs.size = S.heap.objs.size + 4:=by rw [Heap.size_push,n3]
  have g5 : (zk5 c1 c2 S.heap a b).get? (zk4 c1 c2 S.heap a b).objs.size = some _:=Heap.get?_push_size _ rfl
  have g4 : (zk5 c1 c2 S.heap a b).get? (zk3 c1 c2 S.heap a b).objs.size = some _:=Heap.get?_push_of_some _ (Heap.get?_push_size _ rfl)
  have g3 : (zk5 c1 c2 S.heap a b).get? (zk2 c1 c2 S.heap a b).objs.size = some _:=Heap.get?_push_of_some _ (Heap.get?_push_of_some _ (Heap.get?_push_size _ rfl))
  have g2 : (zk5 c1 c2 S.heap a b).get? (zk1 c1 S.heap a).objs.size = some _:=Heap.get?_push_of_some _ (Heap.get?_push_of_some _ (Heap.get?_push_of_some _ (Heap.get?_push_size _ rfl)))
  have g1 : (zk5 c1 c2 S.heap a b).get? S.heap.objs.size = some _:=Heap.get?_push_of_some _ (Heap.get?_push_of_some _ (Heap.get?_push_of_some _ (Heap.get?_push_of_some _ (Heap.get?_push_size _ rfl))))
  show _/\_
  rw [n2,n3,n4] at g5
  rw [n1,n2] at g3
  rw [n3] at g4
  rw [n1] at g2
  rw [n4]
  exact ⟨⟨_,g5,rfl⟩,h _ g5 g3 g4 (k1.new g1) (k2.new g2) fun c ob e=>Heap.get?_push_of_some _ (Heap.get?_push_of_some _ (Heap.get?_push_of_some _ (Heap.get?_push_of_some _ (Heap.get?_push_of_some _ e))))⟩
variable {X : Cx}
end
theorem d7 {X : Cx} (K : PySem.W.Frag) (h : X.K = K) {ts : List Expr} {k n : Nat} {pos : Pos} {t : TGs} (hc : X.calm = true) (hts : PGs X ts t)
    (hn : (assignEach ts X.env).length = n:=by rfl) (hst : (assignEach ts X.env).findIdx? (·.1) = none:=by rfl) : PG X (.Tuple ts k pos) (IA K n t):=h ▸ IS hc hts hn hst
section
variable {K : PySem.W.Frag} {a b : Addr} {xs ys : List V} {g : TG} {tb : TS} {D : jJ} {σ : St} {H : Hp} {Sa Sb : Hp->Addr->List V->Prop} {acc : Addr} {tc : TT} {l : TL} {R : St->Hp->Prop} {J : It} {n : Nat}
end
section
variable {n : Nat} (hn : 0 < n)
include hn
end
section
variable {prog : Program} {w : World} {A : Around} {E : Value->Shared->Prop} {s : Shared}
end
section
variable {prog : Program} {w : World} {A : Around} {E : Value->Shared->Prop} {s : Shared}
end
section
variable {X : Cx}
end
section
variable {X : Cx}
end
structure Kk (c : Nat->Nat->Bool) : Prop where
  as : ∀ i j,c i j = true->c j i = false
  tr : ∀ i j k,c j i = false->c k j = false->c k i = false
section
variable {c : Nat->Nat->Bool} (L : Kk c)
def Dn (c : Nat->Nat->Bool) (p : Array Nat) (k : Nat) : Prop:=∀ i j,i<=j->j < k->c (p.getD i 0) (p.getD j 0) = false
include L
end
section
variable {c : Nat->Nat->Bool} (L : Kk c)
include L
end
def Kf : List Int->List Int->Bool
  | [],[]=>false
  | [],_ :: _=>true
  | _ :: _,[]=>false
  | x :: xs,y :: ys=>if x = y then Kf xs ys else decide (x < y)
end L2
namespace L2
open PySem PySem.Spec PyProof.Rows
inductive AV where
  | d (x : D)
  | r (v : V)
  | p (v : V) (P : Hp->Prop)
inductive OC where
  | own (xs : List AV)
  | frz (ds : List D)
  | dic (kvs : List (Str × AV))
abbrev Om:=Addr->Option OC
abbrev SA:=List (Option AV)
abbrev Fs:=Addr->Bool
def Om.put (ω : Om) (l : Addr) (c : OC) : Om:=fun b=>if b = l then some c else ω b
theorem Om.put_same {ω : Om} {l : Addr} {c : OC} : ω.put l c l = some c:=by unfold Om.put;rw [if_pos rfl]
theorem Om.put_ne {ω : Om} {l b : Addr} {c : OC} (h : b≠l) : ω.put l c b = ω b:=by unfold Om.put;rw [if_neg h]
theorem Om.put_put {ω : Om} {l : Addr} {c e : OC} : (ω.put l c).put l e = ω.put l e:=by funext b;unfold Om.put;split<;>rfl
theorem Om.put_comm {ω : Om} {l p : Addr} {c e : OC} (h : p≠l) : (ω.put l c).put p e = (ω.put p e).put l c:=by
  funext b;unfold Om.put;split<;>split<;>simp_all
def ow : Option OC->Bool
  | some (.own _)=>true
  | some (.dic _)=>true
  | _=>false
def Fs.add (F : Fs) (l : Addr) : Fs:=fun b=>decide (b = l) || F b
def cut (F : Fs) (H : Hp) (ω : Om) : Hp:=fun b=>if (ow (ω b) || F b) = true then none else H b
def RV (G : Hp) : AV->V->Prop
  | .d x,v=>Dat G x v
  | .r u,v=>v = u
  | .p u P,v=>v = u/\∀ G',c6 G G'->P G'
def RVs (G : Hp) : List AV->List V->Prop
  | [],vs=>vs = []
  | a :: as,vs=>∃ v r,vs = v :: r/\RV G a v/\RVs G as r
def RS (G : Hp) (ρ : SA) (σ : St) : Prop:=ρ.length = σ.length/\∀ (i : Nat) (a : AV),ρ[i]? = some (some a)->∃ v,σ[i]? = some (some v)/\RV G a v
def RKs (G : Hp) : List (Str × AV)->List (Key × V)->Prop
  | [],ks=>ks = []
  | p :: r,ks=>∃ v r',ks = ((Sum.inr p.1 : Key),v) :: r'/\RV G p.2 v/\RKs G r r'
structure Rep (F : Fs) (H : Hp) (ω : Om) : Prop where
  own : ∀ l xs,ω l = some (.own xs)->∃ vs,H l = some (.lst vs)/\RVs (cut F H ω) xs vs
  frz : ∀ l ds,ω l = some (.frz ds)->Dat (cut F H ω) (.lst ds) (.ref l)
  hid : ∀ b,F b = true->ω b = none/\∃ vs,H b = some (.lst vs)
  dic : ∀ l kvs,ω l = some (.dic kvs)->∃ ks,H l = some (.dK ks)/\RKs (cut F H ω) kvs ks
structure Fr (F : Fs) (H : Hp) (ω : Om) (H' : Hp) (ω' : Om) : Prop where
  st : ∀ b o,ow (ω b) = false->F b = false->H b = some o->H' b = some o/\ow (ω' b) = false
  hd : ∀ b,F b = true->H' b = H b
section
variable {F : Fs} {H H1 H2 H' : Hp} {ω ω1 ω2 ω' : Om} {G G' : Hp}
theorem Fr.refl : Fr F H ω H ω:=⟨fun _ _ h _ e=>⟨e,h⟩,fun _ _=>rfl⟩
theorem Fr.trans (a : Fr F H ω H1 ω1) (b : Fr F H1 ω1 H2 ω2) : Fr F H ω H2 ω2 :=
  ⟨fun c o h f e=>let ⟨x,y⟩:=a.st c o h f e;b.st c o y f x,fun c h=>(b.hd c h).trans (a.hd c h)⟩
theorem cO {b : Addr} {o : HO} : cut F H ω b = some o↔ow (ω b) = false/\F b = false/\H b = some o:=by
  unfold cut
  cases ow (ω b)<;>cases F b<;>simp
theorem Fr.same (a : Fr F H ω H' ω') : c6 (cut F H ω) (cut F H' ω'):=fun b o e=>by
  obtain ⟨h,f,e⟩:=cO.mp e
  obtain ⟨x,y⟩:=a.st b o h f e
  exact cO.mpr ⟨y,f,x⟩
theorem br : c6 (cut F H ω) H:=fun b o e=>(cO.mp e).2.2
theorem RV.same (e : c6 G G') : ∀ {a : AV} {v : V},RV G a v->RV G' a v
  | .d _,_,h=>Dat.same e h
  | .r _,_,h=>h
  | .p _ _,_,h=>⟨h.1,fun G2 s=>h.2 G2 (e.trans s)⟩
theorem RVs.same (e : c6 G G') : ∀ {as : List AV} {vs : List V},RVs G as vs->RVs G' as vs
  | [],_,h=>h
  | _ :: _,_,⟨v,r,h1,h2,h3⟩=>⟨v,r,h1,h2.same e,h3.same e⟩
theorem RKs.same (e : c6 G G') : ∀ {as : List (Str × AV)} {vs : List (Key × V)},RKs G as vs->RKs G' as vs
  | [],_,h=>h
  | _ :: _,_,⟨v,r,h1,h2,h3⟩=>⟨v,r,h1,h2.same e,h3.same e⟩
theorem RS.same (e : c6 G G') {ρ : SA} {σ : St} (h : RS G ρ σ) : RS G' ρ σ:=⟨h.1,fun i a q=>let ⟨v,x,y⟩:=h.2 i a q;⟨v,x,y.same e⟩⟩
theorem RVs.length : ∀ {as : List AV} {vs : List V},RVs G as vs->vs.length = as.length
  | [],_,h=>by cases h;rfl
  | _ :: _,_,⟨v,r,h1,_,h3⟩=>by subst h1;simp [h3.length]
theorem RVs.get : ∀ {as : List AV} {vs : List V} {i : Nat} {a : AV},RVs G as vs->as[i]? = some a->∃ v,vs[i]? = some v/\RV G a v
  | [],_,_,_,_,e=>by simp at e
  | _ :: _,_,0,_,⟨v,r,h1,h2,_⟩,e=>by subst h1;simp at e;subst e;exact ⟨v,rfl,h2⟩
  | _ :: _,_,i + 1,_,⟨v,r,h1,_,h3⟩,e=>by subst h1;simp at e;obtain ⟨v',e1,e2⟩:=h3.get e;exact ⟨v',by simpa using e1,e2⟩
theorem RVs.append : ∀ {as bs : List AV} {vs us : List V},RVs G as vs->RVs G bs us->RVs G (as ++ bs) (vs ++ us)
  | [],_,_,_,h,k=>by cases h;exact k
  | _ :: _,_,_,_,⟨v,r,h1,h2,h3⟩,k=>by subst h1;exact ⟨v,_,rfl,h2,h3.append k⟩
theorem RVs.one {a : AV} {v : V} (h : RV G a v) : RVs G [a] [v]:=⟨v,[],rfl,h,rfl⟩
theorem RVs.dats : ∀ {ds : List D} {vs : List V},RVs G (ds.map AV.d) vs↔aV G ds vs
  | [],_=>by simp [RVs,aV]
  | d :: ds,vs=>by
    simp only [List.map_cons,RVs,aV,RV]
    constructor
    · rintro ⟨v,r,h1,h2,h3⟩;exact ⟨v,r,h1,h2,RVs.dats.mp h3⟩
    · rintro ⟨v,r,h1,h2,h3⟩;exact ⟨v,r,h1,h2,RVs.dats.mpr h3⟩
theorem RVs.dropLast : ∀ {as : List AV} {vs : List V},RVs G as vs->RVs G as.dropLast vs.dropLast
  | [],_,h=>by cases h;exact rfl
  | [a],_,⟨v,r,h1,h2,h3⟩=>by cases h3;subst h1;exact rfl
  | a :: b :: as,_,⟨v,r,h1,h2,h3⟩=>by
    obtain ⟨u,r',rfl,k2,k3⟩:=id h3
    subst h1
    exact ⟨v,_,rfl,h2,h3.dropLast⟩
theorem Rep.free (R : Rep F H ω) {p : Addr} (h : H p = none) : ω p = none/\F p = false:=by
  constructor
  · cases e : ω p with
    | none=>rfl
    | some c=>cases c with
      | own xs=>obtain ⟨vs,q,_⟩:=R.own p xs e;rw [h] at q;cases q
      | frz ds =>
        have q:=R.frz p ds e
        simp only [Dat] at q
        obtain ⟨a,xs,e1,e2,_⟩:=q
        cases e1
        rw [br _ _ e2] at h;cases h
      | dic kvs=>obtain ⟨vs,q,_⟩:=R.dic p kvs e;rw [h] at q;cases q
  · cases e : F p with
    | false=>rfl
    | true=>obtain ⟨_,o,q⟩:=R.hid p e;rw [h] at q;cases q
theorem Rep.lay (R : Rep F H ω) {p : Addr} {o : HO} (h : H p = none) : Rep F (upd H p o) ω/\Fr F H ω (upd H p o) ω/\cut F (upd H p o) ω p = some o:=by
  have hs:=CC (o:=o) h
  have fr : Fr F H ω (upd H p o) ω:=⟨fun b u x f e=>⟨hs _ _ e,x⟩,fun b f=>by
    obtain ⟨_,u,q⟩:=R.hid b f
    rw [ax (aZ q h)]⟩
  obtain ⟨f1,f2⟩:=R.free h
  refine ⟨⟨fun l xs e=>?_,fun l ds e=>(R.frz l ds e).same fr.same,fun b f=>?_,fun l ks e=>(by obtain ⟨vs,e1,e2⟩:=R.dic l ks e;exact ⟨vs,hs _ _ e1,e2.same fr.same⟩)⟩,fr,cO.mpr ⟨by rw [f1];rfl,f2,bQ⟩⟩
  · obtain ⟨vs,e1,e2⟩:=R.own l xs e
    exact ⟨vs,hs _ _ e1,e2.same fr.same⟩
  · obtain ⟨x,u,q⟩:=R.hid b f
    exact ⟨x,u,hs _ _ q⟩
theorem Cu {l : Addr} {xs ys : List AV} {o : HO} (h : ω l = some (.own xs)) : cut F (upd H l o) (ω.put l (.own ys)) = cut F H ω:=by
  funext b
  unfold cut Om.put
  by_cases hb : b = l
  · subst hb;rw [if_pos rfl,h];simp [ow]
  · rw [if_neg hb,ax hb]
theorem Rep.write (R : Rep F H ω) {l : Addr} {xs ys : List AV} {vs : List V} (h : ω l = some (.own xs)) (hv : RVs (cut F H ω) ys vs) :
    Rep F (upd H l (.lst vs)) (ω.put l (.own ys))/\Fr F H ω (upd H l (.lst vs)) (ω.put l (.own ys)):=by
  have c:=Cu (F:=F) (H:=H) (ys:=ys) (o:=.lst vs) h
  refine ⟨⟨fun k zs e=>?_,fun k ds e=>?_,fun b f=>?_,fun k ks e=>(by
    have hk : k≠l:=fun z=>(by subst z;rw [Om.put_same] at e;cases e)
    rw [Om.put_ne hk] at e;rw [c,ax hk];exact R.dic k ks e)⟩,fun b o x f e=>?_,fun b f=>?_⟩
  · rw [c]
    by_cases hk : k = l
    · subst hk;rw [Om.put_same] at e;cases e;exact ⟨vs,bQ,hv⟩
    · rw [Om.put_ne hk] at e;rw [ax hk];exact R.own k zs e
  · rw [c]
    by_cases hk : k = l
    · subst hk;rw [Om.put_same] at e;cases e
    · rw [Om.put_ne hk] at e;exact R.frz k ds e
  · obtain ⟨x,o,q⟩:=R.hid b f
    have hb : b≠l:=fun z=>by subst z;rw [h] at x;cases x
    exact ⟨by rw [Om.put_ne hb];exact x,o,by rw [ax hb];exact q⟩
  · have hb : b≠l:=fun z=>by subst z;rw [h] at x;cases x
    rw [Om.put_ne hb,ax hb];exact ⟨e,x⟩
  · obtain ⟨x,o,q⟩:=R.hid b f
    have hb : b≠l:=fun z=>by subst z;rw [h] at x;cases x
    exact ax hb
theorem Rep.mk' (R : Rep F H ω) {l : Addr} {xs : List AV} {vs : List V} (h : H l = none) (hv : RVs (cut F H ω) xs vs) :
    Rep F (upd H l (.lst vs)) (ω.put l (.own xs))/\Fr F H ω (upd H l (.lst vs)) (ω.put l (.own xs)):=by
  obtain ⟨f1,f2⟩:=R.free h
  have c : cut F (upd H l (.lst vs)) (ω.put l (.own xs)) = cut F H ω:=by
    funext b
    unfold cut Om.put
    by_cases hb : b = l
    · subst hb;rw [if_pos rfl,f1,f2,h];simp [ow]
    · rw [if_neg hb,ax hb]
  refine ⟨⟨fun k zs e=>?_,fun k ds e=>?_,fun b f=>?_,fun k ks e=>(by
    have hk : k≠l:=fun z=>(by subst z;rw [Om.put_same] at e;cases e)
    rw [Om.put_ne hk] at e;rw [c,ax hk];exact R.dic k ks e)⟩,fun b o x f e=>?_,fun b f=>?_⟩
  · rw [c]
    by_cases hk : k = l
    · subst hk;rw [Om.put_same] at e;cases e;exact ⟨vs,bQ,hv⟩
    · rw [Om.put_ne hk] at e;rw [ax hk];exact R.own k zs e
  · rw [c]
    by_cases hk : k = l
    · subst hk;rw [Om.put_same] at e;cases e
    · rw [Om.put_ne hk] at e;exact R.frz k ds e
  · obtain ⟨x,o,q⟩:=R.hid b f
    have hb : b≠l:=aZ q h
    exact ⟨by rw [Om.put_ne hb];exact x,o,by rw [ax hb];exact q⟩
  · have hb : b≠l:=aZ e h
    rw [Om.put_ne hb,ax hb];exact ⟨e,x⟩
  · obtain ⟨x,o,q⟩:=R.hid b f
    exact ax (aZ q h)
theorem Rep.freeze (R : Rep F H ω) {l : Addr} {ds : List D} (h : ω l = some (.own (ds.map AV.d))) :
    Rep F H (ω.put l (.frz ds))/\Fr F H ω H (ω.put l (.frz ds))/\Dat (cut F H (ω.put l (.frz ds))) (.lst ds) (.ref l):=by
  have fr : Fr F H ω H (ω.put l (.frz ds)):=⟨fun b o x f e=>⟨e,by
    by_cases hb : b = l
    · subst hb;rw [h] at x;cases x
    · rw [Om.put_ne hb];exact x⟩,fun _ _=>rfl⟩
  obtain ⟨vs,e1,e2⟩:=R.own l _ h
  have hF : F l = false:=by
    cases e : F l with
    | false=>rfl
    | true=>have:=(R.hid l e).1;rw [h] at this;cases this
  have dl : Dat (cut F H (ω.put l (.frz ds))) (.lst ds) (.ref l):=by
    simp only [Dat]
    exact ⟨l,vs,rfl,cO.mpr ⟨by rw [Om.put_same];rfl,hF,e1⟩,(RVs.dats.mp e2).same fr.same⟩
  refine ⟨⟨fun k zs e=>?_,fun k es e=>?_,fun b f=>?_,fun k ks e=>(by
    have hk : k≠l:=fun z=>(by subst z;rw [Om.put_same] at e;cases e)
    rw [Om.put_ne hk] at e;obtain ⟨us,q1,q2⟩:=R.dic k ks e;exact ⟨us,q1,q2.same fr.same⟩)⟩,fr,dl⟩
  · by_cases hk : k = l
    · subst hk;rw [Om.put_same] at e;cases e
    · rw [Om.put_ne hk] at e
      obtain ⟨us,q1,q2⟩:=R.own k zs e
      exact ⟨us,q1,q2.same fr.same⟩
  · by_cases hk : k = l
    · subst hk;rw [Om.put_same] at e;cases e;exact dl
    · rw [Om.put_ne hk] at e;exact (R.frz k es e).same fr.same
  · obtain ⟨x,o,q⟩:=R.hid b f
    have hb : b≠l:=fun z=>by subst z;rw [h] at x;cases x
    exact ⟨by rw [Om.put_ne hb];exact x,o,q⟩
theorem Rep.hide (R : Rep F H ω) {l : Addr} {vs : List V} (h : H l = none) : Rep (F.add l) (upd H l (.lst vs)) ω/\cut (F.add l) (upd H l (.lst vs)) ω = cut F H ω:=by
  obtain ⟨f1,f2⟩:=R.free h
  have c : cut (F.add l) (upd H l (.lst vs)) ω = cut F H ω:=by
    funext b
    unfold cut Fs.add
    by_cases hb : b = l
    · subst hb;simp [h]
    · rw [ax hb];simp [hb]
  refine ⟨⟨fun k zs e=>?_,fun k ds e=>?_,fun b f=>?_,fun k ks e=>(by rw [c];obtain ⟨us,q1,q2⟩:=R.dic k ks e;exact ⟨us,by rw [ax (aZ q1 h)];exact q1,q2⟩)⟩,c⟩
  · rw [c]
    obtain ⟨us,q1,q2⟩:=R.own k zs e
    exact ⟨us,by rw [ax (aZ q1 h)];exact q1,q2⟩
  · rw [c];exact R.frz k ds e
  · by_cases hb : b = l
    · subst hb;exact ⟨f1,_,bQ⟩
    · have f' : F b = true:=by simpa [Fs.add,hb] using f
      obtain ⟨x,o,q⟩:=R.hid b f'
      exact ⟨x,o,by rw [ax hb];exact q⟩
theorem Rep.hwrite (R : Rep F H ω) {l : Addr} {vs : List V} (h : F l = true) : Rep F (upd H l (.lst vs)) ω/\cut F (upd H l (.lst vs)) ω = cut F H ω:=by
  have c : cut F (upd H l (.lst vs)) ω = cut F H ω:=by
    funext b
    unfold cut
    by_cases hb : b = l
    · subst hb;simp [h]
    · rw [ax hb]
  refine ⟨⟨fun k zs e=>?_,fun k ds e=>?_,fun b f=>?_,fun k ks e=>(by
    have hk : k≠l:=fun z=>(by subst z;rw [(R.hid _ h).1] at e;cases e)
    rw [c,ax hk];exact R.dic k ks e)⟩,c⟩
  · rw [c]
    obtain ⟨us,q1,q2⟩:=R.own k zs e
    have hk : k≠l:=fun z=>by subst z;rw [(R.hid _ h).1] at e;cases e
    exact ⟨us,by rw [ax hk];exact q1,q2⟩
  · rw [c];exact R.frz k ds e
  · by_cases hb : b = l
    · subst hb;exact ⟨(R.hid _ h).1,_,bQ⟩
    · obtain ⟨x,o,q⟩:=R.hid b f
      exact ⟨x,o,by rw [ax hb];exact q⟩
theorem Rep.unhide {l : Addr} {vs : List V} (R : Rep (F.add l) H ω) (hF : F l = false) (h : H l = some (.lst vs)) :
    Rep F H ω/\c6 (cut (F.add l) H ω) (cut F H ω)/\cut F H ω l = some (.lst vs):=by
  have hl : ω l = none:=(R.hid l (by simp [Fs.add])).1
  have sm : c6 (cut (F.add l) H ω) (cut F H ω):=fun b o e=>by
    obtain ⟨x,f,e⟩:=cO.mp e
    refine cO.mpr ⟨x,?_,e⟩
    unfold Fs.add at f
    cases q : F b with
    | false=>rfl
    | true=>rw [q] at f;simp at f
  refine ⟨⟨fun k zs e=>?_,fun k ds e=>(R.frz k ds e).same sm,fun b f=>R.hid b (by simp [Fs.add,f]),fun k ks e=>(by obtain ⟨us,q1,q2⟩:=R.dic k ks e;exact ⟨us,q1,q2.same sm⟩)⟩,sm,cO.mpr ⟨by rw [hl];rfl,hF,h⟩⟩
  obtain ⟨us,q1,q2⟩:=R.own k zs e
  exact ⟨us,q1,q2.same sm⟩
end
def LP {α β : Type} (R : Hp->α->β->Prop) (F : Fs) (H : Hp) (ω : Om) (Q' : α->Om->Prop) (Q : β->Hp->Prop) : Prop :=
  ∀ a ω' v H',Rep F H' ω'->Fr F H ω H' ω'->R (cut F H' ω') a v->Q' a ω'->Q v H'
theorem LP.fr {α β : Type} {R : Hp->α->β->Prop} {F : Fs} {H H1 : Hp} {ω ω1 : Om} {Q' : α->Om->Prop} {Q : β->Hp->Prop} (k : LP R F H ω Q' Q) (f : Fr F H ω H1 ω1) : LP R F H1 ω1 Q' Q :=
  fun a ω' v H' rp fr rv q=>k a ω' v H' rp (f.trans fr) rv q
structure Ref {α β : Type} (R : Hp->α->β->Prop) (t : St->Hp->(β->Hp->Prop)->Prop) (t' : SA->Om->(α->Om->Prop)->Prop) : Prop where
  run : ∀ (F : Fs) (H : Hp) (ω : Om) (σ : St) (ρ : SA) (Q : β->Hp->Prop) (Q' : α->Om->Prop),Rep F H ω->RS (cut F H ω) ρ σ->t' ρ ω Q'->LP R F H ω Q' Q->t σ H Q
theorem Ref.go {α β : Type} {R : Hp->α->β->Prop} {t : St->Hp->(β->Hp->Prop)->Prop} {t' : SA->Om->(α->Om->Prop)->Prop} (h : Ref R t t') {F : Fs} {H : Hp} {ω : Om} {σ : St} {ρ : SA} {Q : β->Hp->Prop} {Q' : α->Om->Prop}
    (rp : Rep F H ω) (rs : RS (cut F H ω) ρ σ) (w : t' ρ ω Q') (k : ∀ a ω1 v H1,Rep F H1 ω1->Fr F H ω H1 ω1->RS (cut F H1 ω1) ρ σ->R (cut F H1 ω1) a v->Q' a ω1->Q v H1) : t σ H Q :=
  h.run F H ω σ ρ Q Q' rp rs w fun a ω1 v H1 rp1 fr1 rv q=>k a ω1 v H1 rp1 fr1 (rs.same fr1.same) rv q
abbrev AE:=SA->Om->(AV->Om->Prop)->Prop
abbrev AT:=SA->Om->(Bool->Om->Prop)->Prop
abbrev AA:=SA->Om->(List AV->Om->Prop)->Prop
def REq {α : Type} (_ : Hp) (a b : α) : Prop:=a = b
abbrev bB (t : TE) (t' : AE) : Prop:=Ref RV t t'
abbrev i4 (t : TT) (t' : AT) : Prop:=Ref REq t t'
abbrev lO (t : TA) (t' : AA) : Prop:=Ref RVs t t'
structure bK where
  nx : SA->Om->Prop
  rt : AV->Om->Prop
  bk : SA->Om->Prop:=fun _ _=>False
  ct : SA->Om->Prop:=fun _ _=>False
abbrev AS:=bK->SA->Om->Prop
structure LE (F : Fs) (H : Hp) (ω : Om) (D' : bK) (D : jJ) : Prop where
  nx : LP RS F H ω D'.nx D.nx
  rt : LP RV F H ω D'.rt D.rt
  bk : LP RS F H ω D'.bk D.bk
  ct : LP RS F H ω D'.ct D.ct
theorem LE.fr {F : Fs} {H H1 : Hp} {ω ω1 : Om} {D' : bK} {D : jJ} (k : LE F H ω D' D) (f : Fr F H ω H1 ω1) : LE F H1 ω1 D' D:=⟨k.nx.fr f,k.rt.fr f,k.bk.fr f,k.ct.fr f⟩
structure fI (t : TS) (t' : AS) : Prop where
  run : ∀ (F : Fs) (H : Hp) (ω : Om) (σ : St) (ρ : SA) (D : jJ) (D' : bK),Rep F H ω->RS (cut F H ω) ρ σ->t' D' ρ ω->LE F H ω D' D->t D σ H
abbrev AG:=AV->SA->Om->(SA->Om->Prop)->Prop
abbrev AGs:=List AV->SA->Om->(SA->Om->Prop)->Prop
structure vX (g : TG) (g' : AG) : Prop where
  run : ∀ (F : Fs) (H : Hp) (ω : Om) (σ : St) (ρ : SA) (v : V) (a : AV) (Q : St->Hp->Prop) (Q' : SA->Om->Prop),Rep F H ω->RS (cut F H ω) ρ σ->RV (cut F H ω) a v->g' a ρ ω Q'->LP RS F H ω Q' Q->g v σ H Q
structure A9 (g : TGs) (g' : AGs) : Prop where
  run : ∀ (F : Fs) (H : Hp) (ω : Om) (σ : St) (ρ : SA) (v : List V) (a : List AV) (Q : St->Hp->Prop) (Q' : SA->Om->Prop),Rep F H ω->RS (cut F H ω) ρ σ->RVs (cut F H ω) a v->g' a ρ ω Q'->LP RS F H ω Q' Q->g v σ H Q
abbrev ASp:=List AV->Om->(AV->Om->Prop)->Prop
def aN (sp : ASp) : Sp:=fun vs H Q _=>∃ (F : Fs) (xs : List AV) (ω : Om) (Q' : AV->Om->Prop),Rep F H ω/\RVs (cut F H ω) xs vs/\sp xs ω Q'/\LP RV F H ω Q' Q
def Ew : AS:=fun D ρ ω=>D.nx ρ ω
def Cn (t u : AS) : AS:=fun D ρ ω=>t { D with nx:=u D } ρ ω
def Hq : AS:=fun D ρ ω=>D.ct ρ ω
def ue (te : AE) : AS:=fun D ρ ω=>te ρ ω fun _ ω1=>D.nx ρ ω1
def Gp (te : AE) : AS:=fun D ρ ω=>te ρ ω D.rt
def EM (c : AT) (t u : AS) : AS:=fun D ρ ω=>c ρ ω fun b ω1=>if b = true then t D ρ ω1 else u D ρ ω1
def Im : AS:=fun _ _ _=>False
def Ir (te : AE) (g : AG) : AS:=fun D ρ ω=>te ρ ω fun x ω1=>g x ρ ω1 D.nx
def HM (c : AT) (tb : AS) : AS:=fun D ρ ω=>∃ W : Nat->SA->Om->Prop,(∃ m,W m ρ ω)/\∀ m ρ ω,W m ρ ω ->
  c ρ ω fun b ω1=>if b = true then ∃ N : SA->Om->Prop,(∀ ρ' ω',N ρ' ω'->∃ m',m' < m/\W m' ρ' ω')/\tb { D with nx:=N,ct:=N,bk:=D.nx } ρ ω1 else D.nx ρ ω1
def eK (i : Nat) : AG:=fun v ρ ω Q=>Q (ρ.set i (some v)) ω
def Ah : AGs:=fun vs ρ ω Q=>vs = []/\Q ρ ω
def pr (t : AG) (u : AGs) : AGs:=fun vs ρ ω Q=>∃ v r,vs = v :: r/\t v ρ ω fun ρ' ω'=>u r ρ' ω' Q
section
variable {t u : TS} {t' u' : AS} {te : TE} {te' : AE} {tc : TT} {tc' : AT} {g : TG} {g' : AG} {gs : TGs} {gs' : AGs}
theorem RS.set {G : Hp} {ρ : SA} {σ : St} {i : Nat} {a : AV} {v : V} (h : RS G ρ σ) (r : RV G a v) : RS G (ρ.set i (some a)) (σ.set i (some v)):=by
  refine ⟨by simp [h.1],fun j b e=>?_⟩
  by_cases hj : j = i
  · subst hj
    rw [List.getElem?_set] at e
    rw [List.getElem?_set]
    simp only [if_true] at e ⊢
    split at e
    · rename_i hl
      cases e
      rw [if_pos (h.1 ▸ hl)]
      exact ⟨v,rfl,r⟩
    · cases e
  · rw [List.getElem?_set_ne (Ne.symm hj)] at e
    rw [List.getElem?_set_ne (Ne.symm hj)]
    exact h.2 j b e
theorem bf : fI Hf Ew:=⟨fun F H ω σ ρ D D' rp rs h k=>k.nx ρ ω σ H rp .refl rs h⟩
theorem au (h1 : fI t t') (h2 : fI u u') : fI (Id t u) (Cn t' u'):=⟨fun F H ω σ ρ D D' rp rs h k =>
  h1.run F H ω σ ρ _ _ rp rs h ⟨fun ρ1 ω1 σ1 H1 rp1 fr1 rs1 q=>h2.run F H1 ω1 σ1 ρ1 D D' rp1 rs1 q (k.fr fr1),k.rt,k.bk,k.ct⟩⟩
theorem Ig : fI Hb Hq:=⟨fun F H ω σ ρ D D' rp rs h k=>k.ct ρ ω σ H rp .refl rs h⟩
theorem cX (h : bB te te') : fI (G4 te) (ue te'):=⟨fun F H ω σ ρ D D' rp rs w k=>h.go rp rs w fun a ω1 v H1 rp1 fr1 rs1 rv q=>k.nx ρ ω1 σ H1 rp1 fr1 rs1 q⟩
theorem aT (h : bB te te') : fI (JG te) (Gp te'):=⟨fun F H ω σ ρ D D' rp rs w k=>h.run F H ω σ ρ _ _ rp rs w k.rt⟩
theorem cQ (hc : i4 tc tc') (h1 : fI t t') (h2 : fI u u') : fI (IP tc t u) (EM tc' t' u'):=⟨fun F H ω σ ρ D D' rp rs w k =>
  hc.go rp rs w fun a ω1 v H1 rp1 fr1 rs1 rv q=>by
    cases (show a = v from rv)
    cases a with
    | true=>rw [if_pos rfl] at q ⊢;exact h1.run F H1 ω1 σ ρ D D' rp1 rs1 q (k.fr fr1)
    | false=>rw [if_neg Bool.false_ne_true] at q ⊢;exact h2.run F H1 ω1 σ ρ D D' rp1 rs1 q (k.fr fr1)⟩
theorem Bk : fI t Im:=⟨fun F H ω σ ρ D D' rp rs w k=>w.elim⟩
theorem aO (h : bB te te') (hg : vX g g') : fI (B9 te g) (Ir te' g'):=⟨fun F H ω σ ρ D D' rp rs w k=>h.go rp rs w fun a ω1 v H1 rp1 fr1 rs1 rv q =>
  hg.run F H1 ω1 σ ρ v a _ _ rp1 rs1 rv q (k.nx.fr fr1)⟩
theorem ao {i : Nat} : vX (uy i) (eK i):=⟨fun F H ω σ ρ v a Q Q' rp rs rv w k=>k _ ω _ H rp .refl (rs.set rv) w⟩
theorem jH : A9 Ju Ah:=⟨fun F H ω σ ρ vs as Q Q' rp rs rv w k=>by
  obtain ⟨rfl,w⟩:=w
  exact ⟨rv,k ρ ω σ H rp .refl rs w⟩⟩
theorem bG (h1 : vX g g') (h2 : A9 gs gs') : A9 (GK g gs) (pr g' gs'):=⟨fun F H ω σ ρ vs as Q Q' rp rs rv w k=>by
  obtain ⟨a,r,rfl,w⟩:=w
  obtain ⟨v,us,rfl,rv1,rv2⟩:=rv
  exact ⟨v,us,rfl,h1.run F H ω σ ρ v a _ _ rp rs rv1 w fun ρ1 ω1 σ1 H1 rp1 fr1 rs1 q=>h2.run F H1 ω1 σ1 ρ1 us r Q Q' rp1 rs1 (rv2.same fr1.same) q (k.fr fr1)⟩⟩
theorem qF (hc : i4 tc tc') (hb : fI t t') : fI (CK tc t) (HM tc' t'):=⟨fun F H ω σ ρ D D' rp rs w k=>by
  obtain ⟨W,⟨m0,w0⟩,turn⟩:=w
  refine ⟨fun m σ1 H1=>∃ ρ1 ω1,Rep F H1 ω1/\RS (cut F H1 ω1) ρ1 σ1/\Fr F H ω H1 ω1/\W m ρ1 ω1,⟨m0,ρ,ω,rp,rs,.refl,w0⟩,?_⟩
  rintro m σ1 H1 ⟨ρ1,ω1,rp1,rs1,fr1,w1⟩
  refine hc.go rp1 rs1 (turn m ρ1 ω1 w1) fun a ω2 v H2 rp2 fr2 rs2 rv q=>?_
  cases (show a = v from rv)
  have k2:=k.fr (fr1.trans fr2)
  cases a with
  | true =>
    rw [if_pos rfl] at q ⊢
    obtain ⟨N,hN,q⟩:=q
    refine ⟨fun σ' H'=>∃ ρ' ω',Rep F H' ω'/\RS (cut F H' ω') ρ' σ'/\Fr F H ω H' ω'/\N ρ' ω',?_,hb.run F H2 ω2 σ1 ρ1 _ _ rp2 rs2 q ⟨?_,k2.rt,k2.nx,?_⟩⟩
    · rintro σ' H' ⟨ρ',ω',e1,e2,e3,e4⟩
      obtain ⟨m',hm,z⟩:=hN _ _ e4
      exact ⟨m',hm,ρ',ω',e1,e2,e3,z⟩
    · exact fun ρ' ω' σ' H' e1 e2 e3 e4=>⟨ρ',ω',e1,e3,(fr1.trans fr2).trans e2,e4⟩
    · exact fun ρ' ω' σ' H' e1 e2 e3 e4=>⟨ρ',ω',e1,e3,(fr1.trans fr2).trans e2,e4⟩
  | false =>
    rw [if_neg Bool.false_ne_true] at q ⊢
    exact k2.nx ρ1 ω2 σ1 H2 rp2 .refl rs2 q⟩
end
def wK (G : Hp) (as : List AV) (J : It) : Prop:=∀ (F : Fs) (H : Hp) (ω : Om),Rep F H ω->c6 G (cut F H ω)->J.stop as.length H /\
  ∀ (i : Nat) (a : AV),as[i]? = some a->J.go i H/\∀ x H',J.yld i H x H'->Rep F H' ω/\Fr F H ω H' ω/\RV (cut F H' ω) a x
abbrev AI:=SA->Om->(List AV->Om->Prop)->Prop
abbrev wR (t : TI) (t' : AI) : Prop:=Ref wK t t'
def gD (g : AG) (tb : AS) (D : bK) : List AV->SA->Om->Prop
  | [],ρ,ω=>D.nx ρ ω
  | a :: as,ρ,ω=>g a ρ ω fun ρ1 ω1=>tb { nx:=gD g tb D as,ct:=gD g tb D as,bk:=D.nx,rt:=D.rt } ρ1 ω1
def JF (wi : AI) (g : AG) (tb : AS) : AS:=fun D ρ ω=>wi ρ ω fun as ω1=>gD g tb D as ρ ω1
theorem lK {α : Type} {as : List α} {i : Nat} (h : i < as.length) : ∃ a,as[i]? = some a/\as.drop i = a :: as.drop (i + 1) :=
  ⟨as[i],List.getElem?_eq_getElem h,List.drop_eq_getElem_cons h⟩
theorem j8 {wi : TI} {wi' : AI} {g : TG} {g' : AG} {t : TS} {t' : AS} (hi : wR wi wi') (hg : vX g g') (hb : fI t t') : fI (H9 wi g t) (JF wi' g' t'):=⟨fun F H ω σ ρ D D' rp rs w k=>by
  rw [Gh]
  refine hi.go rp rs w fun as ω1 J H1 rp1 fr1 rs1 it q=>?_
  refine ⟨fun i m σ2 H2=>m + i = as.length/\∃ ρ2 ω2,Rep F H2 ω2/\RS (cut F H2 ω2) ρ2 σ2/\Fr F H1 ω1 H2 ω2/\gD g' t' D' (as.drop i) ρ2 ω2,⟨as.length,rfl,ρ,ω1,rp1,rs1,.refl,q⟩,?_⟩
  rintro i m σ2 H2 ⟨hm,ρ2,ω2,rp2,rs2,fr2,q2⟩
  obtain ⟨stop,go⟩:=it F H2 ω2 rp2 fr2.same
  by_cases hl : i < as.length
  · obtain ⟨a,ha,hd⟩:=lK hl
    rw [hd] at q2
    obtain ⟨g1,y1⟩:=go i a ha
    refine .inr ⟨g1,fun σ' H'=>m - 1 + (i + 1) = as.length/\∃ ρ' ω',Rep F H' ω'/\RS (cut F H' ω') ρ' σ'/\Fr F H1 ω1 H' ω'/\gD g' t' D' (as.drop (i + 1)) ρ' ω',fun σ' H' z=>⟨m - 1,by omega,z⟩,fun x H' hy=>?_⟩
    obtain ⟨rp3,fr3,rv3⟩:=y1 x H' hy
    have fr13:=(fr2.trans fr3)
    refine hg.run F H' ω2 σ2 ρ2 x a _ _ rp3 (rs2.same fr3.same) rv3 q2 fun ρ4 ω4 σ4 H4 rp4 fr4 rs4 q4=>?_
    have k4:=k.fr ((fr1.trans fr13).trans fr4)
    refine hb.run F H4 ω4 σ4 ρ4 _ _ rp4 rs4 q4 ⟨?_,k4.rt,k4.nx,?_⟩
    · exact fun ρ' ω' σ' H'' e1 e2 e3 e4=>⟨by omega,ρ',ω',e1,e3,(fr13.trans fr4).trans e2,e4⟩
    · exact fun ρ' ω' σ' H'' e1 e2 e3 e4=>⟨by omega,ρ',ω',e1,e3,(fr13.trans fr4).trans e2,e4⟩
  · have hi : i = as.length:=by omega
    subst hi
    rw [List.drop_length] at q2
    exact .inl ⟨stop,k.nx ρ2 ω2 σ2 H2 rp2 (fr1.trans fr2) rs2 q2⟩⟩
abbrev AL:=List AV->SA->Om->(List AV->SA->Om->Prop)->Prop
structure Fa (l : Addr) (F : Fs) (H : Hp) (ω : Om) (H' : Hp) (ω' : Om) : Prop where
  st : ∀ b o,ow (ω b) = false->F b = false->H b = some o->H' b = some o/\ow (ω' b) = false
  hd : ∀ b,F b = true->b≠l->H' b = H b
theorem Fr.fa {l : Addr} {F : Fs} {H H' : Hp} {ω ω' : Om} (h : Fr F H ω H' ω') : Fa l F H ω H' ω':=⟨h.st,fun b f _=>h.hd b f⟩
theorem Fa.trans {l : Addr} {F : Fs} {H H1 H2 : Hp} {ω ω1 ω2 : Om} (a : Fa l F H ω H1 ω1) (b : Fa l F H1 ω1 H2 ω2) : Fa l F H ω H2 ω2 :=
  ⟨fun c o h f e=>let ⟨x,y⟩:=a.st c o h f e;b.st c o y f x,fun c h n=>(b.hd c h n).trans (a.hd c h n)⟩
theorem Fa.same {l : Addr} {F : Fs} {H H' : Hp} {ω ω' : Om} (a : Fa l F H ω H' ω') : c6 (cut F H ω) (cut F H' ω'):=fun b o e=>by
  obtain ⟨h,f,e⟩:=cO.mp e
  obtain ⟨x,y⟩:=a.st b o h f e
  exact cO.mpr ⟨y,f,x⟩
def LL (l : Addr) (F : Fs) (H : Hp) (ω : Om) (K' : List AV->SA->Om->Prop) (K : St->Hp->Prop) : Prop :=
  ∀ xs vs ρ ω' σ H',Rep F H' ω'->Fa l F H ω H' ω'->RS (cut F H' ω') ρ σ->H' l = some (.lst vs)->RVs (cut F H' ω') xs vs->K' xs ρ ω'->K σ H'
theorem LL.fa {l : Addr} {F : Fs} {H H1 : Hp} {ω ω1 : Om} {K' : List AV->SA->Om->Prop} {K : St->Hp->Prop} (k : LL l F H ω K' K) (f : Fa l F H ω H1 ω1) : LL l F H1 ω1 K' K :=
  fun xs vs ρ ω' σ H' e1 e2 e3 e4 e5 e6=>k xs vs ρ ω' σ H' e1 (f.trans e2) e3 e4 e5 e6
structure Cp (l : TL) (l' : AL) : Prop where
  run : ∀ (F : Fs) (H : Hp) (ω : Om) (σ : St) (ρ : SA) (acc : Addr) (vs : List V) (xs : List AV) (K : St->Hp->Prop) (K' : List AV->SA->Om->Prop),Rep F H ω->RS (cut F H ω) ρ σ->F acc = true->H acc = some (.lst vs)->RVs (cut F H ω) xs vs ->
    l' xs ρ ω K'->LL acc F H ω K' K->l acc σ H K
def nC : AT:=fun _ ω Q=>Q true ω
def ig (te : AE) : AL:=fun xs ρ ω K=>te ρ ω fun y ω1=>xs.length < sizeLine/\K (xs ++ [y]) ρ ω1
def dj (g : AG) (tc : AT) (l : AL) : List AV->AL
  | [],xs,ρ,ω,K=>K xs ρ ω
  | a :: as,xs,ρ,ω,K=>g a ρ ω fun ρ1 ω1=>tc ρ1 ω1 fun b ω2=>if b = true then l xs ρ1 ω2 (fun xs' ρ' ω'=>dj g tc l as xs' ρ' ω' K) else dj g tc l as xs ρ1 ω2 K
def GJ (wi : AI) (g : AG) (tc : AT) (l : AL) : AL:=fun xs ρ ω K=>wi ρ ω fun as ω1=>dj g tc l as xs ρ ω1 K
def xO (src : List (Option Nat)) (ρ : SA) : SA:=src.map fun o=>match o with | none=>none | some j=>(ρ[j]?).join
def und : List AV->Option (List D)
  | []=>some []
  | .d x :: r=>(und r).map (x :: ·)
  | _=>none
theorem bn : ∀ ds : List D,und (ds.map AV.d) = some ds
  | []=>rfl
  | d :: ds=>by simp [und,bn ds]
theorem gh : ∀ {xs : List AV} {ds : List D},und xs = some ds->xs = ds.map AV.d
  | [],ds,h=>by cases h;rfl
  | .d x :: r,ds,h=>by
    simp only [und,Option.map_eq_some_iff] at h
    obtain ⟨es,e1,rfl⟩:=h
    rw [gh e1];rfl
  | .r _ :: _,_,h=>by simp [und] at h
  | .p _ _ :: _,_,h=>by simp [und] at h
def Hi (src : List (Option Nat)) (wi : AI) (g : AG) (tc : AT) (l : AL) : AE:=fun ρ ω Q=>wi ρ ω fun as ω1=>dj g tc l as [] (xO src ρ) ω1 fun xs _ ω'=>∃ ds,und xs = some ds/\Q (.d (.lst ds)) ω'
section
variable {te : TE} {te' : AE} {tc : TT} {tc' : AT} {g : TG} {g' : AG} {wi : TI} {wi' : AI} {l : TL} {l' : AL} {src : List (Option Nat)}
theorem tw : i4 zY nC:=⟨fun F H ω σ ρ Q Q' rp rs w k=>k true ω true H rp .refl rfl w⟩
theorem cT (h : bB te te') : Cp (GC te) (ig te'):=⟨fun F H ω σ ρ acc vs xs K K' rp rs fa ha rx w k=>by
  refine h.go rp rs w fun y ω1 v H1 rp1 fr1 rs1 rv q=>?_
  obtain ⟨q1,q2⟩:=q
  have ha1 : H1 acc = some (.lst vs):=(fr1.hd acc fa).trans ha
  obtain ⟨rp2,c2⟩:=rp1.hwrite (vs:=vs ++ [v]) fa
  refine ⟨vs,ha1,by rw [rx.length];exact q1,k (xs ++ [y]) (vs ++ [v]) ρ ω1 σ _ rp2 ?_ ?_ bQ ?_ q2⟩
  · refine fr1.fa.trans ⟨fun b o e1 e2 e3=>⟨?_,e1⟩,fun b f n=>ax n⟩
    have hb : b≠acc:=fun z=>by subst z;rw [fa] at e2;cases e2
    rw [ax hb];exact e3
  · rw [c2];exact rs1
  · rw [c2];exact (rx.same fr1.same).append (.one rv)⟩
theorem D4 (hg : vX g g') (hc : i4 tc tc') (hl : Cp l l') {G : Hp} {as : List AV} {J : It} (it : wK G as J) {F : Fs} {H : Hp} {ω : Om} {σ : St} {ρ : SA} {acc : Addr} {vs : List V} {xs : List AV} {K : St->Hp->Prop} {K' : List AV->SA->Om->Prop}
    (rp : Rep F H ω) (rs : RS (cut F H ω) ρ σ) (fa : F acc = true) (ha : H acc = some (.lst vs)) (rx : RVs (cut F H ω) xs vs) (sG : c6 G (cut F H ω)) (w : dj g' tc' l' as xs ρ ω K') (k : LL acc F H ω K' K) : Aa J g tc l acc σ H K:=by
  refine ⟨fun i m σ2 H2=>m + i = as.length/\∃ ρ2 ω2 vs2 xs2,Rep F H2 ω2/\RS (cut F H2 ω2) ρ2 σ2/\Fa acc F H ω H2 ω2/\H2 acc = some (.lst vs2)/\RVs (cut F H2 ω2) xs2 vs2/\dj g' tc' l' (as.drop i) xs2 ρ2 ω2 K',
    ⟨as.length,rfl,ρ,ω,vs,xs,rp,rs,Fr.refl.fa,ha,rx,w⟩,?_⟩
  rintro i m σ2 H2 ⟨hm,ρ2,ω2,vs2,xs2,rp2,rs2,fr2,ha2,rx2,q2⟩
  obtain ⟨stop,go⟩:=it F H2 ω2 rp2 (sG.trans fr2.same)
  by_cases hl' : i < as.length
  · obtain ⟨a,hai,hd⟩:=lK hl'
    rw [hd] at q2
    obtain ⟨g1,y1⟩:=go i a hai
    refine .inr ⟨g1,fun x H' hy=>?_⟩
    obtain ⟨rp3,fr3,rv3⟩:=y1 x H' hy
    refine hg.run F H' ω2 σ2 ρ2 x a _ _ rp3 (rs2.same fr3.same) rv3 q2 fun ρ4 ω4 σ4 H4 rp4 fr4 rs4 q4=>?_
    refine hc.go rp4 rs4 q4 fun b ω5 b' H5 rp5 fr5 rs5 rb q5=>?_
    cases (show b = b' from rb)
    have fr25 : Fr F H2 ω2 H5 ω5:=(fr3.trans fr4).trans fr5
    have ha5 : H5 acc = some (.lst vs2):=(fr25.hd acc fa).trans ha2
    have rx5:=rx2.same fr25.same
    cases b with
    | true =>
      rw [if_pos rfl] at q5 ⊢
      refine hl.run F H5 ω5 σ4 ρ4 acc vs2 xs2 _ _ rp5 rs5 fa ha5 rx5 q5 fun xs6 vs6 ρ6 ω6 σ6 H6 e1 e2 e3 e4 e5 e6=>?_
      exact ⟨m - 1,by omega,by omega,ρ6,ω6,vs6,xs6,e1,e3,(fr2.trans fr25.fa).trans e2,e4,e5,e6⟩
    | false =>
      rw [if_neg Bool.false_ne_true] at q5 ⊢
      exact ⟨m - 1,by omega,by omega,ρ4,ω5,vs2,xs2,rp5,rs5,fr2.trans fr25.fa,ha5,rx5,q5⟩
  · have hi : i = as.length:=by omega
    subst hi
    rw [List.drop_length] at q2
    exact .inl ⟨stop,k xs2 vs2 ρ2 ω2 σ2 H2 rp2 fr2 rs2 ha2 rx2 q2⟩
theorem JU (hi : wR wi wi') (hg : vX g g') (hc : i4 tc tc') (hl : Cp l l') : Cp (Ky wi g tc l) (GJ wi' g' tc' l'):=⟨fun F H ω σ ρ acc vs xs K K' rp rs fa ha rx w k =>
  hi.go rp rs w fun as ω1 J H1 rp1 fr1 rs1 it q=>D4 hg hc hl it rp1 rs1 fa ((fr1.hd acc fa).trans ha) (rx.same fr1.same) (c6.refl _) q (k.fa fr1.fa)⟩
theorem RS.blk {G : Hp} {ρ : SA} {σ : St} (h : RS G ρ σ) : RS G (xO src ρ) (x8 src σ):=by
  refine ⟨by simp [xO,x8],fun i a e=>?_⟩
  unfold xO at e
  unfold x8
  rw [List.getElem?_map] at e ⊢
  cases q : src[i]? with
  | none=>rw [q] at e;simp at e
  | some o =>
    rw [q] at e
    cases o with
    | none=>simp at e
    | some j =>
      simp only [Option.map_some,Option.some.injEq] at e ⊢
      have e' : ρ[j]? = some (some a):=by
        cases z : ρ[j]? with
        | none=>rw [z] at e;simp at e
        | some y=>rw [z] at e;simp at e;rw [e]
      obtain ⟨v,e1,e2⟩:=h.2 j a e'
      exact ⟨v,by rw [e1];rfl,e2⟩
theorem Gn (hi : wR wi wi') (hg : vX g g') (hc : i4 tc tc') (hl : Cp l l') {F : Fs} {H : Hp} {ω : Om} {σ : St} {ρ : SA} {Q : VK} {K' : List AV->SA->Om->Prop} (rp : Rep F H ω) (rs : RS (cut F H ω) ρ σ)
    (w : wi' ρ ω fun as ω1=>dj g' tc' l' as [] (xO src ρ) ω1 K')
    (k : ∀ p xs vs ρ' ω' H',F p = false->(∀ b o,ow (ω b) = false->F b = false->H b = some o->b≠p)->Rep (F.add p) H' ω'->Fr F H ω H' ω'->H' p = some (.lst vs)->RVs (cut (F.add p) H' ω') xs vs->K' xs ρ' ω'->Q (.ref p) H') : wT src wi g tc l σ H Q:=by
  refine hi.go rp rs w fun as ω1 J H1 rp1 fr1 rs1 it q=>fun acc hacc=>?_
  obtain ⟨rp2,c2⟩:=rp1.hide (vs:=[]) hacc
  obtain ⟨f1,f2⟩:=rp1.free hacc
  have hb1 : ∀ b,b≠acc->F b = false->(F.add acc) b = false:=fun b h f=>by simp [Fs.add,h,f]
  have hne : ∀ b o,ow (ω b) = false->F b = false->H b = some o->b≠acc:=fun b o h f e=>aZ (fr1.st b o h f e).1 hacc
  refine D4 (xs:=[]) hg hc hl it rp2 (by rw [c2];exact rs1.blk) (by simp [Fs.add]) bQ rfl (by rw [c2];exact c6.refl _) q fun xs vs ρ' ω' σ' H' e1 e2 e3 e4 e5 e6=>?_
  refine k acc xs vs ρ' ω' H' f2 hne e1 ⟨fun b o h f e=>?_,fun b f=>?_⟩ e4 e5 e6
  · obtain ⟨x,y⟩:=fr1.st b o h f e
    have hb:=hne b o h f e
    exact e2.st b o y (hb1 b hb f) (by rw [ax hb];exact x)
  · have hb : b≠acc:=fun z=>by subst z;rw [f] at f2;cases f2
    rw [e2.hd b (by simp [Fs.add,f]) hb,ax hb,fr1.hd b f]
theorem cW (hi : wR wi wi') (hg : vX g g') (hc : i4 tc tc') (hl : Cp l l') : bB (wT src wi g tc l) (Hi src wi' g' tc' l'):=⟨fun F H ω σ ρ Q Q' rp rs w k=>by
  refine Gn hi hg hc hl rp rs w fun p xs vs ρ' ω' H' f hne rp1 fr1 e1 e2 q=>?_
  obtain ⟨ds,hu,q⟩:=q
  cases gh hu
  obtain ⟨rp2,sm,hp⟩:=rp1.unhide f e1
  refine k (.d (.lst ds)) ω' _ H' rp2 fr1 ?_ q
  simp only [RV,Dat]
  exact ⟨p,vs,rfl,hp,RVs.dats.mp (e2.same sm)⟩⟩
end
def cM (ω : Om) : AV->Option D
  | .d x=>some x
  | .r (.ref l)=>match ω l with
    | some (.own xs)=>(und xs).map D.lst
    | some (.frz ds)=>some (.lst ds)
    | _=>none
  | _=>none
def gu (ω : Om) : AV->Option (List AV)
  | .d (.lst ds)=>some (ds.map AV.d)
  | .r (.ref l)=>match ω l with
    | some (.own xs)=>some xs
    | some (.frz ds)=>some (ds.map AV.d)
    | _=>none
  | _=>none
def io : AV->Option (List AV)
  | .d (.tup ds)=>some (ds.map AV.d)
  | _=>none
def qe (ω : Om) (x : AV) (K : D->Om->Prop) : Prop:=match x with
  | .d x=>K x ω
  | .r (.ref l)=>match ω l with
    | some (.own xs)=>∃ ds,und xs = some ds/\K (.lst ds) (ω.put l (.frz ds))
    | some (.frz ds)=>K (.lst ds) ω
    | _=>False
  | _=>False
section
variable {F : Fs} {H : Hp} {ω : Om} {x : AV} {v : V}
theorem vO (rp : Rep F H ω) (rv : RV (cut F H ω) x v) {xs : List AV} (h : gu ω x = some xs) : ∃ a vs,v = .ref a/\H a = some (.lst vs)/\RVs (cut F H ω) xs vs:=by
  cases x with
  | d x=>cases x with
    | lst ds =>
      simp only [gu,Option.some.injEq] at h
      subst h
      simp only [RV,Dat] at rv
      obtain ⟨a,vs,rfl,e1,e2⟩:=rv
      exact ⟨a,vs,rfl,br _ _ e1,RVs.dats.mpr e2⟩
    | _=>simp [gu] at h
  | p u P=>simp [gu] at h
  | r u =>
    cases (show v = u from rv)
    cases v with
    | ref l =>
      simp only [gu] at h
      cases e : ω l with
      | none=>rw [e] at h;simp at h
      | some c =>
        rw [e] at h
        cases c with
        | own ys =>
          simp only [Option.some.injEq] at h
          subst h
          obtain ⟨vs,e1,e2⟩:=rp.own l _ e
          exact ⟨l,vs,rfl,e1,e2⟩
        | frz ds =>
          simp only [Option.some.injEq] at h
          subst h
          have q:=rp.frz l ds e
          simp only [Dat] at q
          obtain ⟨a,vs,e1,e2,e3⟩:=q
          cases e1
          exact ⟨l,vs,rfl,br _ _ e2,RVs.dats.mpr e3⟩
        | dic ks=>simp at h
    | _=>simp [gu] at h
theorem EE (rv : RV (cut F H ω) x v) {xs : List AV} (h : io x = some xs) : ∃ a vs,v = .ref a/\cut F H ω a = some (.tup vs)/\RVs (cut F H ω) xs vs:=by
  cases x with
  | d x=>cases x with
    | tup ds =>
      simp only [io,Option.some.injEq] at h
      subst h
      simp only [RV,Dat] at rv
      obtain ⟨a,vs,rfl,e1,e2⟩:=rv
      exact ⟨a,vs,rfl,e1,RVs.dats.mpr e2⟩
    | _=>simp [io] at h
  | p u P=>simp [io] at h
  | r u=>simp [io] at h
theorem vn (rp : Rep F H ω) (rv : RV (cut F H ω) x v) {d : D} (h : cM ω x = some d) : Dat H d v:=by
  cases x with
  | d x =>
    simp only [cM,Option.some.injEq] at h
    subst h
    exact Dat.same br rv
  | p u P=>simp [cM] at h
  | r u =>
    cases (show v = u from rv)
    cases v with
    | ref l =>
      simp only [cM] at h
      cases e : ω l with
      | none=>rw [e] at h;simp at h
      | some c =>
        rw [e] at h
        cases c with
        | own ys =>
          simp only [Option.map_eq_some_iff] at h
          obtain ⟨ds,h1,rfl⟩:=h
          cases gh h1
          obtain ⟨vs,e1,e2⟩:=rp.own l _ e
          simp only [Dat]
          exact ⟨l,vs,rfl,e1,(RVs.dats.mp e2).same br⟩
        | frz ds =>
          simp only [Option.some.injEq] at h
          subst h
          exact (rp.frz l ds e).same br
        | dic ks=>simp at h
    | _=>simp [cM] at h
theorem iV (rp : Rep F H ω) (rv : RV (cut F H ω) x v) {ds : List D} (h : cM ω x = some (.lst ds)) : ∃ a vs,v = .ref a/\H a = some (.lst vs)/\aV (cut F H ω) ds vs:=by
  have : gu ω x = some (ds.map AV.d):=by
    cases x with
    | d x=>simp only [cM,Option.some.injEq] at h;subst h;rfl
    | p u P=>simp [cM] at h
    | r u=>cases u with
      | ref l =>
        simp only [cM] at h
        simp only [gu]
        cases e : ω l with
        | none=>rw [e] at h;simp at h
        | some c =>
          rw [e] at h
          cases c with
          | own ys =>
            simp only [Option.map_eq_some_iff] at h
            obtain ⟨es,h1,h2⟩:=h
            cases h2
            rw [gh h1]
          | frz es=>simp only [Option.some.injEq] at h;cases h;rfl
          | dic ks=>simp at h
      | _=>simp [cM] at h
  obtain ⟨a,vs,e1,e2,e3⟩:=vO rp rv this
  exact ⟨a,vs,e1,e2,RVs.dats.mp e3⟩
theorem uY (rp : Rep F H ω) (rv : RV (cut F H ω) x v) {K : D->Om->Prop} (h : qe ω x K) : ∃ d ω',Rep F H ω'/\Fr F H ω H ω'/\Dat (cut F H ω') d v/\K d ω':=by
  cases x with
  | d x=>exact ⟨x,ω,rp,.refl,rv,h⟩
  | p u P=>exact h.elim
  | r u =>
    cases (show v = u from rv)
    cases v with
    | ref l =>
      simp only [qe] at h
      cases e : ω l with
      | none=>rw [e] at h;exact h.elim
      | some c =>
        rw [e] at h
        cases c with
        | own ys =>
          obtain ⟨ds,h1,h2⟩:=h
          cases gh h1
          obtain ⟨q1,q2,q3⟩:=rp.freeze e
          exact ⟨_,_,q1,q2,q3,h2⟩
        | frz ds=>exact ⟨_,_,rp,.refl,rp.frz l ds e,h⟩
        | dic ks=>exact h.elim
    | _=>exact h.elim
end
abbrev A2:=AV->AV->Om->(AV->Om->Prop)->Prop
structure jN (r : R2) (r' : A2) : Prop where
  run : ∀ (F : Fs) (H : Hp) (ω : Om) (v u : V) (x y : AV) (Q : VK) (Q' : AV->Om->Prop),Rep F H ω->RV (cut F H ω) x v->RV (cut F H ω) y u->r' x y ω Q'->LP RV F H ω Q' Q->r v u H Q
structure Jr (r : V->Hp->VK->Prop) (r' : AV->Om->(AV->Om->Prop)->Prop) : Prop where
  run : ∀ (F : Fs) (H : Hp) (ω : Om) (v : V) (x : AV) (Q : VK) (Q' : AV->Om->Prop),Rep F H ω->RV (cut F H ω) x v->r' x ω Q'->LP RV F H ω Q' Q->r v H Q
structure yY (r : List V->Hp->VK->Prop) (r' : List AV->Om->(AV->Om->Prop)->Prop) : Prop where
  run : ∀ (F : Fs) (H : Hp) (ω : Om) (vs : List V) (xs : List AV) (Q : VK) (Q' : AV->Om->Prop),Rep F H ω->RVs (cut F H ω) xs vs->r' xs ω Q'->LP RV F H ω Q' Q->r vs H Q
def cV (i : Nat) : AE:=fun ρ ω Q=>∃ a,ρ[i]? = some (some a)/\Q a ω
def Hz (i : Nat) : AE:=fun ρ ω Q=>∃ a,ρ[i]? = some (some a)/\qe ω a fun d ω'=>Q (.d d) ω'
def aC (d : D) : AE:=fun _ ω Q=>Q (.d d) ω
def aOp (r : A2) (ta tb : AE) : AE:=fun ρ ω Q=>ta ρ ω fun x ω1=>tb ρ ω1 fun y ω2=>r x y ω2 Q
def aUn (r : AV->Om->(AV->Om->Prop)->Prop) (ta : AE) : AE:=fun ρ ω Q=>ta ρ ω fun x ω1=>r x ω1 Q
def ss : AA:=fun _ ω Q=>Q [] ω
def dt (ta : AE) (tr : AA) : AA:=fun ρ ω Q=>ta ρ ω fun x ω1=>tr ρ ω1 fun xs ω2=>Q (x :: xs) ω2
def J2 (t : AA) : AE:=fun ρ ω Q=>t ρ ω fun xs ω1=>xs.length<=sizeLine/\∃ ds,und xs = some ds/\Q (.d (.tup ds)) ω1
def Kv (t : AA) : AE:=fun ρ ω Q=>t ρ ω fun xs ω1=>xs.length<=sizeLine/\∃ ds,und xs = some ds/\Q (.d (.lst ds)) ω1
def GG (t : AA) : AE:=fun ρ ω Q=>t ρ ω fun xs ω1=>xs.length<=sizeLine/\∀ p,ω1 p = none->Q (.r (.ref p)) (ω1.put p (.own xs))
def xk (sp : ASp) (t : AA) : AE:=fun ρ ω Q=>t ρ ω fun xs ω1=>sp xs ω1 Q
def aCB (r : List AV->Om->(AV->Om->Prop)->Prop) (t : AA) : AE:=fun ρ ω Q=>t ρ ω fun xs ω1=>r xs ω1 Q
def ux (t : AE) : AT:=fun ρ ω Q=>t ρ ω fun x ω1=>∃ k,x = .d (.bl k)/\Q k ω1
def J8 (t u : AT) : AT:=fun ρ ω Q=>t ρ ω fun c ω1=>if c = true then u ρ ω1 Q else Q false ω1
def aOr (t u : AT) : AT:=fun ρ ω Q=>t ρ ω fun c ω1=>if c = true then Q true ω1 else u ρ ω1 Q
def HN (t : AT) : AT:=fun ρ ω Q=>t ρ ω fun c ω1=>Q (!c) ω1
def aIf (t : AT) (ta tb : AE) : AE:=fun ρ ω Q=>t ρ ω fun c ω1=>if c = true then ta ρ ω1 Q else tb ρ ω1 Q
section
variable {ta tb tc : TE} {ta' tb' tc' : AE} {t u : TT} {t' u' : AT} {r r2 : R2} {r' r2' : A2} {s : TA} {s' : AA}
theorem ae {i : Nat} : bB (FJ i) (cV i):=⟨fun F H ω σ ρ Q Q' rp rs h k=>by
  obtain ⟨a,e,q⟩:=h
  obtain ⟨v,e1,e2⟩:=rs.2 i a e
  exact ⟨v,e1,k a ω v H rp .refl e2 q⟩⟩
theorem Dg {i : Nat} : bB (FJ i) (Hz i):=⟨fun F H ω σ ρ Q Q' rp rs h k=>by
  obtain ⟨a,e,q⟩:=h
  obtain ⟨v,e1,e2⟩:=rs.2 i a e
  obtain ⟨d,ω',q1,q2,q3,q4⟩:=uY rp e2 q
  exact ⟨v,e1,k (.d d) ω' v H q1 q2 q3 q4⟩⟩
theorem ak {i : Int} : bB (tC (.int i)) (aC (.int i)):=⟨fun F H ω σ ρ Q Q' rp rs h k=>k _ ω _ H rp .refl (by simp [RV,Dat]) h⟩
theorem bc {x : Str} : bB (tC (.str x)) (aC (.str x)):=⟨fun F H ω σ ρ Q Q' rp rs h k=>k _ ω _ H rp .refl (by simp [RV,Dat]) h⟩
theorem jL {b : Bool} : bB (tC (.bl b)) (aC (.bl b)):=⟨fun F H ω σ ρ Q Q' rp rs h k=>k _ ω _ H rp .refl (by simp [RV,Dat]) h⟩
theorem uc : bB (tC .non) (aC .non):=⟨fun F H ω σ ρ Q Q' rp rs h k=>k _ ω _ H rp .refl (by simp [RV,Dat]) h⟩
theorem ap (h2 : jN r r') (ha : bB ta ta') (hb : bB tb tb') : bB (tOp r ta tb) (aOp r' ta' tb'):=⟨fun F H ω σ ρ Q Q' rp rs h k =>
  ha.go rp rs h fun x ω1 v H1 rp1 fr1 rs1 rv1 q1=>hb.go rp1 rs1 q1 fun y ω2 u H2 rp2 fr2 rs2 rv2 q2=>h2.run F H2 ω2 v u x y Q Q' rp2 (rv1.same fr2.same) rv2 q2 (k.fr (fr1.trans fr2))⟩
theorem J6 {r : V->Hp->VK->Prop} {r' : AV->Om->(AV->Om->Prop)->Prop} (h2 : Jr r r') (ha : bB ta ta') : bB (tUn r ta) (aUn r' ta'):=⟨fun F H ω σ ρ Q Q' rp rs h k =>
  ha.go rp rs h fun x ω1 v H1 rp1 fr1 rs1 rv1 q1=>h2.run F H1 ω1 v x Q Q' rp1 rv1 q1 (k.fr fr1)⟩
theorem ai : lO Et ss:=⟨fun F H ω σ ρ Q Q' rp rs h k=>k [] ω _ H rp .refl rfl h⟩
theorem ac (ha : bB ta ta') (hs : lO s s') : lO (iA ta s) (dt ta' s'):=⟨fun F H ω σ ρ Q Q' rp rs h k =>
  ha.go rp rs h fun x ω1 v H1 rp1 fr1 rs1 rv1 q1=>hs.go rp1 rs1 q1 fun y ω2 u H2 rp2 fr2 rs2 rv2 q2=>k (x :: y) ω2 (v :: u) H2 rp2 (fr1.trans fr2) ⟨v,u,rfl,rv1.same fr2.same,rv2⟩ q2⟩
theorem a9 (hs : lO s s') : bB (Gq s) (J2 s'):=⟨fun F H ω σ ρ Q Q' rp rs h k =>
  hs.go rp rs h fun xs ω1 vs H1 rp1 fr1 rs1 rv1 ⟨z,ds,hu,q1⟩=>⟨by rw [rv1.length];exact z,fun p hp=>by
    cases gh hu
    obtain ⟨rp2,fr2,hc⟩:=rp1.lay (o:=.tup vs) hp
    refine k _ ω1 _ _ rp2 (fr1.trans fr2) ?_ q1
    simp only [RV,Dat]
    exact ⟨p,vs,rfl,hc,(RVs.dats.mp rv1).same fr2.same⟩⟩⟩
theorem sR (hs : lO s s') : bB (HP s) (Kv s'):=⟨fun F H ω σ ρ Q Q' rp rs h k =>
  hs.go rp rs h fun xs ω1 vs H1 rp1 fr1 rs1 rv1 ⟨z,ds,hu,q1⟩=>⟨by rw [rv1.length];exact z,fun p hp=>by
    cases gh hu
    obtain ⟨rp2,fr2,hc⟩:=rp1.lay (o:=.lst vs) hp
    refine k _ ω1 _ _ rp2 (fr1.trans fr2) ?_ q1
    simp only [RV,Dat]
    exact ⟨p,vs,rfl,hc,(RVs.dats.mp rv1).same fr2.same⟩⟩⟩
theorem gR (hs : lO s s') : bB (HP s) (GG s'):=⟨fun F H ω σ ρ Q Q' rp rs h k =>
  hs.go rp rs h fun xs ω1 vs H1 rp1 fr1 rs1 rv1 ⟨z,q1⟩=>⟨by rw [rv1.length];exact z,fun p hp=>by
    obtain ⟨rp2,fr2⟩:=rp1.mk' (vs:=vs) hp rv1
    exact k (.r (.ref p)) _ _ _ rp2 (fr1.trans fr2) rfl (q1 p (rp1.free hp).1)⟩⟩
theorem aq {sp : ASp} {E : XK} (hs : lO s s') : bB (AJ (aN sp) [] E s) (xk sp s'):=⟨fun F H ω σ ρ Q Q' rp rs h k =>
  hs.go rp rs h fun xs ω1 vs H1 rp1 fr1 rs1 rv1 q=>⟨F,xs,ω1,Q',rp1,by rw [List.append_nil];exact rv1,q,k.fr fr1⟩⟩
theorem eJ {r : List V->Hp->VK->Prop} {r' : List AV->Om->(AV->Om->Prop)->Prop} (hr : yY r r') (hs : lO s s') : bB (tCB r s) (aCB r' s'):=⟨fun F H ω σ ρ Q Q' rp rs h k =>
  hs.go rp rs h fun xs ω1 vs H1 rp1 fr1 rs1 rv1 q=>hr.run F H1 ω1 vs xs Q Q' rp1 rv1 q (k.fr fr1)⟩
theorem aQ (ha : bB ta ta') : i4 (Hm ta) (ux ta'):=⟨fun F H ω σ ρ Q Q' rp rs h k =>
  ha.go rp rs h fun x ω1 v H1 rp1 fr1 rs1 rv1 ⟨c,e,q⟩=>by subst e;exact ⟨c,by simpa [RV,Dat] using rv1,k c ω1 c H1 rp1 fr1 rfl q⟩⟩
theorem Ba (h1 : i4 t t') (h2 : i4 u u') : i4 (JZ t u) (J8 t' u'):=⟨fun F H ω σ ρ Q Q' rp rs h k =>
  h1.go rp rs h fun c ω1 c' H1 rp1 fr1 rs1 rv1 q=>by
    cases (show c = c' from rv1)
    cases c with
    | true=>rw [if_pos rfl] at q ⊢;exact h2.run F H1 ω1 σ ρ Q Q' rp1 rs1 q (k.fr fr1)
    | false=>rw [if_neg Bool.false_ne_true] at q ⊢;exact k false ω1 false H1 rp1 fr1 rfl q⟩
theorem yT (h1 : i4 t t') (h2 : i4 u u') : i4 (tOr t u) (aOr t' u'):=⟨fun F H ω σ ρ Q Q' rp rs h k =>
  h1.go rp rs h fun c ω1 c' H1 rp1 fr1 rs1 rv1 q=>by
    cases (show c = c' from rv1)
    cases c with
    | true=>rw [if_pos rfl] at q ⊢;exact k true ω1 true H1 rp1 fr1 rfl q
    | false=>rw [if_neg Bool.false_ne_true] at q ⊢;exact h2.run F H1 ω1 σ ρ Q Q' rp1 rs1 q (k.fr fr1)⟩
theorem ma (h1 : i4 t t') : i4 (Kp t) (HN t'):=⟨fun F H ω σ ρ Q Q' rp rs h k =>
  h1.go rp rs h fun c ω1 c' H1 rp1 fr1 rs1 rv1 q=>by
    cases (show c = c' from rv1)
    exact k _ ω1 _ H1 rp1 fr1 rfl q⟩
theorem A3 {G : Hp} {c : Bool} {v : V} (h : RV G (.d (.bl c)) v) : v = .bl c:=by simpa [RV,Dat] using h
theorem B8 (h1 : i4 t t') (ha : bB ta ta') (hb : bB tb tb') : bB (tIf t ta tb) (aIf t' ta' tb'):=⟨fun F H ω σ ρ Q Q' rp rs h k =>
  h1.go rp rs h fun c ω1 c' H1 rp1 fr1 rs1 rv1 q=>by
    cases (show c = c' from rv1)
    cases c with
    | true=>rw [if_pos rfl] at q ⊢;exact ha.run F H1 ω1 σ ρ Q Q' rp1 rs1 q (k.fr fr1)
    | false=>rw [if_neg Bool.false_ne_true] at q ⊢;exact hb.run F H1 ω1 σ ρ Q Q' rp1 rs1 q (k.fr fr1)⟩
def jY (ω : Om) (x : AV) : Option Bool:=match x with
  | .d .non=>some false
  | .d (.bl b)=>some b
  | .d (.int i)=>some (i != 0)
  | .d (.tup ds)=>some (!ds.isEmpty)
  | x=>(gu ω x).map fun xs=>!xs.isEmpty
def EL (ta : AE) : AT:=fun ρ ω Q=>ta ρ ω fun x ω1=>∃ k,jY ω1 x = some k/\Q k ω1
theorem pZ {α β : Type} {xs : List α} {ys : List β} (h : xs.length = ys.length) : xs.isEmpty = ys.isEmpty:=by
  cases xs<;>cases ys<;>simp_all
theorem yJ {K : PySem.W.Frag} {F : Fs} {H1 : Hp} {ω1 : Om} {x : AV} {v : V} {c : Bool} (rp1 : Rep F H1 ω1) (rv1 : RV (cut F H1 ω1) x v) (e : jY ω1 x = some c) : w6 K v H1 c:=by
    have ls : ∀ {xs : List AV},gu ω1 x = some xs->c = (!xs.isEmpty)->w6 K v H1 c:=fun {xs} e1 e2=>by
      obtain ⟨a,vs,rfl,e3,e4⟩:=vO rp1 rv1 e1
      exact .inl ⟨vs,.inl (.inl e3),by rw [e2,pZ e4.length.symm]⟩
    cases x with
    | d x=>cases x with
      | non=>simp only [jY,Option.some.injEq] at e;simp only [RV,Dat] at rv1;subst rv1;exact e.symm
      | bl b=>simp only [jY,Option.some.injEq] at e;simp only [RV,Dat] at rv1;subst rv1;exact e.symm
      | int b=>simp only [jY,Option.some.injEq] at e;simp only [RV,Dat] at rv1;subst rv1;exact e.symm
      | str b=>simp [jY,gu] at e
      | tup ds =>
        simp only [jY,Option.some.injEq] at e
        simp only [RV,Dat] at rv1
        obtain ⟨a,vs,rfl,e1,e2⟩:=rv1
        exact .inr (.inl ⟨vs,.inl (.inl (br _ _ e1)),by rw [← e,pZ e2.length]⟩)
      | lst ds =>
        simp only [jY,Option.map_eq_some_iff] at e
        obtain ⟨xs,e1,e2⟩:=e
        exact ls e1 e2.symm
    | r u =>
      simp only [jY,Option.map_eq_some_iff] at e
      obtain ⟨xs,e1,e2⟩:=e
      exact ls e1 e2.symm
    | p u P=>simp [jY,gu] at e
theorem eY {K : PySem.W.Frag} (ha : bB ta ta') : i4 (fun σ H Q=>ta σ H fun x H'=>∃ k,w6 K x H' k/\Q k H') (EL ta'):=⟨fun F H ω σ ρ Q Q' rp rs h k =>
  ha.go rp rs h fun x ω1 v H1 rp1 fr1 rs1 rv1 ⟨c,e,q⟩=>⟨c,yJ rp1 rv1 e,k c ω1 c H1 rp1 fr1 rfl q⟩⟩
end
def aI0 (f : Int->Int->D) : A2:=fun x y ω Q=>∃ i j,x = .d (.int i)/\y = .d (.int j)/\Q (.d (f i j)) ω
def aI (C : Int->Int->Prop) (f : Int->Int->D) : A2:=fun x y ω Q=>∃ i j,x = .d (.int i)/\y = .d (.int j)/\C i j/\Q (.d (f i j)) ω
def aU (f : Int->D) : AV->Om->(AV->Om->Prop)->Prop:=fun x ω Q=>∃ i,x = .d (.int i)/\Q (.d (f i)) ω
section
variable {F : Fs} {H : Hp} {ω : Om} {Q : VK} {Q' : AV->Om->Prop}
theorem LP.int (k : LP RV F H ω Q' Q) (rp : Rep F H ω) {i : Int} (q : Q' (.d (.int i)) ω) : Q (.int i) H:=k (.d (.int i)) ω _ H rp .refl (by simp [RV,Dat]) q
theorem LP.bl (k : LP RV F H ω Q' Q) (rp : Rep F H ω) {i : Bool} (q : Q' (.d (.bl i)) ω) : Q (.bl i) H:=k (.d (.bl i)) ω _ H rp .refl (by simp [RV,Dat]) q
theorem cj {G : Hp} {i : Int} {v : V} (h : RV G (.d (.int i)) v) : v = .int i:=by simpa [RV,Dat] using h
theorem vj {G : Hp} {i : Str} {v : V} (h : RV G (.d (.str i)) v) : v = .str i:=by simpa [RV,Dat] using h
theorem Dm {G : Hp} {v : V} (h : RV G (.d .non) v) : v = .non:=by simpa [RV,Dat] using h
theorem LP.tup (k : LP RV F H ω Q' Q) (rp : Rep F H ω) {ds : List D} {vs : List V} (hd : aV (cut F H ω) ds vs) (q : Q' (.d (.tup ds)) ω) : ∀ p,H p = none->Q (.ref p) (upd H p (.tup vs)):=fun p hp=>by
  obtain ⟨rp2,fr2,hc⟩:=rp.lay (o:=.tup vs) hp
  refine k (.d (.tup ds)) ω _ _ rp2 fr2 ?_ q
  simp only [RV,Dat]
  exact ⟨p,vs,rfl,hc,hd.same fr2.same⟩
theorem LP.lst (k : LP RV F H ω Q' Q) (rp : Rep F H ω) {ds : List D} {vs : List V} (hd : aV (cut F H ω) ds vs) (q : Q' (.d (.lst ds)) ω) : ∀ p,H p = none->Q (.ref p) (upd H p (.lst vs)):=fun p hp=>by
  obtain ⟨rp2,fr2,hc⟩:=rp.lay (o:=.lst vs) hp
  refine k (.d (.lst ds)) ω _ _ rp2 fr2 ?_ q
  simp only [RV,Dat]
  exact ⟨p,vs,rfl,hc,hd.same fr2.same⟩
theorem LP.own (k : LP RV F H ω Q' Q) (rp : Rep F H ω) {xs : List AV} {vs : List V} (hd : RVs (cut F H ω) xs vs) (q : ∀ p,ω p = none->Q' (.r (.ref p)) (ω.put p (.own xs))) : ∀ p,H p = none->Q (.ref p) (upd H p (.lst vs)):=fun p hp=>by
  obtain ⟨rp2,fr2⟩:=rp.mk' (vs:=vs) hp hd
  exact k (.r (.ref p)) _ _ _ rp2 fr2 rfl (q p (rp.free hp).1)
end
theorem ni {f : Int->Int->Int} : jN (rI0 fun i j=>.int (f i j)) (aI0 fun i j=>.int (f i j)):=⟨fun F H ω v u x y Q Q' rp h1 h2 ⟨i,j,e1,e2,q⟩ k=>by
  subst e1 e2;exact ⟨i,j,cj h1,cj h2,k.int rp q⟩⟩
theorem fO {f : Int->Int->Bool} : jN (rI0 fun i j=>.bl (f i j)) (aI0 fun i j=>.bl (f i j)):=⟨fun F H ω v u x y Q Q' rp h1 h2 ⟨i,j,e1,e2,q⟩ k=>by
  subst e1 e2;exact ⟨i,j,cj h1,cj h2,k.bl rp q⟩⟩
theorem iW {C : Int->Int->Prop} {f : Int->Int->Int} : jN (rI C fun i j=>.int (f i j)) (aI C fun i j=>.int (f i j)):=⟨fun F H ω v u x y Q Q' rp h1 h2 ⟨i,j,e1,e2,c,q⟩ k=>by
  subst e1 e2;exact ⟨i,j,cj h1,cj h2,c,k.int rp q⟩⟩
theorem u_i {f : Int->Int} : Jr (rU fun i=>.int (f i)) (aU fun i=>.int (f i)):=⟨fun F H ω v x Q Q' rp h1 ⟨i,e1,q⟩ k=>by
  subst e1;exact ⟨i,cj h1,k.int rp q⟩⟩
def Dl (neg : Bool) : A2:=fun x y ω Q=>∃ a b,cM ω x = some a/\cM ω y = some b/\dep a<=100/\Q (.d (.bl (if neg then !eqD a b else eqD a b))) ω
theorem bj {neg : Bool} : jN (Jm neg) (Dl neg):=⟨fun F H ω v u x y Q Q' rp h1 h2 ⟨a,b,e1,e2,s,q⟩ k=>⟨a,b,vn rp h1 e1,vn rp h2 e2,s,k.bl rp q⟩⟩
def aIn (neg : Bool) : A2:=fun x y ω Q=>∃ a b ds,cM ω x = some a/\cM ω y = some b/\(b = .lst ds\/b = .tup ds)/\gq ds<=90/\Q (.d (.bl (if neg then !inD a ds else inD a ds))) ω
theorem yy {neg : Bool} : jN (Ix neg) (aIn neg):=⟨fun F H ω v u x y Q Q' rp h1 h2 ⟨a,b,ds,e1,e2,e3,s,q⟩ k=>⟨a,ds,vn rp h1 e1,by
  have:=vn rp h2 e2
  rcases e3 with rfl | rfl
  · exact .inl this
  · exact .inr this,s,k.bl rp q⟩⟩
def JI : A2:=fun x y ω Q=>∃ ds es,x = .d (.tup ds)/\y = .d (.tup es)/\ds.length + es.length<=sizeLine/\Q (.d (.tup (ds ++ es))) ω
def Ao : R2:=fun x y H Q=>∃ a b xs ys,x = .ref a/\y = .ref b/\H a = some (.tup xs)/\H b = some (.tup ys)/\xs.length + ys.length<=sizeLine /\
  (xs = []->Q (.ref b) H)/\(ys = []->Q (.ref a) H)/\∀ p,H p = none->Q (.ref p) (upd H p (.tup (xs ++ ys)))
theorem bU {X : Cx} : OpR X (binaryOp .Add) Ao:=by
  intro pins s σ H x y v u Q I rx ry h
  obtain ⟨a,b,xs,ys,rfl,rfl,ha,hb,hz,g1,g2,g3⟩:=h
  by_cases hn : xs = []
  · subst hn
    cases rx
    cases ry
    obtain ⟨its,r1,ht⟩:=i9 I ha
    obtain ⟨its2,r2,hb2⟩:=i9 I hb
    cases r1
    obtain ⟨⟨cls,dd,data,sl⟩,ho,hc,n,hd⟩:=id ht
    obtain ⟨⟨cls2,dd2,data2,sl2⟩,ho2,hc2,n2,hd2⟩:=id hb2
    simp only at hc hd hc2 hd2
    subst hc hd hc2 hd2
    exact concat_meets ⟨_,ho,rfl⟩ ⟨_,ho2,rfl⟩ noFill_tuple_add seq_tuple_add PySem.F.slot_tuple_add PySem.F.entry_tuple_add (PySem.F.args_tuple_add_2 _ _)
      (tuple_addW0 a b _ _ n n2 dd dd2 sl sl2 (by simp)) ⟨ho,ho2,⟨.ref b,H,I,rfl,g1 rfl⟩⟩
  · exact Gr pins s σ H (.ref a) (.ref b) v u Q I rx ry ⟨a,b,xs,ys,rfl,rfl,SqT.of ha,SqT.of hb,hn,hz,g2,fun _ p hp=>g3 p hp⟩
theorem Iq : jN Ao JI:=⟨fun F H ω v u x y Q Q' rp h1 h2 ⟨ds,es,e1,e2,z,q⟩ k=>by
  subst e1 e2
  have h1':=h1
  have h2':=h2
  simp only [RV,Dat] at h1 h2
  obtain ⟨a,xs,rfl,ha,hxs⟩:=h1
  obtain ⟨b,ys,rfl,hb,hys⟩:=h2
  refine ⟨a,b,xs,ys,rfl,rfl,br _ _ ha,br _ _ hb,by rw [hxs.length,hys.length];exact z,fun e=>?_,fun e=>?_,k.tup rp (hxs.append hys) q⟩
  · have : ds = []:=List.length_eq_zero_iff.mp (by rw [← hxs.length,e];rfl)
    subst this
    exact k _ ω _ H rp .refl h2' q
  · have : es = []:=List.length_eq_zero_iff.mp (by rw [← hys.length,e];rfl)
    subst this
    rw [List.append_nil] at q
    exact k _ ω _ H rp .refl h1' q⟩
theorem Rep.later {F : Fs} {H H' : Hp} {ω : Om} (rp : Rep F H ω) (s : c6 H H') : Rep F H' ω/\Fr F H ω H' ω:=by
  have fr : Fr F H ω H' ω:=⟨fun b o x f e=>⟨s _ _ e,x⟩,fun b f=>by
    obtain ⟨_,o,q⟩:=rp.hid b f
    rw [q,s _ _ q]⟩
  refine ⟨⟨fun l xs e=>?_,fun l ds e=>(rp.frz l ds e).same fr.same,fun b f=>?_,fun l ks e=>(by obtain ⟨vs,e1,e2⟩:=rp.dic l ks e;exact ⟨vs,s _ _ e1,e2.same fr.same⟩)⟩,fr⟩
  · obtain ⟨vs,e1,e2⟩:=rp.own l xs e
    exact ⟨vs,s _ _ e1,e2.same fr.same⟩
  · obtain ⟨x,o,q⟩:=rp.hid b f
    exact ⟨x,o,s _ _ q⟩
def KC : A2:=fun x y ω Q=>∃ xs i a,gu ω x = some xs/\y = .d (.int i)/\atI xs i = some a/\Q a ω
def KJ : A2:=fun x y ω Q=>∃ xs i a,io x = some xs/\y = .d (.int i)/\atI xs i = some a/\Q a ω
theorem RVs.atI {G : Hp} {xs : List AV} {vs : List V} {i : Int} {a : AV} (h : RVs G xs vs) (e : atI xs i = some a) : ∃ v,L2.atI vs i = some v/\RV G a v:=by
  unfold L2.atI at e ⊢
  rw [h.length]
  cases z : ixN xs.length i with
  | none=>rw [z] at e;cases e
  | some j =>
    rw [z] at e
    exact h.get e
theorem Jx {K : PySem.W.Frag} : jN (Ip K) KC:=⟨fun F H ω v u x y Q Q' rp h1 h2 ⟨xs,i,a,e1,e2,e3,q⟩ k=>by
  subst e2
  obtain ⟨l,vs,rfl,q1,q2⟩:=vO rp h1 e1
  obtain ⟨w,z1,z2⟩:=q2.atI e3
  exact ⟨l,vs,i,w,rfl,cj h2,.inl (.inl q1),z1,k a ω w H rp .refl z2 q⟩⟩
theorem JJ {K : PySem.W.Frag} : jN (IJ K) KJ:=⟨fun F H ω v u x y Q Q' rp h1 h2 ⟨xs,i,a,e1,e2,e3,q⟩ k=>by
  subst e2
  obtain ⟨l,vs,rfl,q1,q2⟩:=EE h1 e1
  obtain ⟨w,z1,z2⟩:=q2.atI e3
  exact ⟨l,vs,i,w,rfl,cj h2,.inl (.inl (br _ _ q1)),z1,k a ω w H rp .refl z2 q⟩⟩
def aIx : A2:=fun x y ω Q=>∃ xs i a,(gu ω x = some xs\/io x = some xs)/\y = .d (.int i)/\atI xs i = some a/\Q a ω
theorem aM {K : PySem.W.Frag} : jN (rIx K) aIx:=⟨fun F H ω v u x y Q Q' rp h1 h2 ⟨xs,i,a,e1,e2,e3,q⟩ k=>by
  rcases e1 with e1 | e1
  · exact .inl (Jx.run F H ω v u x y Q Q' rp h1 h2 ⟨xs,i,a,e1,e2,e3,q⟩ k)
  · exact .inr (.inl (JJ.run F H ω v u x y Q Q' rp h1 h2 ⟨xs,i,a,e1,e2,e3,q⟩ k))⟩
def KM (neg : Bool) : A2:=fun x y ω Q=>∃ a,x = .d a/\y = .d .non/\Q (.d (.bl (if neg then !eqD a .non else eqD a .non))) ω
theorem IG {G : Hp} {a : D} {v : V} (h : RV G (.d a) v) : decide (v = .non) = eqD a .non:=by
  cases a<;>simp only [RV,Dat] at h
  all_goals first
    | (subst h;simp [eqD])
    | (obtain ⟨_,_,rfl,_⟩:=h;simp [eqD])
theorem JC : jN (fun x y H Q=>y = .non/\Q (.bl (decide (x = .non))) H) (KM false):=⟨fun F H ω v u x y Q Q' rp h1 h2 ⟨a,e1,e2,q⟩ k=>by
  subst e1 e2;exact ⟨Dm h2,by rw [IG h1];exact k.bl rp q⟩⟩
def Ks (f : Bool->Bool->Bool) : A2:=fun x y ω Q=>∃ a b,x = .d (.bl a)/\y = .d (.bl b)/\Q (.d (.bl (f a b))) ω
theorem EJ {f : Bool->Bool->Bool} : jN (fun x y H Q=>∃ c d,x = .bl c/\y = .bl d/\Q (.bl (f c d)) H) (Ks f):=⟨fun F H ω v u x y Q Q' rp h1 h2 ⟨a,b,e1,e2,q⟩ k=>by
  subst e1 e2;exact ⟨a,b,A3 h1,A3 h2,k.bl rp q⟩⟩
abbrev AC:=List AV->Om->(AV->Om->Prop)->Prop
theorem uP {G : Hp} {a : AV} {vs : List V} (h : RVs G [a] vs) : ∃ v,vs = [v]/\RV G a v:=by
  obtain ⟨v,r,rfl,h1,h2⟩:=h
  cases h2
  exact ⟨v,rfl,h1⟩
theorem Iu {G : Hp} {a b : AV} {vs : List V} (h : RVs G [a,b] vs) : ∃ v u,vs = [v,u]/\RV G a v/\RV G b u:=by
  obtain ⟨v,r,rfl,h1,h2⟩:=h
  obtain ⟨u,rfl,h3⟩:=uP h2
  exact ⟨v,u,rfl,h1,h3⟩
def zM (ω : Om) (x : AV) : Option Nat:=match io x with
  | some xs=>some xs.length
  | none=>(gu ω x).map List.length
def Jv : AC:=fun xs ω Q=>∃ x n,xs = [x]/\zM ω x = some n/\Q (.d (.int n)) ω
theorem mU {K : PySem.W.Frag} : yY (fun xs H Q=>∃ x n,xs = [x]/\FY K x H n/\Q (.int n) H) Jv:=⟨fun F H ω vs xs Q Q' rp rv ⟨x,n,e1,e2,q⟩ k=>by
  subst e1
  obtain ⟨v,rfl,r⟩:=uP rv
  refine ⟨v,n,rfl,?_,k.int rp q⟩
  unfold zM at e2
  cases z : io x with
  | some xs =>
    rw [z] at e2;cases e2
    obtain ⟨a,us,rfl,q1,q2⟩:=EE r z
    exact .inr ⟨us,.inl (.inl (br _ _ q1)),q2.length.symm⟩
  | none =>
    rw [z] at e2
    simp only [Option.map_eq_some_iff] at e2
    obtain ⟨ys,e3,rfl⟩:=e2
    obtain ⟨a,us,rfl,q1,q2⟩:=vO rp r e3
    exact .inl ⟨us,.inl (.inl q1),q2.length.symm⟩⟩
def aF2 (f : Int->Int->Int) : AC:=fun xs ω Q=>∃ i j,xs = [.d (.int i),.d (.int j)]/\Q (.d (.int (f i j))) ω
theorem DP {f : Int->Int->Int} : yY (fun xs H Q=>∃ i j,xs = [.int i,.int j]/\Q (.int (f i j)) H) (aF2 f):=⟨fun F H ω vs xs Q Q' rp rv ⟨i,j,e1,q⟩ k=>by
  subst e1
  obtain ⟨v,u,rfl,r1,r2⟩:=Iu rv
  exact ⟨i,j,by rw [cj r1,cj r2],k.int rp q⟩⟩
def aF1 (f : Int->Int) : AC:=fun xs ω Q=>∃ i,xs = [.d (.int i)]/\Q (.d (.int (f i))) ω
theorem Iv {f : Int->Int} : yY (fun xs H Q=>∃ i,xs = [.int i]/\Q (.int (f i)) H) (aF1 f):=⟨fun F H ω vs xs Q Q' rp rv ⟨i,e1,q⟩ k=>by
  subst e1
  obtain ⟨v,rfl,r1⟩:=uP rv
  exact ⟨i,by rw [cj r1],k.int rp q⟩⟩
def Eu : D->Option Int
  | .int i=>some i
  | .bl k=>some (if k then 1 else 0)
  | _=>none
def Kj : AC:=fun xs ω Q=>∃ d i,xs = [.d d]/\Eu d = some i/\Q (.d (.int i)) ω
theorem As : yY (fun xs H Q=>(∃ i,xs = [.int i]/\Q (.int i) H)\/∃ k,xs = [.bl k]/\Q (.int (if k then 1 else 0)) H) Kj:=⟨fun F H ω vs xs Q Q' rp rv ⟨d,i,e1,e2,q⟩ k=>by
  subst e1
  obtain ⟨v,rfl,r1⟩:=uP rv
  cases d with
  | int j=>simp only [Eu,Option.some.injEq] at e2;subst e2;exact .inl ⟨_,by rw [cj r1],k.int rp q⟩
  | bl j=>simp only [Eu,Option.some.injEq] at e2;subst e2;exact .inr ⟨j,by rw [A3 r1],k.int rp q⟩
  | _=>cases e2⟩
def Em : AC:=fun xs ω Q=>∃ x ds,xs = [x]/\(cM ω x = some (.lst ds)\/x = .d (.tup ds))/\Q (.d (.tup ds)) ω
theorem lq {K : PySem.W.Frag} : yY (fun xs H Q=>∃ p ys,xs = [.ref p]/\((SqL K H p ys/\∀ l,H l = none->Q (.ref l) (upd H l (.tup ys)))\/(SqT K H p ys/\Q (.ref p) H))) Em:=⟨fun F H ω vs xs Q Q' rp rv ⟨x,ds,e1,e2,q⟩ k=>by
  subst e1
  obtain ⟨v,rfl,r1⟩:=uP rv
  rcases e2 with e2 | rfl
  · obtain ⟨a,us,rfl,q1,q2⟩:=iV rp r1 e2
    exact ⟨a,us,rfl,.inl ⟨.inl (.inl q1),k.tup rp q2 q⟩⟩
  · have r2:=r1
    simp only [RV,Dat] at r2
    obtain ⟨a,us,rfl,q1,q2⟩:=r2
    exact ⟨a,us,rfl,.inr ⟨.inl (.inl (br _ _ q1)),k _ ω _ H rp .refl r1 q⟩⟩⟩
def ro (lo : Int) (n : Nat) : List AV:=(List.range n).map fun i=>AV.d (.int (lo + (i : Nat)))
def Du (ta : AA) : AI:=fun ρ ω R=>ta ρ ω fun xs ω1=>∃ j : Int,xs = [.d (.int j)]/\-(2 ^ 62)<=j/\j < 2 ^ 62/\R (ro 0 j.toNat) ω1
def qg (ds es : List D) : List AV:=(ds.zip es).map fun p=>AV.d (.tup [p.1,p.2])
section
variable {te : TE} {te' : AE} {ta : TA} {ta' : AA} {K : PySem.W.Frag}
theorem FI {G : Hp} {ds : List D} {a : Addr} (h : Dat G (.lst ds) (.ref a)) : wK G (ds.map AV.d) (Itl K a):=fun F H ω rp s=>by
  have h2:=h.same s
  simp only [Dat] at h2
  obtain ⟨_,vs,e,ha,hd⟩:=h2
  cases e
  have hq : SqL K H a vs:=.inl (.inl (br _ _ ha))
  have hl:=hd.length
  refine ⟨⟨vs,hq,by simp;omega⟩,fun i x hx=>?_⟩
  obtain ⟨v,e1,e2⟩:=(RVs.dats.mpr hd).get hx
  refine ⟨⟨vs,v,hq,e1⟩,fun y H' hy=>?_⟩
  obtain ⟨rfl,hy⟩:=hy
  have:=hy vs hq
  rw [e1] at this
  cases this
  exact ⟨rp,.refl,e2⟩
theorem II {G : Hp} {ds : List D} {a : Addr} (h : Dat G (.tup ds) (.ref a)) : wK G (ds.map AV.d) (Itt K a):=fun F H ω rp s=>by
  have h2:=h.same s
  simp only [Dat] at h2
  obtain ⟨_,vs,e,ha,hd⟩:=h2
  cases e
  have hq : SqT K H a vs:=.inl (.inl (br _ _ ha))
  have hl:=hd.length
  refine ⟨⟨vs,hq,by simp;omega⟩,fun i x hx=>?_⟩
  obtain ⟨v,e1,e2⟩:=(RVs.dats.mpr hd).get hx
  refine ⟨⟨vs,v,hq,e1⟩,fun y H' hy=>?_⟩
  obtain ⟨rfl,hy⟩:=hy
  have:=hy vs hq
  rw [e1] at this
  cases this
  exact ⟨rp,.refl,e2⟩
theorem tV {G : Hp} {ds : List D} {v : V} (h : Dat G (.lst ds) v) : ∃ a vs,v = .ref a/\G a = some (.lst vs):=by
  simp only [Dat] at h
  obtain ⟨a,vs,e,h,_⟩:=h
  exact ⟨a,vs,e,h⟩
theorem ua {G : Hp} {ds : List D} {v : V} (h : Dat G (.tup ds) v) : ∃ a vs,v = .ref a/\G a = some (.tup vs):=by
  simp only [Dat] at h
  obtain ⟨a,vs,e,h,_⟩:=h
  exact ⟨a,vs,e,h⟩
theorem Jd {G : Hp} {lo : Int} {n : Nat} : wK G (ro lo n) (Itr lo n):=fun F H ω rp s=>by
  refine ⟨by simp [ro,Itr],fun i x hx=>?_⟩
  unfold ro at hx
  rw [List.getElem?_map] at hx
  by_cases hi : i < n
  · rw [List.getElem?_range hi] at hx
    simp only [Option.map_some,Option.some.injEq] at hx
    subst hx
    refine ⟨hi,fun y H' hy=>?_⟩
    obtain ⟨rfl,rfl⟩:=hy
    exact ⟨rp,.refl,by simp [RV,Dat]⟩
  · rw [List.getElem?_eq_none (by simp;omega)] at hx
    cases hx
theorem yC (h : lO ta ta') : wR (G0 ta) (Du ta'):=⟨fun F H ω σ ρ R R' rp rs w k=>h.go rp rs w fun xs ω1 vs H1 rp1 fr1 rs1 rv ⟨j,e,h1,h2,q⟩=>by
  subst e
  obtain ⟨v,rfl,r⟩:=uP rv
  exact ⟨j,by rw [cj r],h1,h2,k _ ω1 _ H1 rp1 fr1 Jd q⟩⟩
theorem IC {F : Fs} {H : Hp} {ω : Om} (rp : Rep F H ω) {T : Addr} (hT : H T = none) {a b : V} {d e : D} (ha : Dat (cut F H ω) d a) (hb : Dat (cut F H ω) e b) :
    Rep F (upd H T (.tup [a,b])) ω/\Fr F H ω (upd H T (.tup [a,b])) ω/\RV (cut F (upd H T (.tup [a,b])) ω) (.d (.tup [d,e])) (.ref T):=by
  obtain ⟨rp2,fr2,hc⟩:=rp.lay (o:=.tup [a,b]) hT
  refine ⟨rp2,fr2,?_⟩
  simp only [RV,Dat,aV]
  exact ⟨T,_,rfl,hc,_,_,rfl,ha.same fr2.same,_,_,rfl,hb.same fr2.same,rfl⟩
theorem ya {ds es : List D} {i : Nat} {x : AV} (h : (qg ds es)[i]? = some x) : ∃ d e,ds[i]? = some d/\es[i]? = some e/\x = .d (.tup [d,e]):=by
  unfold qg at h
  rw [List.getElem?_map,Option.map_eq_some_iff] at h
  obtain ⟨⟨d,e⟩,h1,rfl⟩:=h
  obtain ⟨h1,h2⟩:=List.getElem?_zip_eq_some.mp h1
  exact ⟨d,e,h1,h2,rfl⟩
def wS : D->Option (List D)
  | .tup ds=>some ds
  | .lst ds=>some ds
  | _=>none
theorem IV {G : Hp} {ds es : List D} {a b : Addr} {Sa Sb : Hp->Addr->List V->Prop} (ha : ∀ F H ω,Rep F H ω->c6 G (cut F H ω)->∃ vs,Sa H a vs/\aV (cut F H ω) ds vs)
    (hb : ∀ F H ω,Rep F H ω->c6 G (cut F H ω)->∃ vs,Sb H b vs/\aV (cut F H ω) es vs) : wK G (qg ds es) (Zp Sa Sb a b):=fun F H ω rp s=>by
  obtain ⟨vs,a1,a2⟩:=ha F H ω rp s
  obtain ⟨us,b1,b2⟩:=hb F H ω rp s
  refine ⟨⟨vs,us,a1,b1,by simp [qg,a2.length,b2.length]⟩,fun i x hx=>?_⟩
  obtain ⟨d,e,h1,h2,rfl⟩:=ya hx
  obtain ⟨v,e1,e2⟩:=a2.get h1
  obtain ⟨u,e3,e4⟩:=b2.get h2
  refine ⟨⟨vs,us,v,u,a1,b1,e1,e3⟩,fun y H' hy=>?_⟩
  obtain ⟨T,z1,z2,hT,rfl,rfl,hz⟩:=hy
  obtain ⟨q1,q2⟩:=hz vs us a1 b1
  rw [e1] at q1
  rw [e3] at q2
  cases q1
  cases q2
  exact IC rp hT e2 e4
end
def zS (n : Nat) (t : AGs) : AG:=fun v ρ ω Q=>∃ ds,v = .d (.tup ds)/\ds.length = n/\t (ds.map AV.d) ρ ω Q
section
variable {K : PySem.W.Frag} {n : Nat} {gs : TGs} {gs' : AGs} {to ti : TE} {to' ti' : AE}
theorem jG (h : A9 gs gs') : vX (IA K n gs) (zS n gs'):=⟨fun F H ω σ ρ v a Q Q' rp rs rv ⟨ds,e,hn,q⟩ k=>by
  subst e
  simp only [RV,Dat] at rv
  obtain ⟨b,vs,rfl,h1,h2⟩:=rv
  exact ⟨b,vs,rfl,.inl (.inl (br _ _ h1)),by rw [h2.length];exact hn,h.run F H ω σ ρ vs _ Q Q' rp rs (RVs.dats.mpr h2) q k⟩⟩
end
def gv {α : Type} (xs : List α) (lo hi : Option Int) : List α:=(xs.drop (HT.sIx xs.length 0 lo)).take (HT.sIx xs.length xs.length hi - HT.sIx xs.length 0 lo)
abbrev AO:=SA->Om->(Option Int->Om->Prop)->Prop
def Eo : AO:=fun _ ω Q=>Q none ω
def El (t : AE) : AO:=fun ρ ω Q=>t ρ ω fun x ω1=>∃ i,x = .d (.int i)/\Q (some i) ω1
theorem aV.cut {G : Hp} {ds : List D} {vs : List V} {lo hi : Option Int} (h : aV G ds vs) : aV G (gv ds lo hi) (vi vs lo hi):=by
  unfold gv vi
  rw [h.length]
  exact (h.drop _).take _
section
variable {K : PySem.W.Frag} {te ts : TE} {te' ts' : AE} {tl th : TO} {tl' th' : AO}
theorem rJ : Ref REq Bo Eo:=⟨fun F H ω σ ρ Q Q' rp rs w k=>k none ω none H rp .refl rfl w⟩
theorem rE (h : bB te te') : Ref REq (GI te) (El te'):=⟨fun F H ω σ ρ Q Q' rp rs w k=>h.go rp rs w fun x ω1 v H1 rp1 fr1 rs1 rv ⟨i,e,q⟩=>by
  subst e;exact ⟨i,cj rv,k _ ω1 _ H1 rp1 fr1 rfl q⟩⟩
def Kl (te : AE) : AE:=fun ρ ω Q=>te ρ ω fun x ω1=>∃ ds,cM ω1 x = some (.lst ds)/\Q (.d (.lst ds.reverse)) ω1
theorem aV.rev {G : Hp} : ∀ {ds : List D} {vs : List V},aV G ds vs->aV G ds.reverse vs.reverse
  | [],_,h=>by simp only [aV] at h;subst h;simp [aV]
  | d :: ds,vs,h=>by
    simp only [aV] at h
    obtain ⟨x,r,rfl,h1,h2⟩:=h
    simp only [List.reverse_cons]
    exact h2.rev.append (.one h1)
theorem GY (he : bB te te') : bB (Jl K te (tUn (rU fun i=>.int (-i)) (tC (.int 1)))) (Kl te'):=⟨fun F H ω σ ρ Q Q' rp rs w k =>
  he.go rp rs w fun x ω1 v H1 rp1 fr1 rs1 rv1 ⟨ds,e,q⟩=>⟨1,rfl,rfl,by
    obtain ⟨a,vs,rfl,z1,z2⟩:=iV rp1 rv1 e
    exact ⟨a,vs,rfl,.inl (.inl z1),(k.fr fr1).lst rp1 z2.rev q⟩⟩⟩
end
def lH (to : AE) (t : AA) : AE:=fun ρ ω Q=>to ρ ω fun x ω1=>∃ l,x = .r (.ref l)/\(∃ zs,ω1 l = some (.own zs))/\t ρ ω1 fun ys ω2=>∃ xs y,ys = [y]/\ω2 l = some (.own xs)/\xs.length < sizeLine/\Q (.d .non) (ω2.put l (.own (xs ++ [y])))
def F7 (to : AE) : AE:=fun ρ ω Q=>to ρ ω fun x ω1=>∃ l xs y,x = .r (.ref l)/\ω1 l = some (.own xs)/\xs[xs.length - 1]? = some y/\Q y (ω1.put l (.own xs.dropLast))
section
variable {K : PySem.W.Frag} {to : TE} {to' : AE} {t : TA} {t' : AA}
theorem bI (ho : bB to to') (ht : lO t t') : bB (tBM K "list" AM to t) (lH to' t'):=⟨fun F H ω σ ρ Q Q' rp rs w k =>
  ho.go rp rs w fun x ω1 v H1 rp1 fr1 rs1 rv1 ⟨l,e,⟨zs,hz⟩,q1⟩=>by
    subst e
    cases (show v = .ref l from rv1)
    obtain ⟨us,z1,_⟩:=rp1.own l zs hz
    refine ⟨.inl ⟨rfl,us,.inl (.inl z1)⟩,ht.go rp1 rs1 q1 fun ys ω2 vs H2 rp2 fr2 rs2 rv2 ⟨xs,y,e1,e2,e3,q⟩=>?_⟩
    subst e1
    obtain ⟨u,rfl,r⟩:=uP rv2
    obtain ⟨ws,z3,z4⟩:=rp2.own l xs e2
    obtain ⟨rp3,fr3⟩:=rp2.write e2 (z4.append (.one r))
    exact ⟨l,ws,u,rfl,rfl,z3,by rw [z4.length];exact e3,k _ _ _ _ rp3 ((fr1.trans fr2).trans fr3) (by simp [RV,Dat]) q⟩⟩
theorem lW (ho : bB to to') : bB (JP K "list" JL to) (F7 to'):=⟨fun F H ω σ ρ Q Q' rp rs w k =>
  ho.go rp rs w fun x ω1 v H1 rp1 fr1 rs1 rv1 ⟨l,xs,y,e,hz,hy,q⟩=>by
    subst e
    cases (show v = .ref l from rv1)
    obtain ⟨us,z1,z2⟩:=rp1.own l xs hz
    obtain ⟨u,z3,z4⟩:=z2.get hy
    obtain ⟨rp3,fr3⟩:=rp1.write hz z2.dropLast
    exact ⟨.inl ⟨rfl,us,.inl (.inl z1)⟩,l,us,u,rfl,rfl,z1,by rw [z2.length];exact z3,k y _ u _ rp3 (fr1.trans fr3) (z4.same fr3.same) q⟩⟩
end
def Kx : A2:=fun x y ω Q=>∃ ds es,cM ω x = some (.lst ds)/\cM ω y = some (.lst es)/\ds.length + es.length<=sizeLine/\Q (.d (.lst (ds ++ es))) ω
theorem IQ : jN FZ Kx:=⟨fun F H ω v u x y Q Q' rp h1 h2 ⟨ds,es,e1,e2,z,q⟩ k=>by
  obtain ⟨a,vs,rfl,z1,z2⟩:=iV rp h1 e1
  obtain ⟨b,us,rfl,z3,z4⟩:=iV rp h2 e2
  exact ⟨a,b,vs,us,rfl,rfl,z1,z3,by rw [z2.length,z4.length];exact z,k.lst rp (z2.append z4) q⟩⟩
def C7 : A2:=fun x y ω Q=>∃ ds k,cM ω x = some (.lst ds)/\y = .d (.int k)/\-(2 ^ 63)<=k/\k < 2 ^ 63/\ds.length * k.toNat<=sizeLine/\Q (.d (.lst (List.replicate k.toNat ds).flatten)) ω
theorem aV.rep {G : Hp} {ds : List D} {vs : List V} (h : aV G ds vs) : ∀ n : Nat,aV G (List.replicate n ds).flatten (List.replicate n vs).flatten
  | 0=>by simp [aV]
  | n + 1=>by
    simp only [List.replicate_succ,List.flatten_cons]
    exact h.append (h.rep n)
theorem HB : jN Ft C7:=⟨fun F H ω v u x y Q Q' rp h1 h2 ⟨ds,k',e1,e2,b1,b2,z,q⟩ k=>by
  subst e2
  obtain ⟨a,vs,rfl,z1,z2⟩:=iV rp h1 e1
  exact ⟨a,k',vs,rfl,cj h2,z1,b1,b2,by rw [z2.length];exact z,k.lst rp (z2.rep _) q⟩⟩
section
variable {X : Cx} {tg : Expr}
def rOr (r1 r2 : R2) : R2:=fun x y H Q=>r1 x y H Q\/r2 x y H Q
theorem aW {f : Value->Value->Sem Value} {r1 r2 : R2} (h1 : OpR X f r1) (h2 : OpR X f r2) : OpR X f (rOr r1 r2):=fun pins s σ H x y v u Q I rx ry h=>by
  rcases h with h | h
  · exact h1 pins s σ H x y v u Q I rx ry h
  · exact h2 pins s σ H x y v u Q I rx ry h
def y3 (K : PySem.W.Frag) : V->Option Int->Option Int->Hp->VK->Prop:=fun x lo hi H Q=>JW K x lo hi H Q\/Hk K x lo hi H Q
theorem rX (K : PySem.W.Frag) (hK : X.K = K) : SlR X (y3 K):=by
  subst hK
  intro pins s σ H x v vl vu lo hi sl Q I rx hs pl pu h
  rcases h with h | h
  · exact Go pins s σ H x v vl vu lo hi sl Q I rx hs pl pu h
  · exact FB pins s σ H x v vl vu lo hi sl Q I rx hs pl pu h
def Kr (K : PySem.W.Frag) (tl : TE) : TI:=fun σ H R=>tl σ H fun x H1=>(∃ a,x = .ref a/\(∃ xs,SqL K H1 a xs)/\R (Itl K a) H1)\/∃ a,x = .ref a/\(∃ xs,SqT K H1 a xs)/\R (Itt K a) H1
theorem bY (K : PySem.W.Frag) (hK : X.K = K) {l : Expr} {tl : TE} (hl : PE X l tl) : PI X tg l (Kr K tl):=by
  subst hK
  intro pins s σ H R I h
  refine thn (hl pins s σ H _ I h) fun v s1 ⟨x,H1,I1,r1,q1⟩=>?_
  rcases q1 with q1 | q1
  · obtain ⟨a,e,⟨xs,hq⟩,q⟩:=q1
    subst e
    cases r1
    obtain ⟨its,rv,p,hz⟩:=I1.list hq
    refine wpAny_pyIter_list p.isList ?_
    refine ⟨s1.heap.objs.size,[s1.heap.objs.size],_,_,H1,rfl,I1.kept (t':=s1.toks) fun b o e=>Heap.get?_push_of_some _ e,B3 a _,⟨_,Heap.get?_push_size _ rfl,rfl,rfl⟩,fun b hb=>?_,q⟩
    have e : b = s1.heap.objs.size:=by simpa using hb
    subst e
    exact I1.fpOk (Nat.le_refl _) (I1.hok.fresh (Nat.le_refl _))
  · obtain ⟨a,e,⟨xs,hq⟩,q⟩:=q1
    subst e
    cases r1
    obtain ⟨its,rv,p,hz⟩:=I1.tuple hq
    refine wpAny_pyIter_tuple (show s1.heap.IsTuple a its.toArray from p) ?_
    refine ⟨s1.heap.objs.size,[s1.heap.objs.size],_,_,H1,rfl,I1.kept (t':=s1.toks) fun b o e=>Heap.get?_push_of_some _ e,zh a _,⟨_,Heap.get?_push_size _ rfl,rfl,rfl⟩,fun b hb=>?_,q⟩
    have e : b = s1.heap.objs.size:=by simpa using hb
    subst e
    exact I1.fpOk (Nat.le_refl _) (I1.hok.fresh (Nat.le_refl _))
abbrev ZK:=PySem.W.Frag->Hp->Addr->List V->Prop
def zAt (K : PySem.W.Frag) (Sa Sb : ZK) (vs : List V) (H1 : Hp) (R : It->Hp->Prop) : Prop:=∃ a b,vs = [.ref a,.ref b]/\(∃ xs,Sa K H1 a xs)/\(∃ ys,Sb K H1 b ys)/\R (Zp (Sa K) (Sb K) a b) H1
def He (K : PySem.W.Frag) (ta : TA) : TI:=fun σ H R=>ta σ H fun vs H1=>zAt K SqT SqT vs H1 R\/zAt K SqT SqL vs H1 R\/zAt K SqL SqT vs H1 R\/zAt K SqL SqL vs H1 R
theorem og {c1 c2 : String} {Sa Sb : ZK} {Ia Ib : Heap->Addr->Addr->Nat->Prop} {Isa Isb : Heap->Addr->Array Value->Prop} (k1 : Kd c1 Sa Ia Isa) (k2 : Kd c2 Sb Ib Isb) {pp : Pos} {elts : List Expr} {kk : Nat} {pins : List (Addr × Obj)} {σ : St} {H1 : Hp} {s1 : Shared} {R : It->Hp->Prop} {us : List Value} {vs : List V}
    (I1 : Inv X pins σ H1 s1) (r1 : ba vs us) (q1 : zAt X.K Sa Sb vs H1 R) : wpAny (model X.prog X.w) X.A (call (Value.type "zip") us) (fun v s1=>wpAny (model X.prog X.w) X.A (pyIter v) (PIE X pins σ (.Tuple elts kk pp) R) X.xe s1) X.xe s1:=by
  obtain ⟨l,m,e,⟨xs,hq⟩,⟨ys,hy⟩,q⟩:=q1
  subst e
  cases r1 with
  | cons ra rr =>
    cases rr with
    | cons rb rr =>
      cases rr
      cases ra
      cases rb
      obtain ⟨its,_,pa⟩:=k1.got I1 hq
      obtain ⟨jts,_,pb⟩:=k2.got I1 hy
      refine BO k1 k2 pa pb fun h1 z1 z2 z3 z4 z5 hk=>?_
      refine wpAny_pyIter_zip z1 ⟨_,[s1.heap.objs.size + 4,s1.heap.objs.size + 2,s1.heap.objs.size + 3,s1.heap.objs.size,s1.heap.objs.size + 1],_,_,H1,rfl,I1.kept (t':=s1.toks) hk,
        EY k1 k2 l m (s1.heap.objs.size + 4) (s1.heap.objs.size + 2) (s1.heap.objs.size + 3) s1.heap.objs.size (s1.heap.objs.size + 1) (by simp) (by simp) (by simp) (by simp) (by simp) (by simp) (by simp) (by simp) (by simp) (by simp),⟨z1,z2,⟨_,_,z3⟩,z4,z5⟩,fun c hc=>?_,q⟩
      have hge : s1.heap.objs.size<=c:=by
        rcases (by simpa using hc : c = s1.heap.objs.size + 4\/c = s1.heap.objs.size + 2\/c = s1.heap.objs.size + 3\/c = s1.heap.objs.size\/c = s1.heap.objs.size + 1) with rfl | rfl | rfl | rfl | rfl<;>omega
      exact I1.fpOk hge (I1.hok.fresh hge)
theorem wm (K : PySem.W.Frag) (hK : X.K = K) {a b : Expr} {p pos pp : Pos} {elts : List Expr} {kk : Nat} {ta : TA} (hg : Gl X "zip") (hm : X.mg "zip" = none) (ha : PA X [a,b] ta)
    (hs : starEach [a,b] X.env = [(false,eval a X.env),(false,eval b X.env)]:=by rfl) (hs2 : starEach [b] X.env = [(false,eval b X.env)]:=by rfl) : PI X (.Tuple elts kk pp) (.Call (.Name "zip" p) [a,b] [] pos) (He K ta):=by
  subst hK
  intro pins s σ H R I h
  refine Call_ (pf I hg hm PyProof.Rows.boot_zip (PyProof.Rows.callWith_type1 (thn (ha pos pins s σ H _ I h) fun us s1 ⟨vs,H1,I1,r1,q1⟩=>?_) (by rw [hs,hs2]) (by rw [hs2];rfl)))
  rcases q1 with q | q | q | q
  · exact og kdT kdT I1 r1 q
  · exact og kdT kdL I1 r1 q
  · exact og kdL kdT I1 r1 q
  · exact og kdL kdL I1 r1 q
def JB (K : PySem.W.Frag) (ta tb : TE) : TE:=fun σ H Q=>ta σ H fun x H1=>∃ c,w6 K x H1 c/\if c = true then Q x H1 else tb σ H1 Q
def HA (K : PySem.W.Frag) (ta tb : TE) : TE:=fun σ H Q=>ta σ H fun x H1=>∃ c,w6 K x H1 c/\if c = true then tb σ H1 Q else Q x H1
variable {a b : Expr} {bv : List Expr} {pos : Pos} {ta tb : TE}
theorem HG (K : PySem.W.Frag) (hK : X.K = K) (ha : PE X a ta) (hb : PE X (.BoolOp .Or (b :: bv) pos) tb) : PE X (.BoolOp .Or (a :: b :: bv) pos) (JB K ta tb):=.mk <| by
  subst hK
  intro pins s σ H Q I h
  refine BoolOp_or (thn (ha pins s σ H _ I h) fun v s1 ⟨x,H1,I1,r1,q1⟩=>?_)
  refine thn (yE pins s1 σ H1 x v (fun c H2=>H2 = H1/\if c = true then Q x H1 else tb σ H1 Q) I1 r1 ?_) fun c s2 ⟨H2,I2,e,q2⟩=>?_
  · obtain ⟨c,hc,q⟩:=q1
    exact ⟨c,hc,rfl,q⟩
  · subst e
    cases c with
    | false=>rw [if_neg Bool.false_ne_true] at q2;exact hb pins s2 σ H2 Q I2 q2
    | true=>rw [if_pos rfl] at q2;exact ⟨x,H2,I2,r1,q2⟩
theorem m7 (K : PySem.W.Frag) (hK : X.K = K) (ha : PE X a ta) (hb : PE X (.BoolOp .And (b :: bv) pos) tb) : PE X (.BoolOp .And (a :: b :: bv) pos) (HA K ta tb):=.mk <| by
  subst hK
  intro pins s σ H Q I h
  refine BoolOp_and (thn (ha pins s σ H _ I h) fun v s1 ⟨x,H1,I1,r1,q1⟩=>?_)
  refine thn (yE pins s1 σ H1 x v (fun c H2=>H2 = H1/\if c = true then tb σ H1 Q else Q x H1) I1 r1 ?_) fun c s2 ⟨H2,I2,e,q2⟩=>?_
  · obtain ⟨c,hc,q⟩:=q1
    exact ⟨c,hc,rfl,q⟩
  · subst e
    cases c with
    | true=>rw [if_pos rfl] at q2;exact hb pins s2 σ H2 Q I2 q2
    | false=>rw [if_neg Bool.false_ne_true] at q2;exact ⟨x,H2,I2,r1,q2⟩
end
def Km (ta tb : AE) : AE:=fun ρ ω Q=>ta ρ ω fun x ω1=>∃ c,jY ω1 x = some c/\if c = true then Q x ω1 else tb ρ ω1 Q
def GE (ta tb : AE) : AE:=fun ρ ω Q=>ta ρ ω fun x ω1=>∃ c,jY ω1 x = some c/\if c = true then tb ρ ω1 Q else Q x ω1
def aSl (te : AE) (tl th : AO) : AE:=fun ρ ω Q=>te ρ ω fun x ω1=>tl ρ ω1 fun lo ω2=>th ρ ω2 fun hi ω3=>match x with
  | .d (.tup ds)=>Q (.d (.tup (gv ds lo hi))) ω3
  | x=>∃ ds,cM ω3 x = some (.lst ds)/\Q (.d (.lst (gv ds lo hi))) ω3
def GV (te : AE) : AI:=fun ρ ω R=>te ρ ω fun x ω1=>qe ω1 x fun d ω2=>∃ ds,wS d = some ds/\R (ds.map AV.d) ω2
def Hx (ta : AA) : AI:=fun ρ ω R=>ta ρ ω fun xs ω1=>∃ x y,xs = [x,y]/\qe ω1 x fun d ω2=>qe ω2 y fun e ω3=>∃ ds es,wS d = some ds/\wS e = some es/\R (qg ds es) ω3
def Ci : A2:=fun x y ω Q=>match x with
  | .d (.int i)=>∃ j,y = .d (.int j)/\Q (.d (.int (i + j))) ω
  | .d (.tup ds)=>∃ es,y = .d (.tup es)/\ds.length + es.length<=sizeLine/\Q (.d (.tup (ds ++ es))) ω
  | x=>∃ ds es,cM ω x = some (.lst ds)/\cM ω y = some (.lst es)/\ds.length + es.length<=sizeLine/\Q (.d (.lst (ds ++ es))) ω
def Js : A2:=fun x y ω Q=>match x with
  | .d (.int i)=>∃ j,y = .d (.int j)/\tm i j/\Q (.d (.int (i * j))) ω
  | x=>C7 x y ω Q
section
variable {K : PySem.W.Frag} {te ta tb : TE} {te' ta' tb' : AE} {tl th : TO} {tl' th' : AO} {sa : TA} {sa' : AA}
theorem JN (ha : bB ta ta') (hb : bB tb tb') : bB (JB K ta tb) (Km ta' tb'):=⟨fun F H ω σ ρ Q Q' rp rs h k =>
  ha.go rp rs h fun x ω1 v H1 rp1 fr1 rs1 rv1 ⟨c,e,q⟩=>⟨c,yJ rp1 rv1 e,by
    cases c with
    | true=>rw [if_pos rfl] at q ⊢;exact k x ω1 v H1 rp1 fr1 rv1 q
    | false=>rw [if_neg Bool.false_ne_true] at q ⊢;exact hb.run F H1 ω1 σ ρ Q Q' rp1 rs1 q (k.fr fr1)⟩⟩
theorem r9 (ha : bB ta ta') (hb : bB tb tb') : bB (HA K ta tb) (GE ta' tb'):=⟨fun F H ω σ ρ Q Q' rp rs h k =>
  ha.go rp rs h fun x ω1 v H1 rp1 fr1 rs1 rv1 ⟨c,e,q⟩=>⟨c,yJ rp1 rv1 e,by
    cases c with
    | false=>rw [if_neg Bool.false_ne_true] at q ⊢;exact k x ω1 v H1 rp1 fr1 rv1 q
    | true=>rw [if_pos rfl] at q ⊢;exact hb.run F H1 ω1 σ ρ Q Q' rp1 rs1 q (k.fr fr1)⟩⟩
theorem CF (he : bB te te') (hl : Ref REq tl tl') (hh : Ref REq th th') : bB (tSl (y3 K) te tl th) (aSl te' tl' th'):=⟨fun F H ω σ ρ Q Q' rp rs w k =>
  he.go rp rs w fun x ω1 v H1 rp1 fr1 rs1 rv1 q1=>hl.go rp1 rs1 q1 fun lo ω2 lo' H2 rp2 fr2 rs2 e2 q2=>hh.go rp2 rs2 q2 fun hi ω3 hi' H3 rp3 fr3 rs3 e3 q=>by
    cases (show lo = lo' from e2)
    cases (show hi = hi' from e3)
    have r:=rv1.same (fr2.trans fr3).same
    have k3:=k.fr ((fr1.trans fr2).trans fr3)
    have ls : (∃ ds,cM ω3 x = some (.lst ds)/\Q' (.d (.lst (gv ds lo hi))) ω3)->y3 K v lo hi H3 Q:=fun ⟨ds,e,q⟩=>by
      obtain ⟨a,vs,rfl,z1,z2⟩:=iV rp3 r e
      exact .inl ⟨a,vs,rfl,.inl (.inl z1),k3.lst rp3 z2.cut q⟩
    cases x with
    | d x=>cases x with
      | tup ds =>
        refine .inr ?_
        have r':=r
        simp only [RV,Dat] at r
        obtain ⟨a,vs,rfl,z1,z2⟩:=r
        refine ⟨a,vs,rfl,.inl (.inl (br _ _ z1)),?_⟩
        by_cases hw : HT.sIx vs.length 0 lo = 0/\HT.sIx vs.length vs.length hi = vs.length
        · rw [if_pos hw]
          have : gv ds lo hi = ds:=by
            unfold gv
            rw [← z2.length,hw.1,hw.2,List.drop_zero,Nat.sub_zero,z2.length,List.take_length]
          replace q : Q' (.d (.tup (gv ds lo hi))) ω3:=q
          rw [this] at q
          exact k3 _ ω3 _ H3 rp3 .refl r' q
        · rw [if_neg hw]
          exact k3.tup rp3 z2.cut q
      | _=>exact ls q
    | _=>exact ls q⟩
theorem dk (h : bB te te') : wR (Kr K te) (GV te'):=⟨fun F H ω σ ρ R R' rp rs w k=>h.go rp rs w fun x ω1 v H1 rp1 fr1 rs1 rv q=>by
  obtain ⟨d,ω2,rp2,fr2,hd,ds,hs,q2⟩:=uY rp1 rv q
  cases d with
  | lst es =>
    cases hs
    obtain ⟨a,vs,rfl,ha⟩:=tV hd
    exact .inl ⟨a,rfl,⟨vs,.inl (.inl (br _ _ ha))⟩,k _ ω2 _ H1 rp2 (fr1.trans fr2) (FI hd) q2⟩
  | tup es =>
    cases hs
    obtain ⟨a,vs,rfl,ha⟩:=ua hd
    exact .inr ⟨a,rfl,⟨vs,.inl (.inl (br _ _ ha))⟩,k _ ω2 _ H1 rp2 (fr1.trans fr2) (II hd) q2⟩
  | _=>cases hs⟩
theorem FD {G : Hp} {ds : List D} {v : V} (h : Dat G (.lst ds) v) : ∃ a,v = .ref a/\∀ F H ω,Rep F H ω->c6 G (cut F H ω)->∃ vs,SqL K H a vs/\aV (cut F H ω) ds vs:=by
  obtain ⟨a,_,rfl,_⟩:=tV h
  refine ⟨a,rfl,fun F H ω rp s=>?_⟩
  have h2:=h.same s
  simp only [Dat] at h2
  obtain ⟨_,vs,e,ha,hd⟩:=h2
  cases e
  exact ⟨vs,.inl (.inl (br _ _ ha)),hd⟩
theorem FE {G : Hp} {ds : List D} {v : V} (h : Dat G (.tup ds) v) : ∃ a,v = .ref a/\∀ F H ω,Rep F H ω->c6 G (cut F H ω)->∃ vs,SqT K H a vs/\aV (cut F H ω) ds vs:=by
  obtain ⟨a,_,rfl,_⟩:=ua h
  refine ⟨a,rfl,fun F H ω rp s=>?_⟩
  have h2:=h.same s
  simp only [Dat] at h2
  obtain ⟨_,vs,e,ha,hd⟩:=h2
  cases e
  exact ⟨vs,.inl (.inl (br _ _ ha)),hd⟩
theorem FX {F : Fs} {H1 : Hp} {ω3 : Om} {Sa Sb : ZK} {ds es : List D} {v u : V} {R : It->Hp->Prop} {R' : List AV->Om->Prop} (rp3 : Rep F H1 ω3) (k : LP wK F H1 ω3 R' R) (h1 : ∃ a,v = .ref a/\∀ F' H ω,Rep F' H ω->c6 (cut F H1 ω3) (cut F' H ω)->∃ vs,Sa K H a vs/\aV (cut F' H ω) ds vs)
    (h2 : ∃ a,u = .ref a/\∀ F' H ω,Rep F' H ω->c6 (cut F H1 ω3) (cut F' H ω)->∃ vs,Sb K H a vs/\aV (cut F' H ω) es vs) (q : R' (qg ds es) ω3) : zAt K Sa Sb [v,u] H1 R:=by
  obtain ⟨a,rfl,ha⟩:=h1
  obtain ⟨b,rfl,hb⟩:=h2
  obtain ⟨vs,e1,_⟩:=ha F H1 ω3 rp3 (c6.refl _)
  obtain ⟨us,e2,_⟩:=hb F H1 ω3 rp3 (c6.refl _)
  exact ⟨a,b,rfl,⟨vs,e1⟩,⟨us,e2⟩,k _ ω3 _ H1 rp3 .refl (IV ha hb) q⟩
theorem D5 (h : lO sa sa') : wR (He K sa) (Hx sa'):=⟨fun F H ω σ ρ R R' rp rs w k=>h.go rp rs w fun xs ω1 vs H1 rp1 fr1 rs1 rv ⟨x,y,e,q⟩=>by
  subst e
  obtain ⟨v,u,rfl,r1,r2⟩:=Iu rv
  obtain ⟨d,ω2,rp2,fr2,hd,q⟩:=uY rp1 r1 q
  obtain ⟨e,ω3,rp3,fr3,he,ds,es,hs,ht,qz⟩:=uY rp2 (r2.same fr2.same) q
  have hd3:=hd.same fr3.same
  have k3:=k.fr ((fr1.trans fr2).trans fr3)
  cases d with
  | tup d1 =>
    cases hs
    cases e with
    | tup e1=>cases ht;exact .inl (FX rp3 k3 (FE hd3) (FE he) qz)
    | lst e1=>cases ht;exact .inr (.inl (FX rp3 k3 (FE hd3) (FD he) qz))
    | _=>cases ht
  | lst d1 =>
    cases hs
    cases e with
    | tup e1=>cases ht;exact .inr (.inr (.inl (FX rp3 k3 (FD hd3) (FE he) qz)))
    | lst e1=>cases ht;exact .inr (.inr (.inr (FX rp3 k3 (FD hd3) (FD he) qz)))
    | _=>cases ht
  | _=>cases hs⟩
theorem eD : jN (rOr (rI0 fun i j=>.int (i + j)) (rOr Ao FZ)) Ci:=⟨fun F H ω v u x y Q Q' rp h1 h2 q k=>by
  have ls : (∃ ds es,cM ω x = some (.lst ds)/\cM ω y = some (.lst es)/\ds.length + es.length<=sizeLine/\Q' (.d (.lst (ds ++ es))) ω)->rOr (rI0 fun i j=>.int (i + j)) (rOr Ao FZ) v u H Q:=fun q =>
    .inr (.inr (IQ.run F H ω v u x y Q Q' rp h1 h2 q k))
  cases x with
  | d x=>cases x with
    | int i =>
      obtain ⟨j,rfl,q⟩:=q
      exact .inl ⟨i,j,cj h1,cj h2,k.int rp q⟩
    | tup ds =>
      obtain ⟨es,rfl,z,q⟩:=q
      exact .inr (.inl (Iq.run F H ω v u _ _ Q Q' rp h1 h2 ⟨ds,es,rfl,rfl,z,q⟩ k))
    | _=>exact ls q
  | _=>exact ls q⟩
theorem tK : jN (rOr (rI tm fun i j=>.int (i * j)) Ft) Js:=⟨fun F H ω v u x y Q Q' rp h1 h2 q k=>by
  have ls : C7 x y ω Q'->rOr (rI tm fun i j=>.int (i * j)) Ft v u H Q:=fun q=>.inr (HB.run F H ω v u x y Q Q' rp h1 h2 q k)
  cases x with
  | d x=>cases x with
    | int i =>
      obtain ⟨j,rfl,c,q⟩:=q
      exact .inl ⟨i,j,cj h1,cj h2,c,k.int rp q⟩
    | _=>exact ls q
  | _=>exact ls q⟩
end
def vD : V->Option D
  | .non=>some .non
  | .bl b=>some (.bl b)
  | .int i=>some (.int i)
  | .str x=>some (.str x)
  | _=>none
def Hl (kvs : List (Str × V)) (ty : AE) : AE:=fun ρ ω Q=>ty ρ ω fun y ω1=>∃ x v d,y = .d (.str x)/\yH kvs x = some v/\vD v = some d/\Q (.d d) ω1
theorem Jh {kvs : List (Str × V)} {a : Addr} {ty : TE} {ty' : AE} (h : bB ty ty') : bB (G6 kvs (tC (.ref a)) ty) (Hl kvs ty'):=⟨fun F H ω σ ρ Q Q' rp rs w k=>h.go rp rs w fun y ω1 u H1 rp1 fr1 rs1 rv ⟨x,v,d,e1,e2,e3,q⟩=>by
  subst e1
  refine ⟨x,v,vj rv,e2,?_⟩
  refine k (.d d) ω1 v H1 rp1 fr1 ?_ q
  cases v<;>simp only [vD,Option.some.injEq,reduceCtorEq] at e3
  all_goals (subst e3;simp [RV,Dat])⟩
def jo (N : List Str) (xs : List AV) : SA:=xs.map some ++ List.replicate (N.length - xs.length) none
theorem RS.start {G : Hp} {N : List Str} {xs : List AV} {vs : List V} (h : RVs G xs vs) : RS G (jo N xs) (start N vs):=by
  refine ⟨by simp [jo,L2.start,h.length],fun i a e=>?_⟩
  unfold jo at e
  unfold L2.start
  by_cases hi : i < xs.length
  · rw [List.getElem?_append_left (by simpa using hi),List.getElem?_map] at e
    rw [List.getElem?_append_left (by simpa [h.length] using hi),List.getElem?_map]
    cases z : xs[i]? with
    | none=>rw [z] at e;simp at e
    | some b =>
      rw [z] at e
      simp at e
      subst e
      obtain ⟨v,e1,e2⟩:=h.get z
      exact ⟨v,by rw [e1];rfl,e2⟩
  · rw [List.getElem?_append_right (by simpa using hi)] at e
    have:=List.mem_of_getElem? e
    rw [List.mem_replicate] at this
    cases this.2
theorem Fun.okA {P : Program} {w : World} {K : PySem.W.Frag} {mg : Str->Option Value} {base : Heap} {x qual : Str} {st : Stmt} {f : Addr} {fd : FuncData} {N ps : List Str} {k : Nat} {sp : ASp} (F : Fun K x qual st f fd) (S : aH N ps (defScope st)) (len : ∀ xs ω Q,sp xs ω Q->xs.length = ps.length)
    (hbody : ∀ (cdv : Value) (A : Around) (outer : List Env) (s : Shared) (H : Hp) (E : XK),dN k (A.deeper (envOfC qual (defScope st) s.heap.objs.size f cdv)) ->
      ∃ t t',PSs (kE CX0 P w K mg base N qual (defScope st) f cdv A outer s H E).nox (defBody st) t/\fI t t'/\∀ xs ω Q',sp xs ω Q'->t' { nx:=fun _ ω'=>Q' (.d .non) ω',rt:=Q' } (jo N xs) ω) : aJ P w K mg base CX0 (k + 1) f fd ps (aN sp):=by
  refine F.ok S (fun vs H Q E h=>?_) (fun cdv A outer s H vs Q E hr h=>?_)
  · obtain ⟨F,xs,ω,Q',rp,rv,h,_⟩:=h
    rw [rv.length,len xs ω Q' h]
  · obtain ⟨t,t',h1,h2,h3⟩:=hbody cdv A outer s H E hr
    obtain ⟨F,xs,ω,Q',rp,rv,h,kq⟩:=h
    refine ⟨t,h1,h2.run F H ω _ _ _ _ rp (RS.start rv) (h3 xs ω Q' h) ⟨?_,kq,fun _ _ _ _ _ _ _ z=>z.elim,fun _ _ _ _ _ _ _ z=>z.elim⟩⟩
    exact fun ρ' ω' σ' H' e1 e2 e3 q=>kq (.d .non) ω' .non H' e1 e2 (by simp [RV,Dat]) q
theorem q9 (D : bK) (ρ : SA) (ω : Om) : Ew D ρ ω = (D.nx ρ ω):=rfl
theorem m5 (t u : AS) (D : bK) (ρ : SA) (ω : Om) : Cn t u D ρ ω = (t { D with nx:=u D } ρ ω):=rfl
theorem wO (D : bK) (ρ : SA) (ω : Om) : Hq D ρ ω = (D.ct ρ ω):=rfl
theorem wG (te : AE) (D : bK) (ρ : SA) (ω : Om) : ue te D ρ ω = (te ρ ω fun _ ω1=>D.nx ρ ω1):=rfl
theorem BC (te : AE) (D : bK) (ρ : SA) (ω : Om) : Gp te D ρ ω = (te ρ ω D.rt):=rfl
theorem Bi (c : AT) (t u : AS) (D : bK) (ρ : SA) (ω : Om) : EM c t u D ρ ω = (c ρ ω fun b ω1=>if b = true then t D ρ ω1 else u D ρ ω1):=rfl
theorem zO (te : AE) (g : AG) (D : bK) (ρ : SA) (ω : Om) : Ir te g D ρ ω = (te ρ ω fun x ω1=>g x ρ ω1 D.nx):=rfl
theorem gf (i : Nat) (v : AV) (ρ : SA) (ω : Om) (Q : SA->Om->Prop) : eK i v ρ ω Q = (Q (ρ.set i (some v)) ω):=rfl
theorem xa (vs : List AV) (ρ : SA) (ω : Om) (Q : SA->Om->Prop) : Ah vs ρ ω Q = (vs = []/\Q ρ ω):=rfl
theorem uI (t : AG) (u : AGs) (vs : List AV) (ρ : SA) (ω : Om) (Q : SA->Om->Prop) : pr t u vs ρ ω Q = (∃ v r,vs = v :: r/\t v ρ ω fun ρ' ω'=>u r ρ' ω' Q):=rfl
theorem AR (wi : AI) (g : AG) (tb : AS) (D : bK) (ρ : SA) (ω : Om) : JF wi g tb D ρ ω = (wi ρ ω fun as ω1=>gD g tb D as ρ ω1):=rfl
theorem mn (z0 : SA) (ω : Om) (Q : Bool->Om->Prop) : nC z0 ω Q = (Q true ω):=rfl
theorem iD (te : AE) (xs : List AV) (ρ : SA) (ω : Om) (K : List AV->SA->Om->Prop) : ig te xs ρ ω K = (te ρ ω fun y ω1=>xs.length < sizeLine/\K (xs ++ [y]) ρ ω1):=rfl
theorem w4 (wi : AI) (g : AG) (tc : AT) (l : AL) (xs : List AV) (ρ : SA) (ω : Om) (K : List AV->SA->Om->Prop) : GJ wi g tc l xs ρ ω K = (wi ρ ω fun as ω1=>dj g tc l as xs ρ ω1 K):=rfl
theorem Bx (i : Nat) (ρ : SA) (ω : Om) (Q : AV->Om->Prop) : cV i ρ ω Q = (∃ a,ρ[i]? = some (some a)/\Q a ω):=rfl
theorem wE (i : Nat) (ρ : SA) (ω : Om) (Q : AV->Om->Prop) : Hz i ρ ω Q = (∃ a,ρ[i]? = some (some a)/\qe ω a fun d ω'=>Q (.d d) ω'):=rfl
theorem GS (d : D) (z0 : SA) (ω : Om) (Q : AV->Om->Prop) : aC d z0 ω Q = (Q (.d d) ω):=rfl
theorem C3 (r : A2) (ta tb : AE) (ρ : SA) (ω : Om) (Q : AV->Om->Prop) : aOp r ta tb ρ ω Q = (ta ρ ω fun x ω1=>tb ρ ω1 fun y ω2=>r x y ω2 Q):=rfl
theorem Al (z0 : SA) (ω : Om) (Q : List AV->Om->Prop) : ss z0 ω Q = (Q [] ω):=rfl
theorem xD (ta : AE) (tr : AA) (ρ : SA) (ω : Om) (Q : List AV->Om->Prop) : dt ta tr ρ ω Q = (ta ρ ω fun x ω1=>tr ρ ω1 fun xs ω2=>Q (x :: xs) ω2):=rfl
theorem Bm (t : AA) (ρ : SA) (ω : Om) (Q : AV->Om->Prop) : J2 t ρ ω Q = (t ρ ω fun xs ω1=>xs.length<=sizeLine/\∃ ds,und xs = some ds/\Q (.d (.tup ds)) ω1):=rfl
theorem At (t : AA) (ρ : SA) (ω : Om) (Q : AV->Om->Prop) : Kv t ρ ω Q = (t ρ ω fun xs ω1=>xs.length<=sizeLine/\∃ ds,und xs = some ds/\Q (.d (.lst ds)) ω1):=rfl
theorem xK (t : AA) (ρ : SA) (ω : Om) (Q : AV->Om->Prop) : GG t ρ ω Q = (t ρ ω fun xs ω1=>xs.length<=sizeLine/\∀ p,ω1 p = none->Q (.r (.ref p)) (ω1.put p (.own xs))):=rfl
theorem wY (sp : ASp) (t : AA) (ρ : SA) (ω : Om) (Q : AV->Om->Prop) : xk sp t ρ ω Q = (t ρ ω fun xs ω1=>sp xs ω1 Q):=rfl
theorem xc (t : AE) (ρ : SA) (ω : Om) (Q : Bool->Om->Prop) : ux t ρ ω Q = (t ρ ω fun x ω1=>∃ k,x = .d (.bl k)/\Q k ω1):=rfl
theorem zT (t u : AT) (ρ : SA) (ω : Om) (Q : Bool->Om->Prop) : J8 t u ρ ω Q = (t ρ ω fun c ω1=>if c = true then u ρ ω1 Q else Q false ω1):=rfl
theorem DK (t u : AT) (ρ : SA) (ω : Om) (Q : Bool->Om->Prop) : aOr t u ρ ω Q = (t ρ ω fun c ω1=>if c = true then Q true ω1 else u ρ ω1 Q):=rfl
theorem AX (t : AT) (ρ : SA) (ω : Om) (Q : Bool->Om->Prop) : HN t ρ ω Q = (t ρ ω fun c ω1=>Q (!c) ω1):=rfl
theorem EB (t : AT) (ta tb : AE) (ρ : SA) (ω : Om) (Q : AV->Om->Prop) : aIf t ta tb ρ ω Q = (t ρ ω fun c ω1=>if c = true then ta ρ ω1 Q else tb ρ ω1 Q):=rfl
theorem zV (ta : AE) (ρ : SA) (ω : Om) (Q : Bool->Om->Prop) : EL ta ρ ω Q = (ta ρ ω fun x ω1=>∃ k,jY ω1 x = some k/\Q k ω1):=rfl
theorem D9 (f : Int->Int->D) (x : AV) (y : AV) (ω : Om) (Q : AV->Om->Prop) : aI0 f x y ω Q = (∃ i j,x = .d (.int i)/\y = .d (.int j)/\Q (.d (f i j)) ω):=rfl
theorem Hw (C : Int->Int->Prop) (f : Int->Int->D) (x : AV) (y : AV) (ω : Om) (Q : AV->Om->Prop) : aI C f x y ω Q = (∃ i j,x = .d (.int i)/\y = .d (.int j)/\C i j/\Q (.d (f i j)) ω):=rfl
theorem Bl (neg : Bool) (x : AV) (y : AV) (ω : Om) (Q : AV->Om->Prop) : Dl neg x y ω Q = (∃ a b,cM ω x = some a/\cM ω y = some b/\dep a<=100/\Q (.d (.bl (if neg then !eqD a b else eqD a b))) ω):=rfl
theorem De (neg : Bool) (x : AV) (y : AV) (ω : Om) (Q : AV->Om->Prop) : aIn neg x y ω Q = (∃ a b ds,cM ω x = some a/\cM ω y = some b/\(b = .lst ds\/b = .tup ds)/\gq ds<=90/\Q (.d (.bl (if neg then !inD a ds else inD a ds))) ω):=rfl
theorem DB (x : AV) (y : AV) (ω : Om) (Q : AV->Om->Prop) : aIx x y ω Q = (∃ xs i a,(gu ω x = some xs\/io x = some xs)/\y = .d (.int i)/\atI xs i = some a/\Q a ω):=rfl
theorem Ad (f : Bool->Bool->Bool) (x : AV) (y : AV) (ω : Om) (Q : AV->Om->Prop) : Ks f x y ω Q = (∃ a b,x = .d (.bl a)/\y = .d (.bl b)/\Q (.d (.bl (f a b))) ω):=rfl
theorem By (xs : List AV) (ω : Om) (Q : AV->Om->Prop) : Jv xs ω Q = (∃ x n,xs = [x]/\zM ω x = some n/\Q (.d (.int n)) ω):=rfl
theorem E1 (f : Int->Int->Int) (xs : List AV) (ω : Om) (Q : AV->Om->Prop) : aF2 f xs ω Q = (∃ i j,xs = [.d (.int i),.d (.int j)]/\Q (.d (.int (f i j))) ω):=rfl
theorem EH (f : Int->Int) (xs : List AV) (ω : Om) (Q : AV->Om->Prop) : aF1 f xs ω Q = (∃ i,xs = [.d (.int i)]/\Q (.d (.int (f i))) ω):=rfl
theorem A8 (xs : List AV) (ω : Om) (Q : AV->Om->Prop) : Kj xs ω Q = (∃ d i,xs = [.d d]/\Eu d = some i/\Q (.d (.int i)) ω):=rfl
theorem uu (xs : List AV) (ω : Om) (Q : AV->Om->Prop) : Em xs ω Q = (∃ x ds,xs = [x]/\(cM ω x = some (.lst ds)\/x = .d (.tup ds))/\Q (.d (.tup ds)) ω):=rfl
theorem tR (ta : AA) (ρ : SA) (ω : Om) (R : List AV->Om->Prop) : Du ta ρ ω R = (ta ρ ω fun xs ω1=>∃ j : Int,xs = [.d (.int j)]/\-(2 ^ 62)<=j/\j < 2 ^ 62/\R (ro 0 j.toNat) ω1):=rfl
theorem xE (n : Nat) (t : AGs) (v : AV) (ρ : SA) (ω : Om) (Q : SA->Om->Prop) : zS n t v ρ ω Q = (∃ ds,v = .d (.tup ds)/\ds.length = n/\t (ds.map AV.d) ρ ω Q):=rfl
theorem tZ (z0 : SA) (ω : Om) (Q : Option Int->Om->Prop) : Eo z0 ω Q = (Q none ω):=rfl
theorem tJ (t : AE) (ρ : SA) (ω : Om) (Q : Option Int->Om->Prop) : El t ρ ω Q = (t ρ ω fun x ω1=>∃ i,x = .d (.int i)/\Q (some i) ω1):=rfl
theorem Bz (te : AE) (ρ : SA) (ω : Om) (Q : AV->Om->Prop) : Kl te ρ ω Q = (te ρ ω fun x ω1=>∃ ds,cM ω1 x = some (.lst ds)/\Q (.d (.lst ds.reverse)) ω1):=rfl
theorem qK (to : AE) (t : AA) (ρ : SA) (ω : Om) (Q : AV->Om->Prop) : lH to t ρ ω Q = (to ρ ω fun x ω1=>∃ l,x = .r (.ref l)/\(∃ zs,ω1 l = some (.own zs))/\t ρ ω1 fun ys ω2=>∃ xs y,ys = [y]/\ω2 l = some (.own xs)/\xs.length < sizeLine/\Q (.d .non) (ω2.put l (.own (xs ++ [y])))):=rfl
theorem Bq (ta tb : AE) (ρ : SA) (ω : Om) (Q : AV->Om->Prop) : Km ta tb ρ ω Q = (ta ρ ω fun x ω1=>∃ c,jY ω1 x = some c/\if c = true then Q x ω1 else tb ρ ω1 Q):=rfl
theorem xp (ta tb : AE) (ρ : SA) (ω : Om) (Q : AV->Om->Prop) : GE ta tb ρ ω Q = (ta ρ ω fun x ω1=>∃ c,jY ω1 x = some c/\if c = true then tb ρ ω1 Q else Q x ω1):=rfl
theorem xt (te : AE) (ρ : SA) (ω : Om) (R : List AV->Om->Prop) : GV te ρ ω R = (te ρ ω fun x ω1=>qe ω1 x fun d ω2=>∃ ds,wS d = some ds/\R (ds.map AV.d) ω2):=rfl
theorem wW (ta : AA) (ρ : SA) (ω : Om) (R : List AV->Om->Prop) : Hx ta ρ ω R = (ta ρ ω fun xs ω1=>∃ x y,xs = [x,y]/\qe ω1 x fun d ω2=>qe ω2 y fun e ω3=>∃ ds es,wS d = some ds/\wS e = some es/\R (qg ds es) ω3):=rfl
theorem yn (src : List (Option Nat)) (wi : AI) (g : AG) (tc : AT) (l : AL) (ρ : SA) (ω : Om) (Q : AV->Om->Prop) : Hi src wi g tc l ρ ω Q = (wi ρ ω fun as ω1=>dj g tc l as [] (xO src ρ) ω1 fun xs _ ω'=>∃ ds,und xs = some ds/\Q (.d (.lst ds)) ω'):=rfl
theorem ED (r : List AV->Om->(AV->Om->Prop)->Prop) (t : AA) (ρ : SA) (ω : Om) (Q : AV->Om->Prop) : aCB r t ρ ω Q = (t ρ ω fun xs ω1=>r xs ω1 Q):=rfl
theorem yp (kvs : List (Str × V)) (ty : AE) (ρ : SA) (ω : Om) (Q : AV->Om->Prop) : Hl kvs ty ρ ω Q = (ty ρ ω fun y ω1=>∃ x v d,y = .d (.str x)/\yH kvs x = some v/\vD v = some d/\Q (.d d) ω1):=rfl
theorem xb (i : Int) (y : AV) (ω : Om) (Q : AV->Om->Prop) : Ci (.d (.int i)) y ω Q = (∃ j,y = .d (.int j)/\Q (.d (.int (i + j))) ω):=rfl
theorem wP (ds : List D) (y : AV) (ω : Om) (Q : AV->Om->Prop) : Ci (.d (.tup ds)) y ω Q = (∃ es,y = .d (.tup es)/\ds.length + es.length<=sizeLine/\Q (.d (.tup (ds ++ es))) ω):=rfl
theorem yo (ds : List D) (y : AV) (ω : Om) (Q : AV->Om->Prop) : Ci (.d (.lst ds)) y ω Q = (∃ es,cM ω y = some (.lst es)/\ds.length + es.length<=sizeLine/\Q (.d (.lst (ds ++ es))) ω):=by
  show (∃ ds' es,cM ω (.d (.lst ds)) = some (.lst ds')/\cM ω y = some (.lst es)/\ds'.length + es.length<=sizeLine/\Q (.d (.lst (ds' ++ es))) ω) = _
  simp only [cM,Option.some.injEq,D.lst.injEq,exists_eq_left',exists_and_left]
theorem yc (i : Int) (y : AV) (ω : Om) (Q : AV->Om->Prop) : Js (.d (.int i)) y ω Q = (∃ j,y = .d (.int j)/\tm i j/\Q (.d (.int (i * j))) ω):=rfl
def slA (x : AV) (lo hi : Option Int) (ω : Om) (Q : AV->Om->Prop) : Prop:=match x with
  | .d (.tup ds)=>Q (.d (.tup (gv ds lo hi))) ω
  | x=>∃ ds,cM ω x = some (.lst ds)/\Q (.d (.lst (gv ds lo hi))) ω
theorem A5 (ds : List D) (lo hi : Option Int) (ω : Om) (Q : AV->Om->Prop) : slA (.d (.tup ds)) lo hi ω Q = Q (.d (.tup (gv ds lo hi))) ω:=rfl
theorem Fh (te : AE) (tl th : AO) (ρ : SA) (ω : Om) (Q : AV->Om->Prop) : aSl te tl th ρ ω Q = (te ρ ω fun x ω1=>tl ρ ω1 fun lo ω2=>th ρ ω2 fun hi ω3=>slA x lo hi ω3 Q):=rfl
theorem C8 (ω : Om) (x : D) (K : D->Om->Prop) : qe ω (.d x) K = K x ω:=rfl
theorem EU (ω : Om) (l : Addr) (K : D->Om->Prop) : qe ω (.r (.ref l)) K = (match ω l with
    | some (.own xs)=>∃ ds,und xs = some ds/\K (.lst ds) (ω.put l (.frz ds))
    | some (.frz ds)=>K (.lst ds) ω
    | _=>False):=rfl
theorem Fg (ω : Om) (x : D) : cM ω (.d x) = some x:=rfl
theorem yV (ω : Om) (l : Addr) : cM ω (.r (.ref l)) = (match ω l with
    | some (.own xs)=>(und xs).map D.lst
    | some (.frz ds)=>some (.lst ds)
    | _=>none):=rfl
theorem Dx (ω : Om) (ds : List D) : gu ω (.d (.lst ds)) = some (ds.map AV.d):=rfl
theorem Fb (ω : Om) (ds : List D) : gu ω (.d (.tup ds)) = none:=rfl
theorem yR (ω : Om) (l : Addr) : gu ω (.r (.ref l)) = (match ω l with
    | some (.own xs)=>some xs
    | some (.frz ds)=>some (ds.map AV.d)
    | _=>none):=rfl
theorem zC (ds : List D) : io (.d (.tup ds)) = some (ds.map AV.d):=rfl
theorem Da (ds : List D) : io (.d (.lst ds)) = none:=rfl
theorem Dv (v : V) : io (.r v) = none:=rfl
theorem CO (ω : Om) (b : Bool) : jY ω (.d (.bl b)) = some b:=rfl
theorem yZ (ω : Om) (l : Addr) : jY ω (.r (.ref l)) = (gu ω (.r (.ref l))).map fun xs=>!xs.isEmpty:=rfl
theorem yk (x : D) (r : List AV) : und (.d x :: r) = (und r).map (x :: ·):=rfl
theorem Ac : und [] = some []:=rfl
theorem Cy (ω : Om) (ds : List D) : zM ω (.d (.tup ds)) = some ds.length:=by simp [zM,io]
theorem DG (ω : Om) (ds : List D) : zM ω (.d (.lst ds)) = some ds.length:=by simp [zM,io,gu]
theorem Eh (ds : List D) : wS (.tup ds) = some ds:=rfl
theorem DA (ds : List D) : wS (.lst ds) = some ds:=rfl
theorem uD (g : AG) (tb : AS) (D : bK) (ρ : SA) (ω : Om) : gD g tb D [] ρ ω = D.nx ρ ω:=rfl
theorem yO (g : AG) (tb : AS) (D : bK) (a : AV) (as : List AV) (ρ : SA) (ω : Om) : gD g tb D (a :: as) ρ ω = (g a ρ ω fun ρ1 ω1=>tb { nx:=gD g tb D as,ct:=gD g tb D as,bk:=D.nx,rt:=D.rt } ρ1 ω1):=rfl
theorem CN {g : AG} {tb : AS} {D : bK} {as : List AV} {ρ : SA} {ω : Om} (I : Nat->SA->Om->Prop) (h0 : I 0 ρ ω)
    (hs : ∀ (i : Nat) (a : AV) (ρ : SA) (ω : Om) (N : SA->Om->Prop),as[i]? = some a->I i ρ ω->(∀ ρ' ω',I (i + 1) ρ' ω'->N ρ' ω')->g a ρ ω fun ρ1 ω1=>tb { nx:=N,ct:=N,bk:=D.nx,rt:=D.rt } ρ1 ω1)
    (hd : ∀ ρ ω,I as.length ρ ω->D.nx ρ ω) : gD g tb D as ρ ω:=by
  have key : ∀ (n i : Nat) (ρ : SA) (ω : Om),i + n = as.length->I i ρ ω->gD g tb D (as.drop i) ρ ω:=by
    intro n
    induction n with
    | zero=>intro i ρ ω hi h;rw [List.drop_eq_nil_of_le (by omega)];exact hd ρ ω (by rw [← hi];exact h)
    | succ n ih =>
      intro i ρ ω hi h
      obtain ⟨a,ha,hdr⟩:=lK (as:=as) (i:=i) (by omega)
      rw [hdr]
      exact hs i a ρ ω _ ha h fun ρ' ω' h'=>ih (i + 1) ρ' ω' (by omega) h'
  simpa using key as.length 0 ρ ω (by omega) h0
theorem pW {g : AG} {tb : AS} {D : bK} {ds : List L2.D} {ρ : SA} {ω : Om} (I : Nat->SA->Om->Prop) (h0 : I 0 ρ ω)
    (hs : ∀ (i : Nat) (d : L2.D) (ρ : SA) (ω : Om) (N : SA->Om->Prop),ds[i]? = some d->I i ρ ω->(∀ ρ' ω',I (i + 1) ρ' ω'->N ρ' ω')->g (.d d) ρ ω fun ρ1 ω1=>tb { nx:=N,ct:=N,bk:=D.nx,rt:=D.rt } ρ1 ω1)
    (hd : ∀ ρ ω,I ds.length ρ ω->D.nx ρ ω) : gD g tb D (ds.map AV.d) ρ ω :=
  CN I h0 (fun i a ρ ω N ha h k=>by
    rw [List.getElem?_map,Option.map_eq_some_iff] at ha
    obtain ⟨d,h1,rfl⟩:=ha
    exact hs i d ρ ω N h1 h k) (fun ρ ω h=>hd ρ ω (by simpa using h))
theorem Bd {g : AG} {tb : AS} {D : bK} {lo : Int} {n : Nat} {ρ : SA} {ω : Om} (I : Nat->SA->Om->Prop) (h0 : I 0 ρ ω)
    (hs : ∀ (i : Nat) (ρ : SA) (ω : Om) (N : SA->Om->Prop),i < n->I i ρ ω->(∀ ρ' ω',I (i + 1) ρ' ω'->N ρ' ω')->g (.d (.int (lo + (i : Nat)))) ρ ω fun ρ1 ω1=>tb { nx:=N,ct:=N,bk:=D.nx,rt:=D.rt } ρ1 ω1)
    (hd : ∀ ρ ω,I n ρ ω->D.nx ρ ω) : gD g tb D (ro lo n) ρ ω :=
  CN I h0 (fun i a ρ ω N ha h k=>by
    unfold ro at ha
    rw [List.getElem?_map,Option.map_eq_some_iff] at ha
    obtain ⟨j,h1,rfl⟩:=ha
    obtain ⟨hj,rfl⟩:=List.getElem?_eq_some_iff.mp h1
    simp only [List.getElem_range,List.length_range] at hj ⊢
    exact hs i ρ ω N hj h k) (fun ρ ω h=>hd ρ ω (by simpa [ro] using h))
theorem vL {g : AG} {tc : AT} {l : AL} {as xs : List AV} {ρ : SA} {ω : Om} {K : List AV->SA->Om->Prop} (I : Nat->List AV->SA->Om->Prop) (h0 : I 0 xs ρ ω)
    (hs : ∀ (i : Nat) (a : AV) (xs : List AV) (ρ : SA) (ω : Om) (N : List AV->SA->Om->Prop),as[i]? = some a->I i xs ρ ω->(∀ xs' ρ' ω',I (i + 1) xs' ρ' ω'->N xs' ρ' ω')->g a ρ ω fun ρ1 ω1=>tc ρ1 ω1 fun b ω2=>if b = true then l xs ρ1 ω2 N else N xs ρ1 ω2)
    (hd : ∀ xs ρ ω,I as.length xs ρ ω->K xs ρ ω) : dj g tc l as xs ρ ω K:=by
  have key : ∀ (n i : Nat) (xs : List AV) (ρ : SA) (ω : Om),i + n = as.length->I i xs ρ ω->dj g tc l (as.drop i) xs ρ ω K:=by
    intro n
    induction n with
    | zero=>intro i xs ρ ω hi h;rw [List.drop_eq_nil_of_le (by omega)];exact hd xs ρ ω (by rw [← hi];exact h)
    | succ n ih =>
      intro i xs ρ ω hi h
      obtain ⟨a,ha,hdr⟩:=lK (as:=as) (i:=i) (by omega)
      rw [hdr]
      exact hs i a xs ρ ω (fun xs' ρ' ω'=>dj g tc l (as.drop (i + 1)) xs' ρ' ω' K) ha h fun xs' ρ' ω' h'=>ih (i + 1) xs' ρ' ω' (by omega) h'
  simpa using key as.length 0 xs ρ ω (by omega) h0
theorem sw {g : AG} {tc : AT} {l : AL} {ds : List D} {xs : List AV} {ρ : SA} {ω : Om} {K : List AV->SA->Om->Prop} (I : Nat->List AV->SA->Om->Prop) (h0 : I 0 xs ρ ω)
    (hs : ∀ (i : Nat) (d : D) (xs : List AV) (ρ : SA) (ω : Om) (N : List AV->SA->Om->Prop),ds[i]? = some d->I i xs ρ ω->(∀ xs' ρ' ω',I (i + 1) xs' ρ' ω'->N xs' ρ' ω')->g (.d d) ρ ω fun ρ1 ω1=>tc ρ1 ω1 fun b ω2=>if b = true then l xs ρ1 ω2 N else N xs ρ1 ω2)
    (hd : ∀ xs ρ ω,I ds.length xs ρ ω->K xs ρ ω) : dj g tc l (ds.map AV.d) xs ρ ω K :=
  vL I h0 (fun i a xs ρ ω N ha h k=>by
    rw [List.getElem?_map,Option.map_eq_some_iff] at ha
    obtain ⟨d,h1,rfl⟩:=ha
    exact hs i d xs ρ ω N h1 h k) (fun xs ρ ω h=>hd xs ρ ω (by simpa using h))
theorem FH {tc : AT} {te : AE} {ds : List D} {v0 : Option AV} {bv : SA} {ω : Om} {K : List AV->SA->Om->Prop} (p : D->Bool) (f : D->D)
    (ht : ∀ d∈ds,∀ Q : Bool->Om->Prop,Q (p d) ω->tc (some (.d d) :: bv) ω Q) (he : ∀ d∈ds,p d = true->∀ Q : AV->Om->Prop,Q (.d (f d)) ω->te (some (.d d) :: bv) ω Q) (hz : ds.length<=sizeLine)
    (hk : ∀ ρ,K (((ds.filter p).map f).map AV.d) ρ ω) : dj (eK 0) tc (ig te) (ds.map AV.d) [] (v0 :: bv) ω K:=by
  refine sw (fun i xs ρ ω'=>ω' = ω/\(∃ v,ρ = v :: bv)/\xs = (((ds.take i).filter p).map f).map AV.d) ⟨rfl,⟨_,rfl⟩,rfl⟩ ?_ ?_
  · rintro i d xs ρ ω' N hd ⟨rfl,⟨v,rfl⟩,rfl⟩ kN
    have hi:=(List.getElem?_eq_some_iff.mp hd).1
    have hm:=List.mem_of_getElem? hd
    have et : ds.take (i + 1) = ds.take i ++ [d]:=by rw [List.take_succ,hd];rfl
    rw [gf,List.set_cons_zero]
    refine ht d hm _ ?_
    cases hp : p d with
    | true =>
      rw [if_pos rfl,iD]
      refine he d hm hp _ ⟨?_,kN _ _ _ ⟨rfl,⟨_,rfl⟩,?_⟩⟩
      · rw [List.length_map,List.length_map]
        have:=List.length_filter_le p (ds.take i)
        rw [List.length_take] at this
        omega
      · rw [et,List.filter_append]
        simp [hp]
    | false =>
      rw [if_neg Bool.false_ne_true]
      refine kN _ _ _ ⟨rfl,⟨_,rfl⟩,?_⟩
      rw [et,List.filter_append]
      simp [hp]
  · rintro xs ρ ω' ⟨rfl,_,rfl⟩
    rw [List.take_length]
    exact hk ρ
structure Pn where
  f : Int
  x : Int
  i : Int
  h : 0<=f
section
variable {α : Type} (a b c e : α) (l : List α)
theorem jy {xs : List α} {x : α} (j : Nat) {i : Int} (hi : i = (j : Int)) (h : xs[j]? = some x) : atI xs i = some x:=by
  subst hi
  have hj:=(List.getElem?_eq_some_iff.mp h).1
  unfold atI ixN
  rw [if_pos (by omega),if_pos (by omega)]
  simpa using h
theorem GW : atI (a :: l) 0 = some a:=jy 0 rfl rfl
theorem GM : atI (a :: b :: l) 1 = some b:=jy 1 rfl rfl
theorem G7 : atI (a :: b :: c :: l) 2 = some c:=jy 2 rfl rfl
theorem GZ : atI (a :: b :: c :: e :: l) 3 = some e:=jy 3 rfl rfl
end
theorem sz1 : (1<=sizeLine) = True:=eq_true (by decide)
theorem sz2 : (2<=sizeLine) = True:=eq_true (by decide)
theorem sz3 : (3<=sizeLine) = True:=eq_true (by decide)
theorem sz4 : (4<=sizeLine) = True:=eq_true (by decide)
theorem eU (a b : Int) : eqD (.int a) (.int b) = (a == b):=by simp [eqD]
theorem qy (a b : Str) : eqD (.str a) (.str b) = (a == b):=by simp [eqD]
theorem CS (a b : Bool) : eqD (.bl a) (.bl b) = (a == b):=by simp [eqD]
theorem E8 : eqD .non .non = true:=by simp [eqD]
theorem CA (a : List D) : eqD (.tup a) .non = false:=by simp [eqD]
theorem Bv (a : Int) : dep (.int a) = 0:=by simp [dep]
theorem qp (a : Str) : dep (.str a) = 0:=by simp [dep]
theorem CM (a : Bool) : dep (.bl a) = 0:=by simp [dep]
theorem A0 (a : Bool) : Eu (.bl a) = some (if a then 1 else 0):=rfl
theorem zE {n m : Nat} (h : n<=1000) : n<=sizeLine:=Nat.le_trans h (by decide)
theorem g6 {n m : Nat} (h : n<=1000) : n < sizeLine:=Nat.lt_of_le_of_lt h (by decide)
def Om.only (ω' ω : Om) : Om:=fun b=>if (ω b).isSome = true then ω' b else none
def Ex (ω ω' : Om) : Prop:=∀ b,(ω b).isSome = true->ω' b = ω b
theorem Ex.refl (ω : Om) : Ex ω ω:=fun _ _=>rfl
theorem Ex.none {ω ω' : Om} (h : Ex ω ω') {l : Addr} (e : ω' l = none) : ω l = none:=by
  cases z : ω l with
  | none=>rfl
  | some c=>have:=h l (by rw [z];rfl);rw [e,z] at this;cases this
theorem Ex.new {ω ω' : Om} (h : Ex ω ω') {l : Addr} {c : OC} (e : ω' l = Option.none) : Ex ω (ω'.put l c):=fun b hb=>by
  have : b≠l:=fun z=>by subst z;rw [h.none e] at hb;cases hb
  rw [Om.put_ne this];exact h b hb
theorem Ex.over {ω ω' : Om} (h : Ex ω ω') {l : Addr} {c : OC} (e : ω l = Option.none) : Ex ω (ω'.put l c):=fun b hb=>by
  have : b≠l:=fun z=>by subst z;rw [e] at hb;cases hb
  rw [Om.put_ne this];exact h b hb
theorem av (ω : Om) : ω.only ω = ω:=by
  funext b;unfold Om.only
  cases e : ω b<;>simp
theorem jv {ω ω' : Om} (h : Ex ω ω') : ω'.only ω = ω:=by
  funext b;unfold Om.only
  cases e : ω b with
  | none=>simp
  | some c=>simp only [Option.isSome_some,if_true];rw [h b (by rw [e];rfl),e]
theorem C4 {ω ω' : Om} {p : Addr} {c : OC} (h : Ex (ω.put p c) ω') (hp : (ω p).isSome = true) : ω'.only ω = ω.put p c:=by
  funext b;unfold Om.only
  by_cases hb : b = p
  · subst hb;rw [if_pos hp,h b (by rw [Om.put_same];rfl)]
  · rw [Om.put_ne hb]
    cases e : ω b with
    | none=>simp
    | some o=>simp only [Option.isSome_some,if_true];rw [h b (by rw [Om.put_ne hb,e];rfl),Om.put_ne hb,e]
theorem Rep.only {F : Fs} {H : Hp} {ω ω' : Om} (rp : Rep F H ω') : Rep F H (ω'.only ω)/\c6 (cut F H ω') (cut F H (ω'.only ω)):=by
  have ho : ∀ b,ow (ω' b) = false->ow ((ω'.only ω) b) = false:=fun b h=>by
    unfold Om.only
    split
    · exact h
    · rfl
  have sm : c6 (cut F H ω') (cut F H (ω'.only ω)):=fun b o e=>by
    obtain ⟨h,f,e⟩:=cO.mp e
    exact cO.mpr ⟨ho b h,f,e⟩
  have un : ∀ b c,(ω'.only ω) b = some c->ω' b = some c:=fun b c e=>by
    unfold Om.only at e
    split at e
    · exact e
    · cases e
  refine ⟨⟨fun l xs e=>?_,fun l ds e=>(rp.frz l ds (un _ _ e)).same sm,fun b f=>?_,fun l ks e=>(by obtain ⟨vs,e1,e2⟩:=rp.dic l ks (un _ _ e);exact ⟨vs,e1,e2.same sm⟩)⟩,sm⟩
  · obtain ⟨vs,e1,e2⟩:=rp.own l xs (un _ _ e)
    exact ⟨vs,e1,e2.same sm⟩
  · obtain ⟨h1,h2⟩:=rp.hid b f
    refine ⟨?_,h2⟩
    unfold Om.only
    rw [h1];simp
theorem Fr.only {F : Fs} {H H' : Hp} {ω ω' : Om} (fr : Fr F H ω H' ω') : Fr F H ω H' (ω'.only ω):=⟨fun b o h f e=>by
  obtain ⟨x,y⟩:=fr.st b o h f e
  refine ⟨x,?_⟩
  unfold Om.only
  split
  · exact y
  · rfl,fr.hd⟩
theorem Fun.okD {P : Program} {w : World} {K : PySem.W.Frag} {mg : Str->Option Value} {base : Heap} {x qual : Str} {st : Stmt} {f : Addr} {fd : FuncData} {N ps : List Str} {k : Nat} {sp : ASp} (F : Fun K x qual st f fd) (S : aH N ps (defScope st)) (len : ∀ xs ω Q,sp xs ω Q->xs.length = ps.length)
    (hbody : ∀ (cdv : Value) (A : Around) (outer : List Env) (s : Shared) (H : Hp) (E : XK),dN k (A.deeper (envOfC qual (defScope st) s.heap.objs.size f cdv)) ->
      ∃ t t',PSs (kE CX0 P w K mg base N qual (defScope st) f cdv A outer s H E).nox (defBody st) t/\fI t t'/\∀ xs ω Q',sp xs ω Q'->t' { nx:=fun _ ω'=>Q' (.d .non) (ω'.only ω),rt:=fun a ω'=>∃ d,a = .d d/\Q' (.d d) (ω'.only ω) } (jo N xs) ω) : aJ P w K mg base CX0 (k + 1) f fd ps (aN sp):=by
  refine F.ok S (fun vs H Q E h=>?_) (fun cdv A outer s H vs Q E hr h=>?_)
  · obtain ⟨F,xs,ω,Q',rp,rv,h,_⟩:=h
    rw [rv.length,len xs ω Q' h]
  · obtain ⟨t,t',h1,h2,h3⟩:=hbody cdv A outer s H E hr
    obtain ⟨F,xs,ω,Q',rp,rv,h,kq⟩:=h
    refine ⟨t,h1,h2.run F H ω _ _ _ _ rp (RS.start rv) (h3 xs ω Q' h) ⟨?_,?_,fun _ _ _ _ _ _ _ z=>z.elim,fun _ _ _ _ _ _ _ z=>z.elim⟩⟩
    · exact fun ρ' ω' σ' H' e1 e2 e3 q=>kq (.d .non) (ω'.only ω) .non H' e1.only.1 e2.only (by simp [RV,Dat]) q
    · rintro a ω' v H' e1 e2 e3 ⟨d,rfl,q⟩
      exact kq (.d d) (ω'.only ω) v H' e1.only.1 e2.only (e3.same e1.only.2) q
def wl : Nat->List (List Int)
  | 0=>[[]]
  | n + 1=>(wl n).flatMap fun w=>[w ++ [0],w ++ [1]]
theorem zv : ∀ n,(wl n).length = 2 ^ n
  | 0=>rfl
  | n + 1=>by
    have h : ∀ ws : List (List Int),(ws.flatMap fun w=>[w ++ [0],w ++ [1]]).length = 2 * ws.length:=fun ws=>by
      induction ws with
      | nil=>rfl
      | cons a r ih=>rw [List.flatMap_cons,List.length_append,ih];simp;omega
    rw [wl,h,zv n,Nat.pow_succ];omega
theorem eh : ∀ {n : Nat} {w : List Int},w∈wl n->w.length = n/\∀ x∈w,x = 0\/x = 1
  | 0,w,h=>by simp [wl] at h;rw [h];simp
  | n + 1,w,h=>by
    simp only [wl,List.mem_flatMap] at h
    obtain ⟨v,hv,h⟩:=h
    obtain ⟨h1,h2⟩:=eh hv
    simp only [List.mem_cons,List.not_mem_nil,or_false] at h
    rcases h with rfl | rfl<;>refine ⟨by simp [h1],fun x hx=>?_⟩<;>rcases List.mem_append.mp hx with hx | hx
    · exact h2 x hx
    · rw [List.mem_singleton.mp hx];exact .inl rfl
    · exact h2 x hx
    · rw [List.mem_singleton.mp hx];exact .inr rfl
theorem me {n : Nat} (h : n<=5) : (wl n).length<=32:=by
  rw [zv]
  exact Nat.pow_le_pow_right (by decide) h
theorem HL : ∀ n : Fin 6,(wl n.val).Nodup:=by decide +kernel
theorem JT {n : Nat} (h : n<=5) : (wl n).Nodup:=HL ⟨n,by omega⟩
def Wds (n : Nat) (ws : List (List Int)) : Prop:=ws.Nodup/\∀ w∈ws,w∈wl n
theorem Wds.le {n : Nat} {ws : List (List Int)} (h : Wds n ws) (hn : n<=5) : ws.length<=32:=by
  have:=h.1.length_le_of_subset (l₂:=wl n) (fun w hw=>h.2 w hw)
  have:=me hn
  omega
theorem Wds.sub {n : Nat} {ws : List (List Int)} (h : ws.Sublist (wl n)) (hn : n<=5) : Wds n ws:=⟨h.nodup (JT hn),fun w hw=>h.mem hw⟩
theorem uv : ∀ a b : List Int,fR (a.map D.int) (b.map D.int) = decide (a = b)
  | [],[]=>by simp [fR]
  | [],_ :: _=>by simp [fR]
  | _ :: _,[]=>by simp [fR]
  | x :: a,y :: b=>by
    simp only [List.map_cons,fR,eqD,uv a b,List.cons.injEq]
    by_cases h1 : x = y<;>by_cases h2 : a = b<;>simp [h1,h2]
theorem DF (a b : List Int) : eqD (wdD a) (wdD b) = decide (a = b):=by simp only [wdD,eqD];exact uv a b
theorem Iw (w : List Int) : dep (wdD w) = 1:=by simp [wdD,dep,ug]
theorem jZ (ws : List (List Int)) : gq (ws.map wdD)<=1:=wr fun d hd=>by
  obtain ⟨w,_,rfl⟩:=List.mem_map.mp hd
  rw [Iw]
  exact Nat.le_refl _
theorem rg (a : List Int) (ws : List (List Int)) : inD (wdD a) (ws.map wdD) = decide (a∈ws):=by
  unfold inD
  rw [Bool.eq_iff_iff,List.any_eq_true,decide_eq_true_iff]
  constructor
  · rintro ⟨d,hd,e⟩
    obtain ⟨w,hw,rfl⟩:=List.mem_map.mp hd
    rw [DF,decide_eq_true_iff] at e
    exact e ▸ hw
  · intro h
    exact ⟨wdD a,List.mem_map.mpr ⟨a,h,rfl⟩,by rw [DF];simp⟩
theorem eV {α β : Type} {f : α->β} {xs : List α} {i : Nat} {y : β} (h : (xs.map f)[i]? = some y) : ∃ x,xs[i]? = some x/\y = f x:=by
  rw [List.getElem?_map] at h
  cases e : xs[i]? with
  | none=>rw [e] at h;cases h
  | some x=>rw [e] at h;cases h;exact ⟨x,rfl,rfl⟩
theorem vW {α : Type} {f : α->AV} {xs : List α} {i : Int} (h0 : 0<=i) (h1 : i < xs.length) : ∃ x,x∈xs/\xs[i.toNat]? = some x/\atI (xs.map f) i = some (f x):=by
  obtain ⟨j,rfl⟩:=Int.eq_ofNat_of_zero_le h0
  have hj : j < xs.length:=by omega
  exact ⟨xs[j],List.getElem_mem hj,by simp [List.getElem?_eq_getElem hj],jy j rfl (by rw [List.getElem?_map,List.getElem?_eq_getElem hj];rfl)⟩
theorem t5 {w : List Int} {i : Int} (h0 : 0<=i) (h1 : i < w.length) : atI ((w.map D.int).map AV.d) i = some (.d (.int (w.getD i.toNat 0))):=by
  obtain ⟨j,rfl⟩:=Int.eq_ofNat_of_zero_le h0
  have hj : j < w.length:=by omega
  refine jy j rfl ?_
  rw [List.getElem?_map,List.getElem?_map,List.getElem?_eq_getElem hj]
  simp [List.getD_eq_getElem?_getD,List.getElem?_eq_getElem hj]
theorem sH {n : Nat} {w : List Int} (h : w∈wl n) (i : Nat) : w.getD i 0 = 0\/w.getD i 0 = 1:=by
  rw [List.getD_eq_getElem?_getD]
  cases e : w[i]? with
  | none=>exact .inl rfl
  | some x=>exact (eh h).2 x (List.mem_of_getElem? e)
theorem zX (x : List Int) (b : Int) (ω : Om) (Q : AV->Om->Prop) : Ci (.d (wdD x)) (.d (.tup [.int b])) ω Q = (x.length + 1<=sizeLine/\Q (.d (wdD (x ++ [b]))) ω):=by
  unfold wdD
  rw [wP]
  simp
theorem yi (x y : List Int) (ω : Om) (Q : AV->Om->Prop) : Ci (.d (wdD x)) (.d (wdD y)) ω Q = (x.length + y.length<=sizeLine/\Q (.d (wdD (x ++ y))) ω):=by
  unfold wdD
  rw [wP]
  simp
theorem AK (x : List Int) : io (.d (wdD x)) = some ((x.map D.int).map AV.d):=rfl
theorem Ai (ω : Om) (x : List Int) : gu ω (.d (wdD x)) = none:=rfl
theorem D7 {α β : Type} (f : α->β) (xs : List α) (lo hi : Option Int) : gv (xs.map f) lo hi = (gv xs lo hi).map f:=by
  unfold gv
  rw [List.length_map,List.map_take,List.map_drop]
theorem E3 (x : List Int) (lo hi : Option Int) (ω : Om) (Q : AV->Om->Prop) : slA (.d (wdD x)) lo hi ω Q = Q (.d (wdD (gv x lo hi))) ω:=by
  show Q (.d (.tup (gv (x.map D.int) lo hi))) ω = _
  rw [D7];rfl
inductive Sy where
  | is (i b : Int)
  | jn (an : Bool) (l r : Sy)
namespace Sy
def d : Sy->D
  | .is i b=>.tup [.str "is",.int i,.int b]
  | .jn an l r=>.tup [.str (if an then "and" else "or"),l.d,r.d]
def ok (n : Nat) : Sy->Prop
  | .is i b=>0<=i/\i < n/\(b = 0\/b = 1)
  | .jn _ l r=>l.ok n/\r.ok n
def dp : Sy->Nat
  | .is _ _=>0
  | .jn _ l r=>1 + max l.dp r.dp
def lvs : Sy->Nat
  | .is _ _=>1
  | .jn _ l r=>l.lvs + r.lvs
def up : Sy->Prop
  | .is _ b=>b = 1
  | .jn _ l r=>l.up/\r.up
def val (w : List Int) : Sy->Bool
  | .is i b=>decide (w.getD i.toNat 0 = b)
  | .jn an l r=>if an then val w l && val w r else val w l || val w r
end Sy
inductive Ta where
  | en (i : Int)
  | nd (y : Bool) (ws : List (List Int)) (l r : Ta)
namespace Ta
def d : Ta->D
  | .en i=>.tup [.str "end",.int i]
  | .nd y ws l r=>.tup [.str (if y then "yes" else "no"),.tup (ws.map wdD),l.d,r.d]
def ok (n : Nat) : Ta->Prop
  | .en i=>0<=i/\i < n
  | .nd _ ws l r=>Wds n ws/\l.ok n/\r.ok n
def dp : Ta->Nat
  | .en _=>0
  | .nd _ _ l r=>1 + max l.dp r.dp
def lvs : Ta->Nat
  | .en _=>1
  | .nd _ _ l r=>l.lvs + r.lvs
def size : Ta->Nat
  | .en _=>1
  | .nd _ _ l r=>l.size + r.size + 1
def bit (y n : List Int) (hy : Bool) (ws : List (List Int)) : Bool:=decide ((if hy then y else n)∈ws)
def way (y n : List Int) : Ta->List Int
  | .en _=>[]
  | .nd h ws a b=>if bit y n h ws then 1 :: way y n b else 0 :: way y n a
def fin (y n : List Int) : Ta->Int
  | .en i=>i
  | .nd h ws a b=>if bit y n h ws then fin y n b else fin y n a
theorem vw (y n : List Int) : ∀ u : Ta,(way y n u).length<=u.dp
  | .en _=>by simp [way,dp]
  | .nd h ws a b=>by
    have h1:=vw y n a
    have h2:=vw y n b
    simp only [way,dp]
    split<;>simp<;>omega
theorem y7 {m : Nat} {y n : List Int} : ∀ {u : Ta},u.ok m->0<=fin y n u/\fin y n u < m
  | .en i,h=>h
  | .nd h ws a b,h'=>by
    obtain ⟨_,ha,hb⟩:=h'
    simp only [fin]
    split
    · exact y7 hb
    · exact y7 ha
theorem fH : ∀ t : Ta,t.size + 1 = 2 * t.lvs
  | .en x=>rfl
  | .nd y ws l r=>by
    have:=fH l
    have:=fH r
    simp only [size,lvs];omega
end Ta
theorem BB : (("end" : Str) = ("yes" : Str)) = False:=eq_false (by decide +kernel)
theorem Am : (("no" : Str) = ("yes" : Str)) = False:=eq_false (by decide +kernel)
theorem AQ : (("is" : Str) = ("and" : Str)) = False:=eq_false (by decide +kernel)
theorem AD : (("is" : Str) = ("or" : Str)) = False:=eq_false (by decide +kernel)
theorem Br : (("and" : Str) = ("or" : Str)) = False:=eq_false (by decide +kernel)
theorem Aj : (("or" : Str) = ("and" : Str)) = False:=eq_false (by decide +kernel)
theorem Ax : (("any" : Str) = ("rising" : Str)) = False:=eq_false (by decide +kernel)
theorem Gd (F : Nat->SA->Om->Prop) : ∃ Pv : Nat->SA->Om->Prop,∀ i ρ ω,Pv i ρ ω↔F i ρ ω:=⟨F,fun _ _ _=>Iff.rfl⟩
def om2 (ω : Om) (p l : Addr) (c A : OC) : Om:=(ω.put p c).put l A
section
variable {ω : Om} {p l l1 l2 : Addr} {c c' A A' B B' : OC}
theorem l5 (h : p≠l) : om2 ω p l c A p = some c:=by unfold om2;rw [Om.put_ne h,Om.put_same]
theorem dQ : om2 ω p l c A l = some A:=by unfold om2;rw [Om.put_same]
theorem jV (h : p≠l) : (om2 ω p l c A).put p c' = om2 ω p l c' A:=by unfold om2;rw [Om.put_comm h,Om.put_put]
theorem eO : (om2 ω p l c A).put l A' = om2 ω p l c A':=by unfold om2;rw [Om.put_put]
theorem nP {q : Addr} {o : OC} (h : ω.put p o q = none) : q≠p/\ω q = none:=by
  have : q≠p:=fun z=>by subst z;rw [Om.put_same] at h;cases h
  exact ⟨this,by rwa [Om.put_ne this] at h⟩
end
structure Ne4 (p l1 l2 l3 : Addr) : Prop where
  p1 : p≠l1
  p2 : p≠l2
  p3 : p≠l3
  a : l1≠l2
  b : l1≠l3
  c : l2≠l3
section
variable {ω : Om} {p l1 l2 l3 : Addr} {c c' A A' B B' C C' : OC} (h : Ne4 p l1 l2 l3)
include h
end
section
variable {P : Program} {w : World} {K : PySem.W.Frag} {mg : Str->Option Value} {base : Heap}
structure Cs (n : Nat) (ys zs : List (List Int)) : Prop where
  y : Wds n ys
  z : Wds n zs
  y1 : ys≠[]
  z1 : zs≠[]
theorem nn {t u : AS} {D : bK} {ρ : SA} {ω : Om} (I : SA->Om->Prop) (h1 : ∀ N : SA->Om->Prop,(∀ ρ' ω',I ρ' ω'->N ρ' ω')->t { D with nx:=N } ρ ω) (h2 : ∀ ρ' ω',I ρ' ω'->u D ρ' ω') : Cn t u D ρ ω:=h1 (u D) h2
theorem nU {α : Type} (xs : List α) (lo hi : Option Int) : (gv xs lo hi).Sublist xs:=(List.take_sublist _ _).trans (List.drop_sublist _ _)
theorem Er {ω : Om} {l : Addr} {ds : List D} (h : ω l = some (.own (ds.map AV.d))) : cM ω (.r (.ref l)) = some (.lst ds):=by
  rw [yV,h];simp only [bn,Option.map_some]
def Je : ASp:=fun _ _ _=>False
theorem GU {f : Addr} {fd : FuncData} {ps : List Str} {k : Nat} : aJ P w K mg base CX0 k f fd ps (aN Je) :=
  ⟨fun _ _ _ _ h=>by obtain ⟨_,_,_,_,_,_,h,_⟩:=h;exact h.elim,fun _ _ _ _ _ _ _ _ _ _ _ _ _ h=>by obtain ⟨_,_,_,_,_,_,h,_⟩:=h;exact h.elim⟩
def b01 (b : Bool) : Int:=if b then 1 else 0
theorem jF {n : Nat} {ws : List (List Int)} (h : Wds n ws) (q : List Int->Bool) : Wds n (ws.filter q):=⟨h.1.filter _,fun v hv=>h.2 v (List.mem_filter.mp hv).1⟩
theorem BU {α : Type} {xs : List α} {b : α} : atI (xs ++ [b]) (-1) = some b:=by
  unfold atI ixN
  rw [if_neg (by decide),if_pos (by simp;omega)]
  show (xs ++ [b])[((-1 : Int) + ((xs ++ [b]).length : Nat)).toNat]? = some b
  have : ((-1 : Int) + ((xs ++ [b]).length : Nat)).toNat = xs.length:=by simp;omega
  rw [this];simp
theorem yh (to : AE) (ρ : SA) (ω : Om) (Q : AV->Om->Prop) : F7 to ρ ω Q = (to ρ ω fun x ω1=>∃ l xs y,x = .r (.ref l)/\ω1 l = some (.own xs)/\xs.getLast? = some y/\Q y (ω1.put l (.own xs.dropLast))):=by
  unfold F7
  simp only [List.getLast?_eq_getElem?]
theorem mj {α : Type} (A : List α) (x : α) : (A ++ [x]).isEmpty = false:=by cases A<;>rfl
theorem pK {α : Type} (A : List α) (x : α) : (A ++ [x]).getLast? = some x:=by simp
theorem jf {α : Type} (A : List α) (x : α) : (A ++ [x]).dropLast = A:=by simp
end
def xf (caps : List V) (cA : List AV) (sp : ASp) : Sp:=fun vs H Q _=>∃ (F : Fs) (xs : List AV) (ω : Om) (Q' : AV->Om->Prop),Rep F H ω/\RVs (cut F H ω) xs vs/\RVs (cut F H ω) cA caps/\sp xs ω Q'/\LP RV F H ω Q' Q
def zj (f : Addr) (caps : List V) (cA : List AV) : AV:=.p (.ref f) (fun G=>RVs G cA caps)
def yB (i : Nat) (f : Addr) (caps : List V) (cA : List AV) (sp : ASp) (t : AA) : AE:=fun ρ ω Q=>ρ[i]? = some (some (zj f caps cA))/\t ρ ω fun xs ω1=>sp xs ω1 Q
theorem zR {X : Cx} {k n i : Nat} {t : TA} {t' : AA} {f : Addr} {caps : List V} {cA : List AV} {sp : ASp} (C : Clo X.prog X.w X.K X.mg X.base X.H₀ k f n (xf caps cA sp)) (ht : lO t t') : bB (CZ X k n i t) (yB i f caps cA sp t'):=⟨fun F H ω σ ρ Q Q' rp rs w kq=>by
  obtain ⟨e,w⟩:=w
  obtain ⟨v,e1,e2⟩:=rs.2 i _ e
  obtain ⟨rfl,e3⟩:=e2
  refine ⟨f,_,e1,C,ht.go rp rs w fun xs ω1 vs H1 rp1 fr1 rs1 rv1 q=>⟨F,xs,ω1,Q',rp1,rv1,e3 _ fr1.same,q,kq.fr fr1⟩⟩⟩
theorem gx {P : Program} {w : World} {K : PySem.W.Frag} {mg : Str->Option Value} {base : Heap} {H₀ : Hp} {k : Nat} {f : Addr} {q : Str} {params : Arguments} {body : Expr} {scope : Scope} {cl : List (Str × Addr)} {ps cs : List Str} {caps : List V} {cA : List AV} {sp : ASp}
    (L : sS H₀ f q params body scope cl) (S : xh ps cs scope) (C : xl base cl cs caps)
    (hb : ∀ (pm : Value) (c : Addr) (ctv : Value) (us : List Value),us.length = ps.length->bindArgs (PySem.W.kla_fn "<lambda>" q params body scope cl pm (.ref c) ctv) ⟨us,[]⟩ = pure (ps.zip us))
    (len : ∀ xs ω Q,sp xs ω Q->xs.length = ps.length)
    (hbody : ∀ (cd : Value) (A : Around) (outer : List Env) (s : Shared) (H : Hp),dN k (A.deeper (PySem.W.envX q scope s.heap.objs.size f cd cl)) ->
      ∃ t t',PE (BA P w K mg base (ps ++ cs) q scope f cd cl A outer s H) body t/\bB t t'/\∀ xs ω Q,sp xs ω Q->t' ((xs ++ cA).map some) ω Q) : Clo P w K mg base H₀ (k + 1) f ps.length (xf caps cA sp):=by
  refine IX L S C hb (fun vs H Q E h=>?_) (fun cd A outer s H vs Q E hr h=>?_)
  · obtain ⟨F,xs,ω,Q',rp,rv,_,h,_⟩:=h
    rw [rv.length,len xs ω Q' h]
  · obtain ⟨t,t',h1,h2,h3⟩:=hbody cd A outer s H hr
    obtain ⟨F,xs,ω,Q',rp,rv,rc,h,kq⟩:=h
    refine ⟨t,h1,h2.run F H ω _ _ Q Q' rp ?_ (h3 xs ω Q' h) kq⟩
    have:=rv.append rc
    refine ⟨by simp [this.length,rv.length,rc.length],fun i a e=>?_⟩
    rw [List.getElem?_map,Option.map_eq_some_iff] at e
    obtain ⟨b,hb,e⟩:=e
    cases e
    obtain ⟨v,e1,e2⟩:=this.get hb
    exact ⟨v,by rw [List.getElem?_map,e1];rfl,e2⟩
theorem Jc (b : Heap) : xl b [] [] []:=⟨rfl,fun _ _ h=>(nomatch h),fun _ _ _ h=>(nomatch h),fun _ _ _ h=>(nomatch h)⟩
theorem vQ {b : Heap} {x : Str} {c : Addr} {v : V} {u : Value} (h : b.IsCell c (some u)) (r : bo v u) : xl b [(x,c)] [x] [v]:=by
  have lk : ∀ y d,([(x,c)] : List (Str × Addr)).lookup y = some d->y = x/\d = c:=fun y d e=>by
    rw [List.lookup_cons] at e
    cases q : y == x with
    | true=>rw [q] at e;cases e;exact ⟨eq_of_beq q,rfl⟩
    | false=>rw [q] at e;cases e
  refine ⟨rfl,fun y d e=>?_,fun y z d e1 e2=>(lk y d e1).1.trans (lk z d e2).1.symm,fun j y w h1 h2=>?_⟩
  · rw [(lk y d e).1];exact List.mem_singleton.mpr rfl
  · cases j with
    | zero =>
      simp at h1 h2
      subst h1 h2
      exact ⟨c,u,by simp [List.lookup],h,r⟩
    | succ j=>simp at h1
def J0 (js : List Nat) (σ : St) (caps : List V) : Prop:=caps.length = js.length/\∀ (k j : Nat) (v : V),js[k]? = some j->caps[k]? = some v->σ[j]? = some (some v)
def rH : List Nat->SA->Option (List AV)
  | [],_=>some []
  | j :: js,ρ=>match ρ[j]?,rH js ρ with
    | some (some a),some r=>some (a :: r)
    | _,_=>none
theorem zn {G : Hp} {ρ : SA} {σ : St} (rs : RS G ρ σ) : ∀ {js : List Nat} {cA : List AV},rH js ρ = some cA->∃ caps,J0 js σ caps/\RVs G cA caps
  | [],cA,h=>by cases h;exact ⟨[],⟨rfl,fun _ _ _ h=>by simp at h⟩,rfl⟩
  | j :: js,cA,h=>by
    simp only [rH] at h
    cases e1 : ρ[j]? with
    | none=>rw [e1] at h;simp at h
    | some o =>
      cases o with
      | none=>rw [e1] at h;simp at h
      | some a =>
        cases e2 : rH js ρ with
        | none=>rw [e1,e2] at h;simp at h
        | some r =>
          rw [e1,e2] at h
          simp at h
          subst h
          obtain ⟨caps,⟨c1,c2⟩,c3⟩:=zn rs e2
          obtain ⟨v,v1,v2⟩:=rs.2 j a e1
          refine ⟨v :: caps,⟨by simp [c1],fun k i u h1 h2=>?_⟩,v,caps,rfl,v2,c3⟩
          cases k with
          | zero=>simp at h1 h2;subst h1 h2;exact v1
          | succ k=>simp at h1 h2;exact c2 k i u h1 h2
def la (kc : Nat) (P : Program) (w : World) (K : PySem.W.Frag) (mg : Str->Option Value) (base : Heap) : Sp:=fun vs H Q _=>∃ (F : Fs) (ω : Om) (Q' : AV->Om->Prop) (v : V) (lw : Str) (u : Tr) (f1 f2 : Addr) (c1 c2 : List V) (a1 a2 : List AV) (s1 s2 : ASp) (g : Tr->D),
  vs = [v,.str lw,.ref f1,.ref f2]/\Rep F H ω/\Dat (cut F H ω) u.d v/\u.ok lw/\u.size<=100000/\Clo P w K mg base H kc f1 1 (xf c1 a1 s1)/\Clo P w K mg base H kc f2 3 (xf c2 a2 s2)/\RVs (cut F H ω) a1 c1/\RVs (cut F H ω) a2 c2 /\
  (∀ x,Tr.lf x∈u.post->∀ ω1 Q1,Q1 (.d (g (.lf x))) ω1->s1 [.d (Tr.lf x).d] ω1 Q1)/\(∀ x l r,Tr.nd x l r∈u.post->∀ ω1 Q1,Q1 (.d (g (.nd x l r))) ω1->s2 [.d (Tr.nd x l r).d,.d (g l),.d (g r)] ω1 Q1)/\Q' (.d (g u)) ω/\LP RV F H ω Q' Q
def GH (j1 j2 : List Nat) (s1 s2 : List AV->ASp) (ta tb : AE) : AE:=fun ρ ω Q=>ta ρ ω fun x ω0=>tb ρ ω0 fun y ω1=>∃ (lw : Str) (u : Tr) (g : Tr->D) (a1 a2 : List AV),y = .d (.str lw)/\x = .d u.d/\u.ok lw/\u.size<=100000/\rH j1 ρ = some a1/\rH j2 ρ = some a2 /\
  (∀ x,Tr.lf x∈u.post->∀ ω1 Q1,Q1 (.d (g (.lf x))) ω1->s1 a1 [.d (Tr.lf x).d] ω1 Q1)/\(∀ x l r,Tr.nd x l r∈u.post->∀ ω1 Q1,Q1 (.d (g (.nd x l r))) ω1->s2 a2 [.d (Tr.nd x l r).d,.d (g l),.d (g r)] ω1 Q1)/\Q (.d (g u)) ω1
theorem xG (j1 j2 : List Nat) (s1 s2 : List AV->ASp) (ta tb : AE) (ρ : SA) (ω : Om) (Q : AV->Om->Prop) : GH j1 j2 s1 s2 ta tb ρ ω Q = (ta ρ ω fun x ω0=>tb ρ ω0 fun y ω1=>∃ (lw : Str) (u : Tr) (g : Tr->D) (a1 a2 : List AV),y = .d (.str lw)/\x = .d u.d/\u.ok lw/\u.size<=100000/\rH j1 ρ = some a1/\rH j2 ρ = some a2 /\
  (∀ x,Tr.lf x∈u.post->∀ ω1 Q1,Q1 (.d (g (.lf x))) ω1->s1 a1 [.d (Tr.lf x).d] ω1 Q1)/\(∀ x l r,Tr.nd x l r∈u.post->∀ ω1 Q1,Q1 (.d (g (.nd x l r))) ω1->s2 a2 [.d (Tr.nd x l r).d,.d (g l),.d (g r)] ω1 Q1)/\Q (.d (g u)) ω1):=rfl
def JX (X : Cx) (kc n : Nat) (js : List Nat) (q : Str) (a : Arguments) (b : Expr) (sc : Scope) (cl : List (Str × Addr)) (s : List AV->ASp) : Prop :=
  ∀ (b' : Heap) (H : Hp) (f : Addr) (σ : St) (caps : List V) (cA : List AV),sS H f q a b sc cl->ER X σ b'->J0 js σ caps->cA.length = js.length->Clo X.prog X.w X.K X.mg b' H kc f n (xf caps cA (s cA))
theorem rq {ρ : SA} : ∀ {js : List Nat} {cA : List AV},rH js ρ = some cA->cA.length = js.length
  | [],cA,h=>by cases h;rfl
  | j :: js,cA,h=>by
    simp only [rH] at h
    cases e1 : ρ[j]? with
    | none=>rw [e1] at h;simp at h
    | some o =>
      cases o with
      | none=>rw [e1] at h;simp at h
      | some a =>
        cases e2 : rH js ρ with
        | none=>rw [e1,e2] at h;simp at h
        | some r =>
          rw [e1,e2] at h
          simp at h
          subst h
          simp [rq e2]
theorem vV {X : Cx} {kc : Nat} {ta tb : TE} {ta' tb' : AE} {q1 q2 : Str} {j1 j2 : List Nat} {p1 p2 : Arguments} {b1 b2 : Expr} {sc1 sc2 : Scope} {l1 l2 : List (Str × Addr)} {s1 s2 : List AV->ASp} (h1 : JX X kc 1 j1 q1 p1 b1 sc1 l1 s1) (h2 : JX X kc 3 j2 q2 p2 b2 sc2 l2 s2) (ha : bB ta ta') (hb : bB tb tb') :
    bB (CQ X (fun b'=>la kc X.prog X.w X.K X.mg b') (iA ta (iA tb (iA (IY q1 p1 b1 sc1 l1) (iA (IY q2 p2 b2 sc2 l2) Et))))) (GH j1 j2 s1 s2 ta' tb'):=⟨fun F H ω σ ρ Q Q' rp rs w kq=>by
  refine ha.go rp rs w fun x ω0 v H0 rp0 fr0 rs0 rv0 q=>hb.go rp0 rs0 q fun y ω1 yv H1 rp1 fr1 rs1 rv1 q=>?_
  obtain ⟨lw,u,g,a1,a2,rfl,rfl,hok,hsz,e1,e2,k1,k2,q⟩:=q
  cases vj rv1
  intro f1 H2 m1 _ M1 f2 H3 m2 _ M2 b' sub cb
  obtain ⟨rp3,fr3⟩:=rp1.later (m1.trans m2)
  obtain ⟨c1,v1,r1⟩:=zn (rs1.same fr3.same) e1
  obtain ⟨c2,v2,r2⟩:=zn (rs1.same fr3.same) e2
  exact ⟨F,ω1,Q',v,lw,u,f1,f2,c1,c2,a1,a2,s1 a1,s2 a2,g,rfl,rp3,Dat.same (fr1.trans fr3).same rv0,hok,hsz,h1 b' H3 f1 σ c1 a1 (M1.frz m2.frz) cb v1 (rq e1),h2 b' H3 f2 σ c2 a2 M2 cb v2 (rq e2),r1,r2,k1,k2,q,kq.fr ((fr0.trans fr1).trans fr3)⟩⟩
theorem wq.okD {P : Program} {w : World} {K : PySem.W.Frag} {mg : Str->Option Value} {base : Heap} {x qual : Str} {st : Stmt} {f c p : Addr} {fd : FuncData} {N ps : List Str} {k : Nat} {sp : ASp} (F : wq K x qual st f fd c p) (S : aH N ps (defScope st)) (len : ∀ xs ω Q,sp xs ω Q->xs.length = ps.length)
    (hbody : ∀ (A : Around) (outer : List Env) (s : Shared) (H : Hp) (E : XK),dN k (A.deeper (envOfC qual (defScope st) s.heap.objs.size f (.ref c))) ->
      ∃ t t',PSs (kE CX0 P w K mg base N qual (defScope st) f (.ref c) A outer s H E).nox (defBody st) t/\fI t t'/\∀ xs ω Q',sp xs ω Q'->t' { nx:=fun _ ω'=>Q' (.d .non) (ω'.only ω),rt:=fun a ω'=>∃ d,a = .d d/\Q' (.d d) (ω'.only ω) } (jo N xs) ω) : aJ P w K mg base CX0 (k + 1) f fd ps (aN sp):=by
  refine F.ok S (fun vs H Q E h=>?_) (fun A outer s H vs Q E hr h=>?_)
  · obtain ⟨F,xs,ω,Q',rp,rv,h,_⟩:=h
    rw [rv.length,len xs ω Q' h]
  · obtain ⟨t,t',h1,h2,h3⟩:=hbody A outer s H E hr
    obtain ⟨F,xs,ω,Q',rp,rv,h,kq⟩:=h
    refine ⟨t,h1,h2.run F H ω _ _ _ _ rp (RS.start rv) (h3 xs ω Q' h) ⟨?_,?_,fun _ _ _ _ _ _ _ z=>z.elim,fun _ _ _ _ _ _ _ z=>z.elim⟩⟩
    · exact fun ρ' ω' σ' H' e1 e2 e3 q=>kq (.d .non) (ω'.only ω) .non H' e1.only.1 e2.only (by simp [RV,Dat]) q
    · rintro a ω' v H' e1 e2 e3 ⟨d,rfl,q⟩
      exact kq (.d d) (ω'.only ω) v H' e1.only.1 e2.only (e3.same e1.only.2) q
structure KW (t2 t : TS) (t' : AS) : Prop where
  run : ∀ (F : Fs) (H : Hp) (ω : Om) (σ : St) (ρ : SA) (D : jJ) (D' : bK),Rep F H ω->RS (cut F H ω) ρ σ->t' D' ρ ω->LE F H ω D' { D with nx:=t2 D }->t D σ H
section
variable {t t1 t2 u : TS} {t1' u' : AS} {N : SA->Om->Prop} {m : Nat}
end
theorem IR {b : Heap} {x y : Str} {c d : Addr} {v z : V} {u p : Value} (hne : x≠y) (hcd : c≠d) (h : b.IsCell c (some u)) (r : bo v u) (h' : b.IsCell d (some p)) (r' : bo z p) : xl b [(x,c),(y,d)] [x,y] [v,z]:=by
  have lk : ∀ k e,([(x,c),(y,d)] : List (Str × Addr)).lookup k = some e->(k = x/\e = c)\/(k = y/\e = d):=fun k e q=>by
    rw [List.lookup_cons] at q
    cases z1 : k == x with
    | true=>rw [z1] at q;cases q;exact .inl ⟨eq_of_beq z1,rfl⟩
    | false =>
      rw [z1] at q
      simp only [List.lookup_cons] at q
      cases z2 : k == y with
      | true=>rw [z2] at q;cases q;exact .inr ⟨eq_of_beq z2,rfl⟩
      | false=>rw [z2] at q;cases q
  refine ⟨rfl,fun k e q=>?_,fun k1 k2 e q1 q2=>?_,fun j k w h1 h2=>?_⟩
  · rcases lk k e q with ⟨rfl,_⟩ | ⟨rfl,_⟩<;>simp
  · rcases lk k1 e q1 with ⟨rfl,rfl⟩ | ⟨rfl,rfl⟩<;>rcases lk k2 _ q2 with ⟨rfl,e2⟩ | ⟨rfl,e2⟩
    · rfl
    · exact absurd e2 hcd
    · exact absurd e2.symm hcd
    · rfl
  · cases j with
    | zero =>
      simp at h1 h2
      subst h1 h2
      exact ⟨c,u,by simp [List.lookup],h,r⟩
    | succ j =>
      cases j with
      | zero =>
        simp at h1 h2
        subst h1 h2
        have hb : (y == x) = false:=by
          cases q : y == x with
          | false=>rfl
          | true=>exact absurd (eq_of_beq q).symm hne
        exact ⟨d,p,by simp [List.lookup,hb],h',r'⟩
      | succ j=>simp at h1
theorem rQ {g : AG} {te : AE} {as : List AV} {rs : List D} {ρ : SA} {ω : Om} {K : List AV->SA->Om->Prop} (R : SA->Prop) (h0 : R ρ) (hl : rs.length = as.length) (hz : as.length<=sizeLine)
    (he : ∀ (i : Nat) (a : AV) (r : D) (ρ : SA) (N : SA->Om->Prop),as[i]? = some a->rs[i]? = some r->R ρ->(∀ ρ1,R ρ1->(∀ Q : AV->Om->Prop,Q (.d r) ω->te ρ1 ω Q)->N ρ1 ω)->g a ρ ω N)
    (hk : ∀ ρ,R ρ->K (rs.map AV.d) ρ ω) : dj g nC (ig te) as [] ρ ω K:=by
  refine vL (fun i xs ρ ω'=>ω' = ω/\R ρ/\xs = (rs.take i).map AV.d) ⟨rfl,h0,rfl⟩ ?_ ?_
  · rintro i a xs ρ ω' N ha ⟨rfl,hR,rfl⟩ kN
    have hi:=(List.getElem?_eq_some_iff.mp ha).1
    have hr : rs[i]? = some rs[i]:=List.getElem?_eq_getElem (by omega)
    refine he i a _ ρ _ ha hr hR fun ρ1 hR1 h=>?_
    rw [mn,if_pos rfl,iD]
    refine h _ ⟨by rw [List.length_map,List.length_take];omega,kN _ _ _ ⟨rfl,hR1,?_⟩⟩
    rw [show rs.take (i + 1) = rs.take i ++ [rs[i]] from by rw [List.take_succ,hr];rfl,List.map_append]
    rfl
  · rintro xs ρ ω' ⟨rfl,hR,rfl⟩
    rw [← hl,List.take_length]
    exact hk ρ hR
theorem nu {te : AE} {as : List AV} {rs : List D} {v0 : Option AV} {bv : SA} {ω : Om} {K : List AV->SA->Om->Prop} (hl : rs.length = as.length) (hz : as.length<=sizeLine)
    (he : ∀ (i : Nat) (a : AV) (r : D),as[i]? = some a->rs[i]? = some r->∀ Q : AV->Om->Prop,Q (.d r) ω->te (some a :: bv) ω Q)
    (hk : ∀ ρ,K (rs.map AV.d) ρ ω) : dj (eK 0) nC (ig te) as [] (v0 :: bv) ω K :=
  rQ (fun ρ=>∃ v,ρ = v :: bv) ⟨_,rfl⟩ hl hz (fun i a r ρ N ha hr ⟨v,e⟩ k=>by
    subst e
    rw [gf,List.set_cons_zero]
    exact k _ ⟨_,rfl⟩ (he i a r ha hr)) (fun ρ _=>hk ρ)
theorem wN {te : AE} {ds es : List D} {rs : List D} {v0 v1 : Option AV} {bv : SA} {ω : Om} {K : List AV->SA->Om->Prop} (hl1 : ds.length = rs.length) (hl2 : es.length = rs.length) (hz : rs.length<=sizeLine)
    (he : ∀ (i : Nat) (d e r : D),ds[i]? = some d->es[i]? = some e->rs[i]? = some r->∀ Q : AV->Om->Prop,Q (.d r) ω->te (some (.d d) :: some (.d e) :: bv) ω Q)
    (hk : ∀ ρ,K (rs.map AV.d) ρ ω) : dj (zS 2 (pr (eK 0) (pr (eK 1) Ah))) nC (ig te) (qg ds es) [] (v0 :: v1 :: bv) ω K:=by
  have el : (qg ds es).length = rs.length:=by simp [qg,hl1,hl2]
  refine rQ (fun ρ=>∃ v v',ρ = v :: v' :: bv) ⟨_,_,rfl⟩ el.symm (by omega) (fun i a r ρ N ha hr ⟨v,v',e⟩ k=>?_) (fun ρ _=>hk ρ)
  subst e
  obtain ⟨d,e,h1,h2,rfl⟩:=ya ha
  exact ⟨_,rfl,rfl,_,_,rfl,_,_,rfl,rfl,k _ ⟨_,_,rfl⟩ (he i d e r h1 h2 hr)⟩
def kz (K : PySem.W.Frag) (a : Addr) (ns : List Int) : AV:=.p (.ref a) (fun H=>SqL K H a (ns.map V.int))
def JQ (K : PySem.W.Frag) : A2:=fun x y ω Q=>∃ (a : Addr) (ns : List Int) (i v : Int),x = kz K a ns/\y = .d (.int i)/\atI ns i = some v/\Q (.d (.int v)) ω
def GT (K : PySem.W.Frag) : AC:=fun xs ω Q=>∃ (a : Addr) (ns : List Int),xs = [kz K a ns]/\Q (.d (.int ns.length)) ω
theorem Bn (K : PySem.W.Frag) (x y : AV) (ω : Om) (Q : AV->Om->Prop) : JQ K x y ω Q = (∃ (a : Addr) (ns : List Int) (i v : Int),x = kz K a ns/\y = .d (.int i)/\atI ns i = some v/\Q (.d (.int v)) ω):=rfl
theorem x6 (K : PySem.W.Frag) (xs : List AV) (ω : Om) (Q : AV->Om->Prop) : GT K xs ω Q = (∃ (a : Addr) (ns : List Int),xs = [kz K a ns]/\Q (.d (.int ns.length)) ω):=rfl
theorem FC {α β : Type} {f : α->β} {xs : List α} {i : Int} {v : α} (h : atI xs i = some v) : atI (xs.map f) i = some (f v):=by
  unfold atI at h ⊢
  rw [List.length_map]
  cases e : ixN xs.length i with
  | none=>rw [e] at h;cases h
  | some j =>
    rw [e] at h
    simp only [Option.bind_some] at h ⊢
    rw [List.getElem?_map,h];rfl
theorem C0 {F : Fs} {H : Hp} {ω : Om} {K : PySem.W.Frag} {a : Addr} {ns : List Int} {v : V} (r : RV (cut F H ω) (kz K a ns) v) : v = .ref a/\SqL K H a (ns.map V.int):=by
  obtain ⟨rfl,r⟩:=r
  exact ⟨rfl,r _ br⟩
theorem JA {K : PySem.W.Frag} : jN (rIx K) (JQ K):=⟨fun F H ω v u x y Q Q' rp h1 h2 ⟨a,ns,i,z,e1,e2,e3,q⟩ k=>by
  subst e1 e2
  obtain ⟨rfl,hs⟩:=C0 h1
  cases cj h2
  exact .inl ⟨a,_,i,_,rfl,rfl,hs,FC e3,k.int rp q⟩⟩
theorem zF {K : PySem.W.Frag} : yY (fun xs H Q=>∃ x n,xs = [x]/\FY K x H n/\Q (.int n) H) (GT K):=⟨fun F H ω vs xs Q Q' rp rv ⟨a,ns,e,q⟩ k=>by
  subst e
  obtain ⟨v,rfl,r⟩:=uP rv
  obtain ⟨rfl,hs⟩:=C0 r
  exact ⟨_,ns.length,rfl,.inl ⟨_,hs,by simp⟩,k.int rp q⟩⟩
theorem yq {K : PySem.W.Frag} {H : Hp} {a : Addr} {ns : List Int} (h : SqL K H a (ns.map V.int)) : RV (cut (fun _=>false) H (fun _=>none)) (kz K a ns) (.ref a):=by
  refine ⟨rfl,fun G' s=>?_⟩
  have s2 : c6 H G':=fun b o e=>s b o (cO.mpr ⟨rfl,rfl,e⟩)
  rcases h with (h | ⟨o,h⟩) | h
  · exact .inl (.inl (s2 _ _ h))
  · exact .inl (.inr ⟨o,s2 _ _ h⟩)
  · exact .inr h
theorem Gf {H : Hp} : Rep (fun _=>false) H (fun _=>none):=⟨fun _ _ h=>by simp at h,fun _ _ h=>by simp at h,fun _ h=>by simp at h,fun _ _ h=>by simp at h⟩
def Ku (i j : Nat) (ta : AA) : AS:=fun D ρ ω=>ta ρ ω fun xs ω1=>∃ v w,xs = [v,w]/\D.nx ((ρ.set i (some v)).set j (some w)) ω1
theorem Bb (i j : Nat) (ta : AA) (D : bK) (ρ : SA) (ω : Om) : Ku i j ta D ρ ω = (ta ρ ω fun xs ω1=>∃ v w,xs = [v,w]/\D.nx ((ρ.set i (some v)).set j (some w)) ω1):=rfl
theorem JD {i j : Nat} {ta : TA} {ta' : AA} (h : lO ta ta') : fI (JR i j ta) (Ku i j ta'):=⟨fun F H ω σ ρ D D' rp rs w k=>h.go rp rs w fun xs ω1 vs H1 rp1 fr1 rs1 rv q=>by
  obtain ⟨a,b,rfl,q⟩:=q
  obtain ⟨v,u,rfl,r1,r2⟩:=Iu rv
  exact ⟨v,u,rfl,k.nx _ _ _ _ rp1 fr1 ((rs1.set r1).set r2) q⟩⟩
theorem ze {tc : AT} {te : AE} {ds : List D} {v0 : Option AV} {bv : SA} {ω : Om} {K : List AV->SA->Om->Prop} (S : Om->Prop) (h0 : S ω)
    (ht : ∀ d∈ds,∀ ω,S ω->∀ Q : Bool->Om->Prop,(∀ b ω',S ω'->Q b ω')->tc (some (.d d) :: bv) ω Q) (he : ∀ d∈ds,∀ ω,S ω->∀ Q : AV->Om->Prop,Q (.d d) ω->te (some (.d d) :: bv) ω Q) (hz : ds.length<=sizeLine)
    (hk : ∀ (es : List D) ρ ω,es.Sublist ds->S ω->K (es.map AV.d) ρ ω) : dj (eK 0) tc (ig te) (ds.map AV.d) [] (v0 :: bv) ω K:=by
  refine sw (fun i xs ρ ω'=>∃ v es,S ω'/\ρ = v :: bv/\xs = es.map AV.d/\es.Sublist (ds.take i)) ⟨_,[],h0,rfl,rfl,List.nil_sublist _⟩ ?_ ?_
  · rintro i d xs ρ ω' N hd ⟨v,es,hS,rfl,rfl,hs⟩ kN
    have hi:=(List.getElem?_eq_some_iff.mp hd).1
    have hm:=List.mem_of_getElem? hd
    have et : ds.take (i + 1) = ds.take i ++ [d]:=by rw [List.take_succ,hd];rfl
    have hle:=hs.length_le
    rw [List.length_take] at hle
    rw [gf,List.set_cons_zero]
    refine ht d hm _ hS _ fun b ω2 hS2=>?_
    cases b with
    | true =>
      rw [if_pos rfl,iD]
      refine he d hm _ hS2 _ ⟨by rw [List.length_map];omega,kN _ _ _ ⟨_,es ++ [d],hS2,rfl,by simp,?_⟩⟩
      rw [et]
      exact hs.append (List.Sublist.refl _)
    | false =>
      rw [if_neg Bool.false_ne_true]
      refine kN _ _ _ ⟨_,es,hS2,rfl,rfl,?_⟩
      rw [et]
      exact hs.trans (List.sublist_append_left _ _)
  · rintro xs ρ ω' ⟨v,es,hS,rfl,rfl,hs⟩
    rw [List.take_length] at hs
    exact hk es _ _ hs hS
theorem Be {α : Type} {g : AG} {tc : AT} {te : AE} {as : List AV} {xs : List α} {ρ : SA} {ω : Om} {K : List AV->SA->Om->Prop} (R : SA->Prop) (h0 : R ρ) (enc : α->AV) (p : α->Bool) (f : α->D) (ea : as = xs.map enc) (hz : xs.length<=sizeLine)
    (he : ∀ (x : α) (ρ : SA) (N : SA->Om->Prop),x∈xs->R ρ->(∀ ρ1,R ρ1->(∀ Q : Bool->Om->Prop,Q (p x) ω->tc ρ1 ω Q)->(p x = true->∀ Q : AV->Om->Prop,Q (.d (f x)) ω->te ρ1 ω Q)->N ρ1 ω)->g (enc x) ρ ω N)
    (hk : ∀ ρ,R ρ->K (((xs.filter p).map f).map AV.d) ρ ω) : dj g tc (ig te) as [] ρ ω K:=by
  subst ea
  refine vL (fun i ys ρ ω'=>ω' = ω/\R ρ/\ys = (((xs.take i).filter p).map f).map AV.d) ⟨rfl,h0,rfl⟩ ?_ ?_
  · rintro i a ys ρ ω' N ha ⟨rfl,hR,rfl⟩ kN
    rw [List.getElem?_map,Option.map_eq_some_iff] at ha
    obtain ⟨x,hx,rfl⟩:=ha
    have hi:=(List.getElem?_eq_some_iff.mp hx).1
    have et : xs.take (i + 1) = xs.take i ++ [x]:=by rw [List.take_succ,hx];rfl
    refine he x ρ _ (List.mem_of_getElem? hx) hR fun ρ1 hR1 h1 h2=>h1 _ ?_
    cases hp : p x with
    | true =>
      rw [if_pos rfl,iD]
      refine h2 hp _ ⟨?_,kN _ _ _ ⟨rfl,hR1,?_⟩⟩
      · rw [List.length_map,List.length_map]
        have:=List.length_filter_le p (xs.take i)
        rw [List.length_take] at this
        omega
      · rw [et,List.filter_append]
        simp [hp]
    | false =>
      rw [if_neg Bool.false_ne_true]
      refine kN _ _ _ ⟨rfl,hR1,?_⟩
      rw [et,List.filter_append]
      simp [hp]
  · rintro ys ρ ω' ⟨rfl,hR,rfl⟩
    rw [List.length_map,List.take_length]
    exact hk ρ hR
theorem qv {α : Type} {tc : AT} {te : AE} {xs : List α} {v0 : Option AV} {bv : SA} {ω : Om} {K : List AV->SA->Om->Prop} (enc : α->D) (p : α->Bool) (f : α->D) (hz : xs.length<=sizeLine)
    (ht : ∀ x∈xs,∀ Q : Bool->Om->Prop,Q (p x) ω->tc (some (.d (enc x)) :: bv) ω Q) (he : ∀ x∈xs,p x = true->∀ Q : AV->Om->Prop,Q (.d (f x)) ω->te (some (.d (enc x)) :: bv) ω Q)
    (hk : ∀ ρ,K (((xs.filter p).map f).map AV.d) ρ ω) : dj (eK 0) tc (ig te) ((xs.map enc).map AV.d) [] (v0 :: bv) ω K :=
  Be (fun ρ=>∃ v,ρ = v :: bv) ⟨_,rfl⟩ (fun x=>.d (enc x)) p f (by simp) hz (fun x ρ N hx ⟨v,e⟩ k=>by
    subst e
    rw [gf,List.set_cons_zero]
    exact k _ ⟨_,rfl⟩ (ht x hx) (he x hx)) (fun ρ _=>hk ρ)
theorem F4 {α β : Type} {tc : AT} {te : AE} {xs : List α} {ys : List β} {v0 v1 : Option AV} {bv : SA} {ω : Om} {K : List AV->SA->Om->Prop} (e1 : α->D) (e2 : β->D) (p : α × β->Bool) (f : α × β->D) (hz : xs.length<=sizeLine)
    (ht : ∀ q∈xs.zip ys,∀ Q : Bool->Om->Prop,Q (p q) ω->tc (some (.d (e1 q.1)) :: some (.d (e2 q.2)) :: bv) ω Q) (he : ∀ q∈xs.zip ys,p q = true->∀ Q : AV->Om->Prop,Q (.d (f q)) ω->te (some (.d (e1 q.1)) :: some (.d (e2 q.2)) :: bv) ω Q)
    (hk : ∀ ρ,K ((((xs.zip ys).filter p).map f).map AV.d) ρ ω) : dj (zS 2 (pr (eK 0) (pr (eK 1) Ah))) tc (ig te) (qg (xs.map e1) (ys.map e2)) [] (v0 :: v1 :: bv) ω K :=
  Be (fun ρ=>∃ v v',ρ = v :: v' :: bv) ⟨_,_,rfl⟩ (fun q : α × β=>.d (.tup [e1 q.1,e2 q.2])) p f (by simp [qg,List.zip_map,Function.comp_def]) (Nat.le_trans (by simp;omega) hz) (fun x ρ N hx ⟨v,v',e⟩ k=>by
    subst e
    exact ⟨_,rfl,rfl,_,_,rfl,_,_,rfl,rfl,k _ ⟨_,_,rfl⟩ (ht x hx) (he x hx)⟩) (fun ρ _=>hk ρ)
structure Pq where
  a : Addr
  ns : List Int
  i : Int
  f : Int
  h0 : 0<=i
  hf : 0<=f
  hn : ns.length<=63
section
variable {prog : Program} {w : World} {A : Around} {E : Value->Shared->Prop} {s : Shared}
end
def Fm (lo c : Int) (n : Nat) : It:=⟨fun i _=>i < n,fun i H x H'=>H' = H/\x = .int (lo + i * c),fun i _=>n<=i⟩
theorem B2 {P : Program} {w : World} {K : PySem.W.Frag} {tg : Expr} (it : Addr) (lo c : Int) (n : Nat) : yx P w K tg (Fm lo c n) [it] it (fun i h=>IsRangeIter h it (lo + (i : Nat) * c) ((n : Int) - (i : Nat)) c) where
  mem:=by simp
  obj:=fun i h st b hb=>by
    obtain rfl : b = it:=by simpa using hb
    exact ⟨_,st,fun v z=>by have z' : Data.fields _ = Data.cell v:=z;cases z'⟩
  keep:=fun i h h' st k=>k it (by simp) _ st
  item:=by
    intro X e1 e2 e3 hc i pins s σ H E I hf st hg;subst e1 e2 e3
    obtain ⟨g0,g1,g2,g3,g4,g5⟩:=hf it (by simp);have wk:=Walks.range (prog:=X.prog) (w:=X.w) (I.ok.hd hc) it lo c n
    refine wk.item i s _ _ hg st fun v h' tk hv st' kk=>?_
    obtain ⟨t,rfl⟩:=hv
    have I1 : Inv X pins σ H { s with heap:=h',toks:=tk }:=I.turned (fun b o hb e=>kk b o (by simpa using hb) e) g0 g1 g3 g4 g5
    exact ⟨_,rfl,Bp (s:={ s with heap:=h',toks:=tk }) (n:="range_iterator") st' rfl rfl (by decide) ⟨.int (lo + i * c),H,I1,⟨t,rfl⟩,⟨rfl,rfl⟩,st',fun b hb=>(hf b hb).1⟩⟩
  done:=by
    intro X e1 e2 e3 hc i pins s σ H E I hf st hg;subst e1 e2 e3
    obtain ⟨g0,g1,g2,g3,g4,g5⟩:=hf it (by simp)
    exact wpAny_pyNext_range_end (I.ok.hd hc) st (by have : n<=i:=hg;omega) fun h' eb=>⟨rfl,I.turned (t':=s.toks) (fun b o hb e=>eb b o hb e) g0 g1 g3 g4 g5⟩
  self:=fun _ _ _ _ _ st h=>wpAny_pyIter_rangeiter st h
def pV (lo c : Int) (n : Nat) : List AV:=(List.range n).map fun i : Nat=>AV.d (.int (lo + (i : Int) * c))
theorem FM {G : Hp} {lo c : Int} {n : Nat} : wK G (pV lo c n) (Fm lo c n):=fun F H ω rp s=>by
  refine ⟨by simp [pV,Fm],fun i x hx=>?_⟩
  rw [pV,List.getElem?_map,Option.map_eq_some_iff] at hx
  obtain ⟨j,hj,rfl⟩:=hx
  obtain ⟨hi,ej⟩:=List.getElem?_eq_some_iff.mp hj
  rw [List.getElem_range] at ej
  subst ej
  refine ⟨show i < n by simpa using hi,fun y H' hy=>?_⟩
  obtain ⟨rfl,rfl⟩:=hy
  exact ⟨rp,.refl,by simp [RV,Dat]⟩
def qh (kvs : List (Str × AV)) (k : Str) : Option AV:=(kvs.find? fun p=>decide (p.1 = k)).map (·.2)
def sY : List (Str × AV)->Str->AV->List (Str × AV)
  | [],k,a=>[(k,a)]
  | p :: r,k,a=>if p.1 = k then (k,a) :: r else p :: sY r k a
def ndK (kvs : List (Str × AV)) : Prop:=(kvs.map (·.1)).Nodup
section
variable {G : Hp} {F : Fs} {H : Hp} {ω : Om}
theorem RKs.length : ∀ {kvs : List (Str × AV)} {ks : List (Key × V)},RKs G kvs ks->ks.length = kvs.length
  | [],_,h=>by cases h;rfl
  | _ :: _,_,⟨v,r,h1,_,h3⟩=>by subst h1;simp [h3.length]
theorem RKs.get {k : Str} {a : AV} : ∀ {kvs : List (Str × AV)} {ks : List (Key × V)},RKs G kvs ks->qh kvs k = some a->∃ v,p8 ks (Sum.inr k : Key) = some v/\RV G a v
  | [],_,_,e=>by simp [qh] at e
  | p :: r,_,⟨v,r',h1,h2,h3⟩,e=>by
    subst h1
    by_cases hp : p.1 = k
    · rw [qh,List.find?_cons,decide_eq_true hp] at e
      cases e
      exact ⟨v,nj (by rw [hp]),h2⟩
    · rw [qh,List.find?_cons,decide_eq_false hp] at e
      obtain ⟨u,e1,e2⟩:=h3.get (k:=k) (a:=a) e
      exact ⟨u,by rw [nO (fun z=>hp (Sum.inr.inj z))];exact e1,e2⟩
theorem RKs.any {k : Str} : ∀ {kvs : List (Str × AV)} {ks : List (Key × V)},RKs G kvs ks->(ks.any fun kv=>decide (kv.1 = (Sum.inr k : Key))) = kvs.any fun p=>decide (p.1 = k)
  | [],_,h=>by cases h;rfl
  | p :: r,_,⟨v,r',h1,h2,h3⟩=>by
    subst h1
    rw [List.any_cons,List.any_cons,h3.any]
    congr 1
    by_cases hp : p.1 = k
    · rw [decide_eq_true hp,decide_eq_true (by rw [hp])]
    · rw [decide_eq_false hp,decide_eq_false fun z=>hp (Sum.inr.inj z)]
theorem RKs.keep {k : Str} {v : V} : ∀ {kvs : List (Str × AV)} {ks : List (Key × V)},RKs G kvs ks->(kvs.any fun p=>decide (p.1 = k)) = false->ks.map (fun kv=>if kv.1 = (Sum.inr k : Key) then (kv.1,v) else kv) = ks
  | [],_,h,_=>by cases h;rfl
  | p :: r,_,⟨u,r',h1,h2,h3⟩,e=>by
    subst h1
    rw [List.any_cons,Bool.or_eq_false_iff] at e
    have hp : ¬ p.1 = k:=of_decide_eq_false e.1
    rw [List.map_cons,h3.keep e.2,if_neg fun z=>hp (Sum.inr.inj z)]
theorem RKs.put1 {k : Str} {a : AV} {v : V} (hv : RV G a v) : ∀ {kvs : List (Str × AV)} {ks : List (Key × V)},RKs G kvs ks->ndK kvs->(kvs.any fun p=>decide (p.1 = k)) = true->RKs G (sY kvs k a) (ks.map fun kv=>if kv.1 = (Sum.inr k : Key) then (kv.1,v) else kv)
  | [],_,_,_,e=>by simp at e
  | p :: r,_,⟨u,r',h1,h2,h3⟩,nd,e=>by
    subst h1
    unfold sY
    by_cases hp : p.1 = k
    · rw [if_pos hp,List.map_cons,if_pos (by rw [hp])]
      have hn : (r.any fun p=>decide (p.1 = k)) = false:=by
        rw [List.any_eq_false]
        intro q hq hk
        have hk:=of_decide_eq_true hk
        have:=(List.nodup_cons.mp nd).1
        exact this (List.mem_map.mpr ⟨q,hq,by rw [hk];exact hp.symm⟩)
      rw [h3.keep hn]
      exact ⟨v,r',by rw [hp],hv,h3⟩
    · rw [if_neg hp,List.map_cons,if_neg fun z=>hp (Sum.inr.inj z)]
      rw [List.any_cons,decide_eq_false hp,Bool.false_or] at e
      exact ⟨u,_,rfl,h2,h3.put1 hv (List.nodup_cons.mp nd).2 e⟩
theorem RKs.put {k : Str} {a : AV} {v : V} {kvs : List (Str × AV)} {ks : List (Key × V)} (h : RKs G kvs ks) (hv : RV G a v) (nd : ndK kvs) (e : (kvs.any fun p=>decide (p.1 = k)) = true) : RKs G (sY kvs k a) (iq ks (Sum.inr k : Key) v):=by
  unfold iq
  rw [if_pos (by rw [h.any];exact e)]
  exact h.put1 hv nd e
theorem zD {l : Addr} {xs ys : List (Str × AV)} {o : HO} (h : ω l = some (.dic xs)) : cut F (upd H l o) (ω.put l (.dic ys)) = cut F H ω:=by
  funext b;unfold cut Om.put
  by_cases hb : b = l
  · subst hb;rw [if_pos rfl,h];simp [ow]
  · rw [if_neg hb,ax hb]
theorem Rep.writeD (R : Rep F H ω) {l : Addr} {xs ys : List (Str × AV)} {vs : List (Key × V)} (h : ω l = some (.dic xs)) (hv : RKs (cut F H ω) ys vs) :
    Rep F (upd H l (.dK vs)) (ω.put l (.dic ys))/\Fr F H ω (upd H l (.dK vs)) (ω.put l (.dic ys)):=by
  have c:=zD (F:=F) (H:=H) (ys:=ys) (o:=.dK vs) h
  refine ⟨⟨fun k zs e=>?_,fun k ds e=>?_,fun b f=>?_,fun k zs e=>?_⟩,fun b o x f e=>?_,fun b f=>?_⟩
  · have hk : k≠l:=fun z=>(by subst z;rw [Om.put_same] at e;cases e)
    rw [Om.put_ne hk] at e;rw [c,ax hk];exact R.own k zs e
  · have hk : k≠l:=fun z=>(by subst z;rw [Om.put_same] at e;cases e)
    rw [Om.put_ne hk] at e;rw [c];exact R.frz k ds e
  · obtain ⟨x,o,q⟩:=R.hid b f
    have hb : b≠l:=fun z=>(by subst z;rw [h] at x;cases x)
    exact ⟨by rw [Om.put_ne hb];exact x,o,by rw [ax hb];exact q⟩
  · rw [c]
    by_cases hk : k = l
    · subst hk;rw [Om.put_same] at e;cases e;exact ⟨vs,bQ,hv⟩
    · rw [Om.put_ne hk] at e;rw [ax hk];exact R.dic k zs e
  · have hb : b≠l:=fun z=>(by subst z;rw [h] at x;cases x)
    rw [Om.put_ne hb,ax hb];exact ⟨e,x⟩
  · obtain ⟨x,o,q⟩:=R.hid b f
    have hb : b≠l:=fun z=>(by subst z;rw [h] at x;cases x)
    exact ax hb
theorem Rep.mkD (R : Rep F H ω) {l : Addr} {xs : List (Str × AV)} {vs : List (Key × V)} (h : H l = none) (hv : RKs (cut F H ω) xs vs) :
    Rep F (upd H l (.dK vs)) (ω.put l (.dic xs))/\Fr F H ω (upd H l (.dK vs)) (ω.put l (.dic xs)):=by
  obtain ⟨f1,f2⟩:=R.free h
  have c : cut F (upd H l (.dK vs)) (ω.put l (.dic xs)) = cut F H ω:=by
    funext b;unfold cut Om.put
    by_cases hb : b = l
    · subst hb;rw [if_pos rfl,f1,f2,h];simp [ow]
    · rw [if_neg hb,ax hb]
  refine ⟨⟨fun k zs e=>?_,fun k ds e=>?_,fun b f=>?_,fun k zs e=>?_⟩,fun b o x f e=>?_,fun b f=>?_⟩
  · have hk : k≠l:=fun z=>(by subst z;rw [Om.put_same] at e;cases e)
    rw [Om.put_ne hk] at e;rw [c,ax hk];exact R.own k zs e
  · have hk : k≠l:=fun z=>(by subst z;rw [Om.put_same] at e;cases e)
    rw [Om.put_ne hk] at e;rw [c];exact R.frz k ds e
  · obtain ⟨x,o,q⟩:=R.hid b f
    have hb : b≠l:=aZ q h
    exact ⟨by rw [Om.put_ne hb];exact x,o,by rw [ax hb];exact q⟩
  · rw [c]
    by_cases hk : k = l
    · subst hk;rw [Om.put_same] at e;cases e;exact ⟨vs,bQ,hv⟩
    · rw [Om.put_ne hk] at e;rw [ax hk];exact R.dic k zs e
  · have hb : b≠l:=aZ e h
    rw [Om.put_ne hb,ax hb];exact ⟨e,x⟩
  · obtain ⟨x,o,q⟩:=R.hid b f
    exact ax (aZ q h)
end
def Hu (td ty : AE) : AE:=fun ρ ω Q=>td ρ ω fun x ω1=>ty ρ ω1 fun y ω2=>∃ l kvs k a,x = .r (.ref l)/\ω2 l = some (.dic kvs)/\y = .d (.str k)/\qh kvs k = some a/\Q a ω2
theorem xo (td ty : AE) (ρ : SA) (ω : Om) (Q : AV->Om->Prop) : Hu td ty ρ ω Q = (td ρ ω fun x ω1=>ty ρ ω1 fun y ω2=>∃ l kvs k a,x = .r (.ref l)/\ω2 l = some (.dic kvs)/\y = .d (.str k)/\qh kvs k = some a/\Q a ω2):=rfl
theorem sA {td ty : TE} {td' ty' : AE} (hd : bB td td') (hy : bB ty ty') : bB (GB td ty) (Hu td' ty'):=⟨fun F H ω σ ρ Q Q' rp rs w k =>
  hd.go rp rs w fun x ω1 v H1 rp1 fr1 rs1 rv1 q1=>hy.go rp1 rs1 q1 fun y ω2 u H2 rp2 fr2 rs2 rv2 ⟨l,kvs,kk,a,e1,e2,e3,e4,q⟩=>by
    subst e1 e3
    cases (show v = .ref l from rv1)
    cases vj rv2
    obtain ⟨ks,z1,z2⟩:=rp2.dic l kvs e2
    obtain ⟨vv,y1,y2⟩:=z2.get e4
    have g:=Ck.k (k:=(Sum.inr kk : Key)) z1
    rw [y1] at g
    exact ⟨l,vv,rfl,g,k a ω2 vv H2 rp2 (fr1.trans fr2) y2 q⟩⟩
def Hd (td ty tv : AE) : AS:=fun D ρ ω=>tv ρ ω fun v ω1=>td ρ ω1 fun x ω2=>ty ρ ω2 fun y ω3=>∃ l kvs k,x = .r (.ref l)/\ω3 l = some (.dic kvs)/\y = .d (.str k)/\ndK kvs/\(kvs.any fun p=>decide (p.1 = k)) = true/\kvs.length < sizeLine/\D.nx ρ (ω3.put l (.dic (sY kvs k v)))
theorem w5 (td ty tv : AE) (D : bK) (ρ : SA) (ω : Om) : Hd td ty tv D ρ ω = (tv ρ ω fun v ω1=>td ρ ω1 fun x ω2=>ty ρ ω2 fun y ω3=>∃ l kvs k,x = .r (.ref l)/\ω3 l = some (.dic kvs)/\y = .d (.str k)/\ndK kvs/\(kvs.any fun p=>decide (p.1 = k)) = true/\kvs.length < sizeLine/\D.nx ρ (ω3.put l (.dic (sY kvs k v)))):=rfl
theorem za {td ty tv : TE} {td' ty' tv' : AE} (hd : bB td td') (hy : bB ty ty') (hv : bB tv tv') : fI (Hn td ty tv) (Hd td' ty' tv'):=⟨fun F H ω σ ρ D D' rp rs w k =>
  hv.go rp rs w fun v ω1 vv H1 rp1 fr1 rs1 rv1 q1=>hd.go rp1 rs1 q1 fun x ω2 xv H2 rp2 fr2 rs2 rv2 q2=>hy.go rp2 rs2 q2 fun y ω3 yv H3 rp3 fr3 rs3 rv3 ⟨l,kvs,kk,e1,e2,e3,nd,an,sz,q⟩=>by
    subst e1 e3
    cases (show xv = .ref l from rv2)
    cases vj rv3
    obtain ⟨ks,z1,z2⟩:=rp3.dic l kvs e2
    have rv : RV (cut F H3 ω3) v vv:=rv1.same (fr2.trans fr3).same
    obtain ⟨rp4,fr4⟩:=rp3.writeD e2 (z2.put (k:=kk) rv nd an)
    exact ⟨l,_,rfl,Di.k (k:=(Sum.inr kk : Key)) z1 (by rw [z2.length];exact sz),k.nx ρ _ σ _ rp4 (((fr1.trans fr2).trans fr3).trans fr4) (rs3.same fr4.same) q⟩⟩
def rP : List AE->SA->Om->(List AV->Om->Prop)->Prop
  | [],_,ω,Q=>Q [] ω
  | t :: r,ρ,ω,Q=>t ρ ω fun x ω1=>rP r ρ ω1 fun xs ω2=>Q (x :: xs) ω2
theorem uq (ρ : SA) (ω : Om) (Q : List AV->Om->Prop) : rP [] ρ ω Q = Q [] ω:=rfl
theorem qI (t : AE) (r : List AE) (ρ : SA) (ω : Om) (Q : List AV->Om->Prop) : rP (t :: r) ρ ω Q = (t ρ ω fun x ω1=>rP r ρ ω1 fun xs ω2=>Q (x :: xs) ω2):=rfl
def G3 (ks : List Str) (ts : List AE) : AE:=fun ρ ω Q=>ks.Nodup/\ks.length<=15/\∀ p,ω p = none->rP ts ρ (ω.put p (.dic [])) fun xs ω1=>ω1 p = some (.dic [])/\xs.length = ks.length/\Q (.r (.ref p)) (ω1.put p (.dic (ks.zip xs)))
theorem xZ (ks : List Str) (ts : List AE) (ρ : SA) (ω : Om) (Q : AV->Om->Prop) : G3 ks ts ρ ω Q = (ks.Nodup/\ks.length<=15/\∀ p,ω p = none->rP ts ρ (ω.put p (.dic [])) fun xs ω1=>ω1 p = some (.dic [])/\xs.length = ks.length/\Q (.r (.ref p)) (ω1.put p (.dic (ks.zip xs)))):=rfl
inductive l9 : List (TE × TE)->List Str->List AE->Prop
  | nil : l9 [] [] []
  | cons {k : Str} {tv : TE} {tv' : AE} {r : List (TE × TE)} {ks : List Str} {ts : List AE} : bB tv tv'->l9 r ks ts->l9 ((tC (.str k),tv) :: r) (k :: ks) (tv' :: ts)
theorem l9.go {trs : List (TE × TE)} {ks : List Str} {ts : List AE} (h : l9 trs ks ts) : ∀ {F : Fs} {H : Hp} {ω : Om} {σ : St} {ρ : SA} {Q : List (V × V)->Hp->Prop} {Q' : List AV->Om->Prop},Rep F H ω->RS (cut F H ω) ρ σ->rP ts ρ ω Q' ->
    (∀ (xs : List AV) (ω1 : Om) (vs : List V) (H1 : Hp),Rep F H1 ω1->Fr F H ω H1 ω1->RVs (cut F H1 ω1) xs vs->vs.length = ks.length->Q' xs ω1->Q ((ks.zip vs).map fun p=>(V.str p.1,p.2)) H1)->vS trs σ H Q:=by
  induction h with
  | nil=>intro F H ω σ ρ Q Q' rp rs w k;exact k [] ω [] H rp .refl rfl rfl w
  | @cons kk tv tv' r ks ts hv hr ih =>
    intro F H ω σ ρ Q Q' rp rs w k
    refine hv.go rp rs w fun x ω1 v H1 rp1 fr1 rs1 rv1 q1=>ih rp1 rs1 q1 fun xs ω2 vs H2 rp2 fr2 rvs hl q2=>?_
    exact k (x :: xs) ω2 (v :: vs) H2 rp2 (fr1.trans fr2) ⟨v,vs,rfl,rv1.same fr2.same,rvs⟩ (by simp [hl]) q2
theorem xX : ∀ {more acc : List (Key × V)},((acc ++ more).map (·.1)).Nodup->jW acc more = acc ++ more
  | [],acc,_=>by simp [jW]
  | p :: r,acc,h=>by
    have hn : (acc.any fun kv=>decide (kv.1 = p.1)) = false:=by
      rw [List.any_eq_false]
      intro q hq hk
      have hk:=of_decide_eq_true hk
      rw [List.map_append,List.map_cons] at h
      exact (List.nodup_append.mp h).2.2 _ (List.mem_map.mpr ⟨q,hq,rfl⟩) _ (List.mem_cons_self ..) hk
    have hp : iq acc p.1 p.2 = acc ++ [p]:=by unfold iq;rw [if_neg (by rw [hn];decide)]
    show jW (iq acc p.1 p.2) r = _
    rw [hp,xX (by simpa using h)]
    simp
theorem AU {G : Hp} : ∀ {ks : List Str} {xs : List AV} {vs : List V},RVs G xs vs->xs.length = ks.length->RKs G (ks.zip xs) ((ks.zip vs).map fun p=>((Sum.inr p.1 : Key),p.2))
  | [],[],_,h,_=>by cases h;rfl
  | [],_ :: _,_,_,e=>by simp at e
  | _ :: _,[],_,_,e=>by simp at e
  | k :: ks,x :: xs,_,⟨v,r,h1,h2,h3⟩,e=>by
    subst h1
    exact ⟨v,_,rfl,h2,AU h3 (by simpa using e)⟩
theorem HJ {trs : List (TE × TE)} {ks : List Str} {ts : List AE} (h : l9 trs ks ts) : bB (GD trs) (G3 ks ts):=⟨fun F H ω σ ρ Q Q' rp rs w k=>by
  obtain ⟨nd,h15,w⟩:=w
  intro p hp
  obtain ⟨rp1,fr1⟩:=rp.mkD (xs:=[]) (vs:=[]) hp rfl
  refine h.go rp1 (rs.same fr1.same) (w p (rp.free hp).1) fun xs ω1 vs H1 rp2 fr2 rvs hl q=>?_
  obtain ⟨e1,e2,q⟩:=q
  obtain ⟨k0,z1,z2⟩:=rp2.dic p [] e1
  cases z2
  have hz:=AU rvs e2
  obtain ⟨rp3,fr3⟩:=rp2.writeD e1 hz
  refine ⟨z1,(ks.zip vs).map fun p=>((Sum.inr p.1 : Key),p.2),by simp [kV,Function.comp_def],by simp;omega,?_⟩
  rw [xX (by
    rw [List.nil_append,List.map_map]
    have : (List.map ((fun x : Key × V=>x.1) ∘ fun p : Str × V=>((Sum.inr p.1 : Key),p.2)) (ks.zip vs)) = ks.map fun k=>(Sum.inr k : Key):=by
      rw [show ((fun x : Key × V=>x.1) ∘ fun p : Str × V=>((Sum.inr p.1 : Key),p.2)) = (fun k=>(Sum.inr k : Key)) ∘ Prod.fst from rfl,← List.map_map,List.map_fst_zip (by omega)]
    rw [this]
    exact List.pairwise_map.mpr (nd.imp fun {a b} hne e=>hne (Sum.inr.inj e))),List.nil_append]
  exact k (.r (.ref p)) _ _ _ rp3 ((fr1.trans fr2).trans fr3) rfl q⟩
def tx (l : List Nat) : Str:=⟨l.toArray⟩
def jn (s : List Nat) : List (List Nat)->List Nat
  | []=>[]
  | [x]=>x
  | x :: y :: r=>x ++ s ++ jn s (y :: r)
inductive PFs (X : Cx) : List Expr->List TE->Prop
  | nil : PFs X [] []
  | cons {e : Expr} {t : TE} {es : List Expr} {ts : List TE} : PE X e t->PFs X es ts->PFs X (e :: es) (t :: ts)
inductive C5 : List TE->List AE->Prop
  | nil : C5 [] []
  | cons {t : TE} {t' : AE} {ts : List TE} {ts' : List AE} : bB t t'->C5 ts ts'->C5 (t :: ts) (t' :: ts')
section
variable {K : PySem.W.Frag} {to : TE} {to' : AE} {t : TA} {t' : AA}
end
end L2
namespace L2
open PySem PySem.Spec PyProof.Rows PySem.W
def CXx (P : Program) (w : World) : CXT:=fun outer H s E e s'=>∃ (a C t : Addr) (H' : Hp) (B : Heap),e = .ref a/\s'.os = s.os/\AllBare s'.gens/\Un (frs outer) [] H H' s.heap s'.heap/\HOk P w H' B /\
  Heap.FlyingW B outer a (.ref C) (.ref t) s'.heap/\(∀ b o,s.heap.get? b = some o->H b = none->b ∉ frs outer->B.get? b = some o)/\(∀ b o,s.heap.get? b = some o->b ∉ frs outer->∃ o',B.get? b = some o')/\E (.ref a) (some C) H'
theorem ve {P : Program} {w : World} {H : Hp} {h : Heap} {a : Addr} {o : HO} (x : c7 P w H h a o) : ∃ u,h.get? a = some u:=by
  cases o with
  | lst xs=>obtain ⟨_,_,_,_,e⟩:=x;exact ⟨_,e⟩
  | tup xs=>obtain ⟨_,_,_,⟨_,e,_⟩,_⟩:=x;exact ⟨_,e⟩
  | dK kvs=>obtain ⟨_,_,_,_,o,_,_,e,_⟩:=x;exact ⟨_,e⟩
  | dT kvs=>obtain ⟨_,_,_,_,o,_,_,e,_⟩:=x;exact ⟨_,e⟩
  | set S n=>obtain ⟨o,_,_,_,e,_⟩:=x;exact ⟨_,e⟩
  | ins C dx fs=>obtain ⟨_,_,_,e,_⟩:=x;exact ⟨_,e⟩
  | own y=>obtain ⟨_,e⟩:=x;exact ⟨_,e⟩
  | xd fs=>obtain ⟨_,⟨_,_,_,e,_⟩,_⟩:=x;exact ⟨_,e⟩
  | rng lo hi=>obtain ⟨_,_,_,e⟩:=x;exact ⟨_,e⟩
  | frz ob u=>obtain ⟨e,_⟩:=x;exact ⟨_,e⟩
  | tbl ps=>obtain ⟨qs,e,_⟩:=x;exact ⟨_,e⟩
  | met f y=>exact ⟨_,show h.get? a = some _ from x⟩
  | ext φ=>obtain ⟨_,⟨_,e⟩,_⟩:=x;exact ⟨_,e⟩
section
variable {P : Program} {w : World} {K : PySem.W.Frag} {mg : Str->Option Value} {base : Heap} {N : List Str} {qual : Str} {scope : Scope} {f : Addr} {cd : Value} {A : Around} {outer : List Env} {s₀ : Shared} {H₀ : Hp} {E : XK}
theorem u8 {pins : List (Addr × Obj)} {σ : St} {H : Hp} {s1 : Shared} {h' : Heap} {e C : Addr} {vs : List Value} (I : Inv (kE (CXx P w) P w K mg base N qual scope f cd A outer s₀ H₀ E) pins σ H s1) (hx : Heap.MadeExcOf s1.heap h' e (.ref C) vs) (hE : E (.ref e) (some C) H) :
    (kE (CXx P w) P w K mg base N qual scope f cd A outer s₀ H₀ E).xe (.ref e) { s1 with heap:=h' }:=by
  have hfr:=I.ok.frames
  have hst : s1.heap.FunFrames base (envOfC qual scope s₀.heap.objs.size f cd :: outer):=I.stack
  have hin : ∀ env∈(envOfC qual scope s₀.heap.objs.size f cd :: outer),∀ b,env.frame = some b->b∈frs (envOfC qual scope s₀.heap.objs.size f cd :: outer):=fun env he b hb=>List.mem_filterMap.mpr ⟨env,he,hb⟩
  have hfs : ∀ b,b∈frs (envOfC qual scope s₀.heap.objs.size f cd :: outer)->b = s₀.heap.objs.size\/b∈frs outer:=fun b hb=>by
    obtain ⟨env,he,hf⟩:=List.mem_filterMap.mp hb
    rcases List.mem_cons.mp he with rfl | he
    · exact .inl (Option.some.inj hf).symm
    · exact .inr (List.mem_filterMap.mpr ⟨env,he,hf⟩)
  have hB : ∀ b o,s1.heap.get? b = some o->b≠s₀.heap.objs.size->b ∉ frs outer->(hideAll s1.heap (frs (envOfC qual scope s₀.heap.objs.size f cd :: outer))).get? b = some o:=fun b o hb h1 h2=>hideAll_get _ hb fun hm=>(hfs b hm).elim h1 h2
  have lt0 : ∀ b o,s₀.heap.get? b = some o->b≠s₀.heap.objs.size:=fun b o hb=>Nat.ne_of_lt (Heap.lt_size hb)
  have nex : ∀ b : Addr,b ∉ (kE (CXx P w) P w K mg base N qual scope f cd A outer s₀ H₀ E).ex:=fun b z=>absurd (show b∈([] : List Addr) from z) (by simp)
  refine wpAny_leaves_madeW (base:=hideAll s1.heap (frs (envOfC qual scope s₀.heap.objs.size f cd :: outer))) hfr rfl (fun b o q=>of_hideAll _ q) (funFrames_hide hst hin) hx fun h'' t x1 x2 x3 x4=>?_
  have stay:=x1.1
  have keep : ∀ b o,s₀.heap.get? b = some o->H₀ b = none->b ∉ frs outer->(hideAll s1.heap (frs (envOfC qual scope s₀.heap.objs.size f cd :: outer))).get? b = some o:=fun b o hb hn ho=>hB b o (I.base.keep b o hb hn ho (nex b)) (lt0 b o hb) ho
  have there : ∀ b o,s₀.heap.get? b = some o->b ∉ frs outer->∃ o',(hideAll s1.heap (frs (envOfC qual scope s₀.heap.objs.size f cd :: outer))).get? b = some o':=fun b o hb ho=>by
    obtain ⟨o',q⟩:=I.base.there b o hb (nex b)
    exact ⟨o',hB b o' q (lt0 b o hb) ho⟩
  have slot : ∀ b o,s₀.heap.get? b = some o->H₀ b = none->b∈frs outer->∃ sl,h''.get? b = some { o with slots:=sl }:=fun b o hb hn ho=>by
    obtain ⟨sl,q⟩:=I.base.slot b o hb hn ho (nex b)
    obtain ⟨_,o2,q2,nf⟩:=hst.mem (b:=b) (by
      obtain ⟨env,he,hf⟩:=List.mem_filterMap.mp ho
      exact List.mem_filterMap.mpr ⟨env,List.mem_cons_of_mem _ he,hf⟩)
    rw [q] at q2
    cases q2
    obtain ⟨sl2,q3⟩:=x4 b _ (hx.keeps b _ q) nf
    exact ⟨sl2,q3⟩
  refine ⟨e,C,t,H,_,rfl,I.os,I.bare,⟨fun b o hb hn ho _=>stay b o (keep b o hb hn ho),fun b o hb hn ho _=>slot b o hb hn ho,fun b o hb hn _=>I.base.free b o hb hn (nex b),fun b o hb _=>?_,I.base.tups,I.base.frzs,I.base.tbls⟩,?_,x1,keep,there,hE⟩
  · by_cases ho : b∈frs outer
    · by_cases hn : H₀ b = none
      · obtain ⟨sl,q⟩:=slot b o hb hn ho
        exact ⟨_,q⟩
      · exact absurd (I.ok.frf b ho) hn
    · obtain ⟨o',q⟩:=there b o hb ho
      exact ⟨o',stay b o' q⟩
  · intro a o ha
    have nf : ∀ b u,H b = some u->b ∉ frs (envOfC qual scope s₀.heap.objs.size f cd :: outer):=fun b u hu hm=>by
      have:=I.stkFree b hm
      rw [hu] at this;cases this
    refine (I.hok a o ha).stay (fun b u hb q=>hideAll_get _ q ?_) (fun _ q=>q) (fun _ _ q=>q) fun _ _ _ q=>q
    rcases hb with rfl | hb
    · exact nf _ _ ha
    · exact nf _ _ hb
end
abbrev E5 : List Value:=[.type "ValueError",.type "Exception",.type "BaseException",.type "object"]
theorem FP {K : PySem.W.Frag} {h : Heap} {mg : Str->Option Value} {x : Str} {C : Addr} (X : K.In h) (b : mg x = some (.ref C)) (z : excIn K C E5 "ValueError.__new__" = true) : OwnCls x C E5 "ValueError.__new__" mg h:=by
  unfold excIn at z
  split at z
  case h_2=>cases z
  case h_1 dd cd sl lk =>
    split at z
    case h_2=>cases z
    case h_1 C1 bm k0 k1 k2 k3 n k5 em es =>
      simp only [Bool.and_eq_true,beq_iff_eq,Bool.not_eq_true'] at z
      obtain ⟨⟨⟨⟨⟨e1,e2⟩,nodel⟩,tl⟩,nsok⟩,noinit⟩:=z
      subst e1 e2
      obtain ⟨nm,bs,mro,ns,qn,hd,sn,sub,ab,col,del⟩:=cd
      dsimp only at em nodel nsok noinit
      subst em nodel
      obtain ⟨l⟩:=sl
      simp only at es
      subst es
      exact ⟨b,bm,ns,nm,qn,bs,hd,sn,sub,ab,col,dd,k0,k1,k2,k3,k5,_,X _ _ lk,.of_isNs (isNs_of_in X nsok),nsMap_none_of_in X nsok noinit,tail_of_in X tl⟩
def Ev (C : Addr) (E : XK) (t : TA) : TS:=fun _ σ H=>t σ H fun vs H1=>vs.length<=1000/\∀ e,E (.ref e) (some C) H1
section
variable {P : Program} {w : World} {K : PySem.W.Frag} {mg : Str->Option Value} {base : Heap} {N : List Str} {qual : Str} {scope : Scope} {f : Addr} {cd : Value} {A : Around} {outer : List Env} {s₀ : Shared} {H₀ : Hp} {E : XK}
theorem yg {x : Str} {C : Addr} {e0 : Expr} {es : List Expr} {t : TA} {np cpos pos : Pos} (hr : (A.deeper (envOfC qual scope s₀.heap.objs.size f cd)).handled = none) (hg : Gl (kE (CXx P w) P w K mg base N qual scope f cd A outer s₀ H₀ E) x) (hm : mg x = some (.ref C)) (hC : excIn K C E5 "ValueError.__new__" = true)
    (ha : PA (kE (CXx P w) P w K mg base N qual scope f cd A outer s₀ H₀ E).nox (e0 :: es) t) (hdb : (x == ("__debug__" : Str)) = false:=by decide)
    (he : starEach (e0 :: es) (envOfC qual scope s₀.heap.objs.size f cd) = (false,eval e0 (envOfC qual scope s₀.heap.objs.size f cd)) :: starEach es (envOfC qual scope s₀.heap.objs.size f cd):=by rfl) (hpl : (backTo cpos (starEach es (envOfC qual scope s₀.heap.objs.size f cd))).any (·.1) = false:=by rfl) :
    PS (kE (CXx P w) P w K mg base N qual scope f cd A outer s₀ H₀ E) (.Raise (some (.Call (.Name x np) (e0 :: es) [] cpos)) none pos) (Ev C E t):=.mk <| by
  intro pins s σ H D I h
  obtain ⟨tl,NN,nm,q,bs,hdct,sn,sub,ab,col,dd,k0,k1,k2,k3,k5,mN,hCo,hN,hni,T⟩:=(FP (mg:=mg) I.ok.mod.kin hm hC).obj
  refine wpAny_Raise_call_subU (C:=C) (nm:=nm) (q:=q) (N:=NN) (bs:=bs) (bm:=tl) (hdct:=hdct) (sn:=sn) (sub:=sub) (ab:=ab) (col:=col) (dd:=dd) (k0:=k0) (k1:=k1) (k2:=k2) (k3:=k3) (k5:=k5)
    PySem.F.excBase_ValueError (by decide) PySem.F.excBase_ValueError (mN:=mN) (T.hasType PySem.F.excBase_ValueError.hasBase) hr ?_ hni (kT I hg hm ⟨rfl,?_⟩ hdb)
  · show (backTo cpos (starEach (e0 :: es) (envOfC qual scope s₀.heap.objs.size f cd))).any (·.1) = false
    rw [he]
    show (false || (backTo cpos (starEach es (envOfC qual scope s₀.heap.objs.size f cd))).any (·.1)) = false
    rw [hpl];rfl
  · have ev:=ha cpos pins s σ H _ (I.wish _) h
    show wpAny _ _ (evalArgs (.ref C) true (backTo cpos (starEach (e0 :: es) (envOfC qual scope s₀.heap.objs.size f cd))) []) _ _ _
    have ev : wpAny (model P w) (A.deeper (envOfC qual scope s₀.heap.objs.size f cd)) (spliced (backTo cpos (starEach (e0 :: es) (envOfC qual scope s₀.heap.objs.size f cd)))) _ _ s:=ev
    rw [he] at ev ⊢
    refine Calls.evalArgs_plain (wpAny_mono ev (fun us s2 hz=>?_) fun _ _ z=>False.elim z)
    obtain ⟨vs,H1,I1,rv,hl,hE⟩:=hz
    have I1:=I1.unwish
    exact ⟨rfl,by rw [← rv.length];exact Nat.le_of_lt (bi hl),I1.bk _ _ hCo,hN.keeps I1.bk,T.keeps I1.bk,fun h' e hx=>u8 I1 hx (hE e)⟩
end
end L2
namespace L2
open PySem PySem.Spec PySem.Calls PyProof.Rows PySem.W PySem.Builtin PySem.Builtin.ObjectAttr PySem.Builtin.Getset_descriptor
def Ab (K : PySem.W.Frag) (D : Addr) : Bool:=(findIn K (.ref D) "__getattribute__" == some (some (.builtin "BaseException.__getattribute__")) && findIn K (.ref D) "__getattr__" == some none) && (clsIn K D).isSome && (findIn K (.ref D) "__class__" == some (some (.builtin "object.__class__"))) && (specialIn K (.builtin "object.__class__") "__get__" == some (some (.builtin "getset_descriptor.__get__"))) && (takesIn K (.builtin "object.__class__") == some true) && (mroIn K D (.type "object") == some true && mroIn K D (.type "BaseException") == some true) && excIn K D E5 "ValueError.__new__"
def xM (x D : Addr) (h : Heap) : Prop:=∃ o,h.get? x = some o/\o.cls = .ref D
theorem xM.ty {x D : Addr} {h : Heap} (e : xM x D h) (M : Model) : Looks M h (typeOf (.ref x)) (.ref D):=by
  obtain ⟨o,h1,h2⟩:=e
  exact h2 ▸ (Looks.ld h1).andThen .now
section
variable {prog : Program} {w : World} {A : Around} {E : Value->Shared->Prop} {s : Shared} {K : PySem.W.Frag} {x D : Addr}
end
def Fi (a C : Addr) : HO:=.ext (xM a C)
theorem Inv.track {X : Cx} {pins : List (Addr × Obj)} {σ : St} {H : Hp} {s : Shared} (J : Inv X pins σ H s) {a : Addr} {o : HO} (hn : H a = none) (h0 : X.s₀.heap.get? a = none) (hL : a≠X.env.locals) (hC : ∀ x c,X.env.cells.lookup x = some c->c≠a)
    (hp : ∀ p∈X.pn ++ pins,p.1≠a) (ho : c7 X.prog X.w (upd H a o) s.heap a o) : Inv X pins σ (upd H a o) s:=by
  have ne : ∀ b u,H b = some u->b≠a:=fun b u h z=>by subst z;rw [hn] at h;cases h
  refine ⟨J.ok,J.os,J.bare,⟨J.base.keep,J.base.slot,fun b ob h1 h2 h3=>?_,J.base.there,fun b xs h=>?_,fun b ob u h=>?_,fun b ps h=>?_⟩,J.loc,J.cell,?_,fun x c h=>?_,fun p hm=>?_,fun b u h=>?_,J.len⟩
  · rw [ax (fun z=>by subst z;rw [h0] at h1;cases h1)]
    exact J.base.free b ob h1 h2 h3
  · have:=J.base.tups b xs h
    rw [ax (ne b _ this)];exact this
  · have:=J.base.frzs b ob u h
    rw [ax (ne b _ this)];exact this
  · obtain ⟨more,this⟩:=J.base.tbls b ps h
    exact ⟨more,by rw [ax (ne b _ this)];exact this⟩
  · rw [ax (Ne.symm hL)];exact J.free
  · rw [ax (hC x c h)];exact J.freeC x c h
  · obtain ⟨z1,z2,z3,z4,z5⟩:=J.pin p hm
    exact ⟨z1,by rw [ax (hp p hm)];exact z2,z3,z4,z5⟩
  · by_cases hb : b = a
    · subst hb;rw [bQ] at h;cases h;exact ho
    · rw [ax hb] at h
      exact (J.hok b u h).stay (fun _ _ _ q=>q) (fun c q=>by rw [ax (ne c _ q)];exact q) (fun c xs q=>by rw [ax (ne c _ q)];exact q) fun c o' u' q=>by rw [ax (ne c _ q)];exact q
def PEX (X : Cx) (CX : CXT) (e : Expr) (t : XK->TE) : Prop:=∀ (pins : List (Addr × Obj)) (s : Shared) (σ : St) (H : Hp) (Q : VK) (E : XK),Inv X pins σ H s->t E σ H Q ->
  wpAny (model X.prog X.w) X.A (eval e X.env) (EP X pins σ Q) (fun x s'=>∃ H1 s1,Inv X pins σ H1 s1/\CX X.stack H1 s1 E x s') s
section
variable {X : Cx} {CX : CXT} {k : Nat} {f : Addr} {fd : FuncData} {ps : List Str} {sp : Sp} {x : Str} {p pos : Pos} {e : Expr} {es : List Expr} {t : TA}
theorem EN (F : aJ X.prog X.w X.K X.mg X.base CX k f fd ps sp) (hr : dN k X.A) (hg : Gl X x) (hm : X.mg x = some (.ref f)) (hk : PySem.W.keepIn X.K (.ref f) = true) (hb : a7 X.K fd ps [])
    (ha : PA X.nox (e :: es) t) (hdb : (x == ("__debug__" : Str)) = false:=by decide) (he : starEach (e :: es) X.env = (false,eval e X.env) :: starEach es X.env:=by rfl) (hpl : (backTo pos (starEach es X.env)).any (·.1) = false:=by rfl) :
    PEX X CX (.Call (.Name x p) (e :: es) [] pos) (fun E=>AJ sp [] E t):=by
  intro pins s σ H Q E I h
  refine wpAny_Call_Name_kw (kT I hg hm ?_ hdb)
  refine PySem.W.callWith_K (h₀:=X.base) I.ok.mod.kin hk (wpAny_mono (ha pos pins s σ H _ (I.wish _) h) (fun us s1 ⟨vs,H1,I1,r,q⟩=>⟨I1.kIn,?_⟩) fun _ _ z=>False.elim z) he hpl
  have I1:=I1.unwish
  have q : sp (vs ++ []) H1 Q E:=q
  rw [List.append_nil] at q
  have hl : (us ++ []).length = ps.length:=by rw [List.append_nil,← r.length];exact F.len _ _ _ _ q
  have hbb:=hb s1 us I1.kIn hl
  rw [List.append_nil] at hbb
  refine wpAny_call (codeAny_mono (F.run X.A X.stack s1 H1 ⟨us,[]⟩ us vs Q E hr I1.env0 hbb r q) fun r s' hq=>?_)
  cases r with
  | error e=>exact ⟨H1,s1,I1,hq⟩
  | ok fl =>
    cases fl with
    | ret u=>exact I1.after hq
    | next=>exact False.elim hq
    | brk=>exact False.elim hq
    | cont=>exact False.elim hq
end
end L2
namespace L2
open PySem PySem.Spec PySem.Calls PyProof.Rows PySem.W
section
variable {X : Cx} {pins : List (Addr × Obj)} {σ : St} {H : Hp} {s : Shared}
end
def PSX (X : Cx) (CX : CXT) (st : Stmt) (t : XK->TS) : Prop:=∀ (pins : List (Addr × Obj)) (s : Shared) (σ : St) (H : Hp) (D : jJ) (E : XK),Inv X pins σ H s->t E D σ H ->
  wpAny (model X.prog X.w) X.A (exec st X.env) (SP X pins D) (fun x s'=>∃ H1 s1,Inv X pins σ H1 s1/\CX X.stack H1 s1 E x s') s
section
variable {X : Cx} {CX : CXT} {e : Expr} {te : XK->TE} {pos : Pos}
theorem Fo {i : Nat} {x : Str} {pos' : Pos} (hN : X.N.Nodup) (hi : X.N[i]? = some x) (hx : Loc X.env.scope x) (he : PEX X CX e te) (hs : swapsWith e (some (.Name x pos')) pos.line X.env = pure false:=by rfl) (hf : X.fn x = true\/X.env.scope.names.lookup x = some .local:=by first | exact .inl rfl | exact .inr rfl | assumption) :
    PSX X CX (.Assign [.Name x pos'] e pos) (fun E=>B9 (te E) (uy i)):=by
  intro pins s σ H D E I h
  refine wpAny_Assign_Name (thn (he pins s σ H _ E I h) fun v s1 ⟨y,H1,I1,r1,q1⟩=>?_) hs
  exact jP I1 hN hi hx r1 (fun s2 I2=>⟨_,H1,I2,q1⟩) hf
end
def Cx.inX (X : Cx) (e : Value) : Cx:={ X with A:=X.A.mark (some e),calm:=false,xe:=fun _ _=>False }
theorem Inv.inX {X : Cx} {pins : List (Addr × Obj)} {σ : St} {H : Hp} {s : Shared} (I : Inv X pins σ H s) (e : Value) : Inv (X.inX e) pins σ H s :=
  ⟨⟨I.ok.mod,I.ok.kind,I.ok.glob,I.ok.blt,I.ok.above,I.ok.inj,I.ok.has,I.ok.cab,fun z=>(nomatch z),I.ok.frames,I.ok.stk,I.ok.exf,I.ok.bs,I.ok.bsz,I.ok.noex,I.ok.exfs,I.ok.funs,I.ok.frf,I.ok.tt⟩,I.os,I.bare,I.base,I.loc,I.cell,I.free,I.freeC,I.pin,I.hok,I.len⟩
theorem Inv.outX {X : Cx} {e : Value} {pins : List (Addr × Obj)} {σ : St} {H : Hp} {s : Shared} (ok : X.Ok) (I : Inv (X.inX e) pins σ H s) : Inv X pins σ H s:=⟨ok,I.os,I.bare,I.base,I.loc,I.cell,I.free,I.freeC,I.pin,I.hok,I.len⟩
end L2
namespace L2
open PySem PySem.Spec PyProof.Rows
abbrev xY:=List AV->Om->(AV->Om->Prop)->(Addr->Om->Prop)->Prop
def LX (F : Fs) (H : Hp) (ω : Om) (Ex : Addr->Om->Prop) (E : XK) : Prop:=∀ C ω' a H',Rep F H' ω'->Fr F H ω H' ω'->Ex C ω'->E (.ref a) (some C) H'
theorem LX.fr {F : Fs} {H H1 : Hp} {ω ω1 : Om} {Ex : Addr->Om->Prop} {E : XK} (k : LX F H ω Ex E) (f : Fr F H ω H1 ω1) : LX F H1 ω1 Ex E:=fun C ω' a H' rp fr q=>k C ω' a H' rp (f.trans fr) q
def AZ (sp : xY) : Sp:=fun vs H Q E=>∃ (F : Fs) (xs : List AV) (ω : Om) (Q' : AV->Om->Prop) (Ex : Addr->Om->Prop),Rep F H ω/\RVs (cut F H ω) xs vs/\sp xs ω Q' Ex/\LP RV F H ω Q' Q/\LX F H ω Ex E
abbrev AXS:=bK->(Addr->Om->Prop)->SA->Om->Prop
structure nD (E : XK) (t : TS) (t' : AXS) : Prop where
  run : ∀ (F : Fs) (H : Hp) (ω : Om) (σ : St) (ρ : SA) (D : jJ) (D' : bK) (Ex : Addr->Om->Prop),Rep F H ω->RS (cut F H ω) ρ σ->t' D' Ex ρ ω->LE F H ω D' D->LX F H ω Ex E->t D σ H
def J4 (t : AS) : AXS:=fun D _ ρ ω=>t D ρ ω
def G9 (t u : AXS) : AXS:=fun D Ex ρ ω=>t { D with nx:=u D Ex } Ex ρ ω
def Kc (c : AT) (t u : AXS) : AXS:=fun D Ex ρ ω=>c ρ ω fun b ω1=>if b = true then t D Ex ρ ω1 else u D Ex ρ ω1
def Aw (C : Addr) (ta : AA) : AXS:=fun _ Ex ρ ω=>ta ρ ω fun xs ω1=>xs.length<=1000/\Ex C ω1
theorem Ae (t : AS) (D : bK) (Ex : Addr->Om->Prop) (ρ : SA) (ω : Om) : J4 t D Ex ρ ω = t D ρ ω:=rfl
theorem Df (t u : AXS) (D : bK) (Ex : Addr->Om->Prop) (ρ : SA) (ω : Om) : G9 t u D Ex ρ ω = t { D with nx:=u D Ex } Ex ρ ω:=rfl
theorem AW (c : AT) (t u : AXS) (D : bK) (Ex : Addr->Om->Prop) (ρ : SA) (ω : Om) : Kc c t u D Ex ρ ω = c ρ ω fun b ω1=>if b = true then t D Ex ρ ω1 else u D Ex ρ ω1:=rfl
theorem q0 (C : Addr) (ta : AA) (D : bK) (Ex : Addr->Om->Prop) (ρ : SA) (ω : Om) : Aw C ta D Ex ρ ω = ta ρ ω fun xs ω1=>xs.length<=1000/\Ex C ω1:=rfl
section
variable {E : XK} {t u : TS} {t' u' : AXS} {ta : TA} {ta' : AA} {tc : TT} {tc' : AT} {sp : xY} {C : Addr}
theorem E4 {a : AS} (h : fI t a) : nD E t (J4 a):=⟨fun F H ω σ ρ D D' Ex rp rs w k kx=>h.run F H ω σ ρ D D' rp rs w k⟩
theorem zQ (h1 : nD E t t') (h2 : nD E u u') : nD E (Id t u) (G9 t' u'):=⟨fun F H ω σ ρ D D' Ex rp rs h k kx =>
  h1.run F H ω σ ρ _ _ Ex rp rs h ⟨fun ρ1 ω1 σ1 H1 rp1 fr1 rs1 q=>h2.run F H1 ω1 σ1 ρ1 D D' Ex rp1 rs1 q (k.fr fr1) (kx.fr fr1),k.rt,k.bk,k.ct⟩ kx⟩
theorem Kb (hc : i4 tc tc') (h1 : nD E t t') (h2 : nD E u u') : nD E (IP tc t u) (Kc tc' t' u'):=⟨fun F H ω σ ρ D D' Ex rp rs w k kx =>
  hc.go rp rs w fun a ω1 v H1 rp1 fr1 rs1 rv q=>by
    cases (show a = v from rv)
    cases a with
    | true=>rw [if_pos rfl] at q ⊢;exact h1.run F H1 ω1 σ ρ D D' Ex rp1 rs1 q (k.fr fr1) (kx.fr fr1)
    | false=>rw [if_neg Bool.false_ne_true] at q ⊢;exact h2.run F H1 ω1 σ ρ D D' Ex rp1 rs1 q (k.fr fr1) (kx.fr fr1)⟩
theorem AH (ha : lO ta ta') : nD E (Ev C E ta) (Aw C ta'):=⟨fun F H ω σ ρ D D' Ex rp rs w k kx =>
  ha.go rp rs w fun xs ω1 vs H1 rp1 fr1 rs1 rv q=>⟨by rw [rv.length];exact q.1,fun e=>kx C ω1 e H1 rp1 fr1 q.2⟩⟩
end
theorem PS.nox {X : Cx} {st : Stmt} {t : TS} (h : PS X.nox st t) : PS X st t:=.mk <| fun pins s σ H D I hw =>
  wpAny_mono (h pins s σ H D (I.wish _) hw) (fun _ _ q=>q.unwish) fun _ _ z=>False.elim z
theorem Fun.okX {P : Program} {w : World} {K : PySem.W.Frag} {mg : Str->Option Value} {base : Heap} {x qual : Str} {st : Stmt} {f : Addr} {fd : FuncData} {N ps : List Str} {k : Nat} {sp : xY} (F : Fun K x qual st f fd) (S : aH N ps (defScope st)) (len : ∀ xs ω Q Ex,sp xs ω Q Ex->xs.length = ps.length)
    (hbody : ∀ (cdv : Value) (A : Around) (outer : List Env) (s : Shared) (H : Hp) (E : XK),dN k (A.deeper (envOfC qual (defScope st) s.heap.objs.size f cdv)) ->
      ∃ t t',PSs (kE (CXx P w) P w K mg base N qual (defScope st) f cdv A outer s H E) (defBody st) t/\nD E t t'/\∀ xs ω Q' Ex,sp xs ω Q' Ex->t' { nx:=fun _ ω'=>Q' (.d .non) (ω'.only ω),rt:=fun a ω'=>∃ d,a = .d d/\Q' (.d d) (ω'.only ω) } (fun C ω'=>Ex C (ω'.only ω)) (jo N xs) ω) : aJ P w K mg base (CXx P w) (k + 1) f fd ps (AZ sp):=by
  obtain ⟨oc,od,kV,doc,pm,an,cdv,ct,osl,rfl,lk,hcd⟩:=F.ex
  refine Ea lk hcd S (fun vs H Q E h=>?_) (fun A outer s H vs Q E hr h=>?_)
  · obtain ⟨F',xs,ω,Q',Ex,rp,rv,h,_⟩:=h
    rw [rv.length,len xs ω Q' Ex h]
  · obtain ⟨t,t',h1,h2,h3⟩:=hbody cdv A outer s H E hr
    obtain ⟨F',xs,ω,Q',Ex,rp,rv,h,kq,kx⟩:=h
    refine ⟨t,h1,h2.run F' H ω _ _ _ _ _ rp (RS.start rv) (h3 xs ω Q' Ex h) ⟨?_,?_,fun _ _ _ _ _ _ _ z=>z.elim,fun _ _ _ _ _ _ _ z=>z.elim⟩ ?_⟩
    · exact fun ρ' ω' σ' H' e1 e2 e3 q=>kq (.d .non) (ω'.only ω) .non H' e1.only.1 e2.only (by simp [RV,Dat]) q
    · rintro a ω' v H' e1 e2 e3 ⟨d,rfl,q⟩
      exact kq (.d d) (ω'.only ω) v H' e1.only.1 e2.only (e3.same e1.only.2) q
    · exact fun C ω' a H' e1 e2 q=>kx C (ω'.only ω) a H' e1.only.1 e2.only q
section
variable {K : PySem.W.Frag} {T : Addr} {i j : Nat} {sp : xY} {ta : TA} {ta' : AA}
end
theorem Ei {K : PySem.W.Frag} {D : Addr} (h : Ab K D = true) : PySem.W.excIn K D E5 "ValueError.__new__" = true:=by
  unfold Ab at h
  simp only [Bool.and_eq_true] at h
  exact h.2
def IO : AV->Option Bool
  | .d a=>some (eqD a .non)
  | .p (.ref _) _=>some false
  | _=>none
def Hy (neg : Bool) : A2:=fun x y ω Q=>∃ b,IO x = some b/\y = .d .non/\Q (.d (.bl (if neg then !b else b))) ω
theorem xj (neg : Bool) (x y : AV) (ω : Om) (Q : AV->Om->Prop) : Hy neg x y ω Q = ∃ b,IO x = some b/\y = .d .non/\Q (.d (.bl (if neg then !b else b))) ω:=rfl
theorem Dh (a : D) : IO (.d a) = some (eqD a .non):=rfl
theorem CY : jN (fun x y H Q=>y = .non/\Q (.bl (decide (x = .non))) H) (Hy false):=⟨fun F H ω v u x y Q Q' rp h1 h2 ⟨b,e1,e2,q⟩ k=>by
  cases x with
  | d a =>
    cases e1
    exact JC.run F H ω v u (.d a) y Q Q' rp h1 h2 ⟨a,rfl,e2,q⟩ k
  | r v'=>cases e1
  | p v' P =>
    cases v'<;>cases e1
    subst e2
    obtain ⟨rfl,_⟩:=h1
    exact ⟨Dm h2,k.bl rp q⟩⟩
end L2
namespace L2
open PySem PySem.Spec PySem.Calls PyProof.Rows PySem.W
structure K1 (P : Program) (w : World) (K : PySem.W.Frag) (mg : Str->Option Value) (base : Heap) (H₀ : Hp) (k : Nat) (f : Addr) (n : Nat) (sp : Sp) : Prop where
  fn : ∃ (oc : Value) (od : Option Addr) (fd : FuncData) (sl : Array (Option Value)) (u : HO),H₀ f = some (.frz ⟨oc,od,.func fd,sl⟩ u)
  len : ∀ vs H Q E,sp vs H Q E->vs.length = n
  run : ∀ (A : Around) (outer : List Env) (s : Shared) (H : Hp) (us : List Value) (vs : List V) (Q : VK) (E : XK),dN k A->zH P w K mg base A outer s H->Frz H₀ H->ba vs us->sp vs H Q E ->
    codeAny (model P w) A (.call (.ref f) ⟨us,[]⟩) (CR (CXx P w) outer P w H s Q E) s
end L2
namespace L2
open PySem PySem.Spec PySem.Calls PyProof.Rows
structure Ap3 (z u o i j l p q r : Addr) : Prop where
  uz : u≠z
  oz : o≠z
  iz : i≠z
  jz : j≠z
  lz : l≠z
  uo : u≠o
  ui : u≠i
  uj : u≠j
  ul : u≠l
  oi : o≠i
  oj : o≠j
  ol : o≠l
  ij : i≠j
  il : i≠l
  jl : j≠l
  np : ∀ c∈[z,u,o,i,j,l],p≠c
  nq : ∀ c∈[z,u,o,i,j,l],q≠c
  nr : ∀ c∈[z,u,o,i,j,l],r≠c
section
variable {prog : Program} {w : World} {A : Around} {E : Value->Shared->Prop} {S : Shared} {z u o i j l p q r : Addr} {m n : Nat} {xs ys zs : Array Value} {x y v a b c : Value} {Ii Ij Il : Nat->Heap->Prop} {Sp Sq Sr : Heap->Prop}
end
section
variable {c1 c2 c3 : String} {S1 S2 S3 : PySem.W.Frag->Hp->Addr->List V->Prop} {I1 I2 I3 : Heap->Addr->Addr->Nat->Prop} {Is1 Is2 Is3 : Heap->Addr->Array Value->Prop}
end
section
variable {K : PySem.W.Frag} {sa : TA} {sa' : AA}
end
end L2
namespace L2
open PySem PySem.Spec PyProof.Rows
inductive O where
  | d (x : D) | box (b : Bool) | tup (os : List O)
def Om.del (ω : Om) (l : Addr) : Om:=fun b=>if b = l then none else ω b
section
variable {F : Fs} {H : Hp} {ω : Om}
end
end L2
namespace L2
open PySem PySem.Spec PyProof.Rows AutoSeq1
section
variable {A : Around} {s : Shared}
end
section
variable {prog : Program} {w : World} {A : Around} {E : Value->Shared->Prop} {s : Shared}
end
section
variable {prog : Program} {w : World} {A : Around} {E : Value->Shared->Prop} {s : Shared}
end
end L2
namespace L2
open PySem PySem.Spec PyProof PyProof.Rows PySem.SeqAt
open AutoSeq1 (wpAny_loadPart')
section
variable {prog : Program} {w : World} {A : Around} {E : Value->Shared->Prop} {s : Shared}
end
section
variable {X : Cx} {e st : Expr} {te ts : TE} {pos p2 : Pos}
end
mutual
def ltD : D->D->Bool
  | .int a,.int b=>decide (a < b)
  | .str a,.str b=>decide (a.cps.toList < b.cps.toList)
  | .tup xs,.tup ys=>Jz xs ys
  | _,_=>false
def Jz : List D->List D->Bool
  | [],[]=>false
  | [],_ :: _=>true
  | _ :: _,[]=>false
  | x :: xs,y :: ys=>if eqD x y then Jz xs ys else ltD x y
end
mutual
def cmD : D->D->Bool
  | .int _,.int _=>true
  | .str _,.str _=>true
  | .tup xs,.tup ys=>JM xs ys
  | _,_=>false
def JM : List D->List D->Bool
  | x :: xs,y :: ys=>if eqD x y then JM xs ys else cmD x y
  | _,_=>true
end
section
variable {X : Cx} {pins : List (Addr × Obj)} {σ : St} {H : Hp} {s : Shared}
end
section
variable {X : Cx} {pins : List (Addr × Obj)} {σ : St} {H : Hp} {s : Shared} {A : Around} {E : Value->Shared->Prop} {Q : Value->Shared->Prop} {b : Bool}
end
end L2
namespace L2
open PySem PySem.Spec PyProof PyProof.Rows PySem.SeqAt
end L2
namespace L2
open PySem PySem.Spec PySem.Calls PyProof PyProof.Rows PySem.SeqAt
section
variable {prog : Program} {w : World} {A : Around} {E : Value->Shared->Prop} {s : Shared}
def GR (h0 h : Heap) : Prop:=∀ x o,h0.get? x = some o->h.get? x = some o
structure KY (prog : Program) (w : World) (A : Around) (h0 : Heap) (s : Shared) (vs : List Value) (c : Nat->Nat->Bool) (b : Bool) : Prop where
  kind : ∀ h,GR h0 h->∃ fs T,PySem.W.KatTups h vs fs/\fs.length = vs.length/\(∀ v∈fs,PySem.W.Looks (model prog w) h (typeOf v) T)/\(T == T) = true/\(T != Value.type "tuple") = b
  ask : ∀ h,GR h0 h->∀ i j,i < vs.length->j < vs.length->∀ (C : Bool->Shared->Prop) (E : Value->Shared->Prop),C (c i j) { s with heap:=h }->wpAny (model prog w) A (keyLt' (tuples' b) (vs.getD i Value.none) (vs.getD j Value.none)) C E { s with heap:=h }
end
section
variable {X : Cx} {pins : List (Addr × Obj)} {σ : St} {H : Hp} {s : Shared} {A : Around}
def KB (k : Bool) (d : D) : Prop:=∃ r,(k = true/\∃ z,d = .tup (.str z :: r))\/(k = false/\∃ i,d = .tup (.int i :: r))
end
section
variable {X : Cx} {pins : List (Addr × Obj)} {σ : St} {H : Hp} {s : Shared} {A : Around}
end
structure Srt (W : List D) (key : D->List Int) (k : Bool) : Prop where
  row : ∀ d∈W,KB k d
  cmp : ∀ d∈W,∀ e∈W,cmD d e = true
  lt : ∀ d∈W,∀ e∈W,ltD d e = Kf (key d) (key e)
end L2
namespace L2
open PySem PySem.Spec PyProof PyProof.Rows PySem.SeqAt
def GP (te : AE) : AE:=fun ρ ω Q=>te ρ ω fun x ω1=>∃ ds,cM ω1 x = some (.lst ds)/\∀ l,ω1 l = none->Q (.r (.ref l)) (ω1.put l (.own (ds.reverse.map AV.d)))
theorem xQ (te : AE) (ρ : SA) (ω : Om) (Q : AV->Om->Prop) : GP te ρ ω Q = te ρ ω fun x ω1=>∃ ds,cM ω1 x = some (.lst ds)/\∀ l,ω1 l = none->Q (.r (.ref l)) (ω1.put l (.own (ds.reverse.map AV.d))):=rfl
theorem HK {K : PySem.W.Frag} {te : TE} {te' : AE} (he : bB te te') : bB (Jl K te (tUn (rU fun i=>.int (-i)) (tC (.int 1)))) (GP te'):=⟨fun F H ω σ ρ Q Q' rp rs w k =>
  he.go rp rs w fun x ω1 v H1 rp1 fr1 rs1 rv1 ⟨ds,e,q⟩=>⟨1,rfl,rfl,by
    obtain ⟨a,vs,rfl,z1,z2⟩:=iV rp1 rv1 e
    exact ⟨a,vs,rfl,.inl (.inl z1),(k.fr fr1).own rp1 (RVs.dats.mpr z2.rev) q⟩⟩⟩
section
variable {K : PySem.W.Frag} {x qual : Str} {st : Stmt} {f : Addr} {fd : FuncData}
theorem Fun.binds1 {p0 : Str} (F : Fun K x qual st f fd) (h : ∀ (kV doc pm : Value) (an : Option Addr) (cdv ct : Value) (u0 : Value),bindArgs (PySem.W.fnOf x qual (defArgs st) (defBody st) (defScope st) .none kV doc pm an cdv ct) ⟨[u0],[]⟩ = pure ([p0].zip [u0])) : a7 K fd [p0] [] :=
  F.binds fun a b c d e g us hl=>match us,hl with | [u0],_=>h a b c d e g u0
theorem Fun.binds2 {p0 p1 : Str} (F : Fun K x qual st f fd) (h : ∀ (kV doc pm : Value) (an : Option Addr) (cdv ct : Value) (u0 u1 : Value),bindArgs (PySem.W.fnOf x qual (defArgs st) (defBody st) (defScope st) .none kV doc pm an cdv ct) ⟨[u0,u1],[]⟩ = pure ([p0,p1].zip [u0,u1])) : a7 K fd [p0,p1] [] :=
  F.binds fun a b c d e g us hl=>match us,hl with | [u0,u1],_=>h a b c d e g u0 u1
theorem Fun.binds3 {p0 p1 p2 : Str} (F : Fun K x qual st f fd) (h : ∀ (kV doc pm : Value) (an : Option Addr) (cdv ct : Value) (u0 u1 u2 : Value),bindArgs (PySem.W.fnOf x qual (defArgs st) (defBody st) (defScope st) .none kV doc pm an cdv ct) ⟨[u0,u1,u2],[]⟩ = pure ([p0,p1,p2].zip [u0,u1,u2])) : a7 K fd [p0,p1,p2] [] :=
  F.binds fun a b c d e g us hl=>match us,hl with | [u0,u1,u2],_=>h a b c d e g u0 u1 u2
theorem Fun.binds4 {p0 p1 p2 p3 : Str} (F : Fun K x qual st f fd) (h : ∀ (kV doc pm : Value) (an : Option Addr) (cdv ct : Value) (u0 u1 u2 u3 : Value),bindArgs (PySem.W.fnOf x qual (defArgs st) (defBody st) (defScope st) .none kV doc pm an cdv ct) ⟨[u0,u1,u2,u3],[]⟩ = pure ([p0,p1,p2,p3].zip [u0,u1,u2,u3])) : a7 K fd [p0,p1,p2,p3] [] :=
  F.binds fun a b c d e g us hl=>match us,hl with | [u0,u1,u2,u3],_=>h a b c d e g u0 u1 u2 u3
theorem Fun.binds5 {p0 p1 p2 p3 p4 : Str} (F : Fun K x qual st f fd) (h : ∀ (kV doc pm : Value) (an : Option Addr) (cdv ct : Value) (u0 u1 u2 u3 u4 : Value),bindArgs (PySem.W.fnOf x qual (defArgs st) (defBody st) (defScope st) .none kV doc pm an cdv ct) ⟨[u0,u1,u2,u3,u4],[]⟩ = pure ([p0,p1,p2,p3,p4].zip [u0,u1,u2,u3,u4])) : a7 K fd [p0,p1,p2,p3,p4] [] :=
  F.binds fun a b c d e g us hl=>match us,hl with | [u0,u1,u2,u3,u4],_=>h a b c d e g u0 u1 u2 u3 u4
end
end L2
namespace L2
open PySem PySem.Spec PyProof.Rows
section
variable {X : Cx}
end
section
variable {X : Cx}
end
end L2
namespace L2
open PySem PySem.Spec PySem.Calls PyProof.Rows PySem.W
section
variable {X : Cx} {CX : CXT} {e1 e2 : Expr} {t1 : TE} {te : XK->TE} {pos : Pos}
theorem DJ {x1} (h1 : PE X.nox e1 t1) (h2 : PEX X CX e2 te) (hs : starEach [e1,e2] X.env = [(false,eval e1 X.env),(false,eval e2 X.env)]:=by rfl) : PEX X CX (.Tuple [e1,e2] x1 pos) (fun E=>Gq (iA t1 (iA (te E) Et))):=by
  intro pins s σ H Q E I h
  refine wpAny_Tuple_spliced ?_
  rw [hs]
  show wpAny _ _ (spliced ((false,eval e1 X.env) :: (false,eval e2 X.env) :: [])) _ _ s
  refine Calls.spliced_cons (wpAny_mono (h1 pins s σ H _ (I.wish _) h) (fun u s1 ⟨x,H1,I1,r1,q1⟩=>?_) fun _ _ z=>False.elim z)
  refine Calls.spliced_cons (wpAny_mono (h2 pins s1 σ H1 _ E I1.unwish q1) (fun v s2 ⟨y,H2,I2,r2,q2⟩=>Calls.spliced_nil ?_) fun _ _ z=>z)
  obtain ⟨z,q⟩:=q2
  have r : ba [x,y] [u,v]:=.cons r1 (.cons r2 .nil)
  have hf : H2 s2.heap.objs.size = none:=I2.hok.fresh (Nat.le_refl _)
  refine ⟨by rw [← r.length];exact z,.ref s2.heap.objs.size,upd H2 s2.heap.objs.size (.tup [x,y]),I2.laid (t':=s2.toks) (fun b u e=>Heap.get?_push_of_some _ e) (Nat.le_refl _) ?_,rfl,q _ hf⟩
  exact ⟨z,_,r,⟨_,Heap.get?_push_size _ rfl,rfl,_,rfl⟩,_,Heap.get?_push_size _ rfl,rfl⟩
end
def G8 (K : PySem.W.Frag) (T : Addr) (tb : XK->TS) (th : TS) : TS:=fun D σ H=>tb (fun x C H'=>∀ a c,x = .ref a->C = some c->H' a = none->exmOne K (.ref c) (.ref T) = some true/\th D σ (upd H' a (Fi a c))) D σ H
theorem Gk {X : Cx} {st sh : Stmt} {tb : XK->TS} {th : TS} {T : Addr} {tn : Str} {tp hp pos : Pos} (hS : X.stack = X.env :: X.outer) (hF : X.env.frame = some X.env.locals) (hX : X.ex = []) (hb : PSX X (CXx X.prog X.w) st tb)
    (hg : Gl X tn) (hm : X.mg tn = some (.ref T)) (hh : ∀ e,PS (X.inX e) sh th)
    (hdb : (tn == ("__debug__" : Str)) = false:=by decide) :
    PS X (.Try [st] [.ExceptHandler (some (.Name tn tp)) none [sh] hp] [] [] pos) (G8 X.K T tb th):=.mk <| by
  intro pins s σ H D I h
  refine wpAny_Try_except (wpAny_execs_cons (wpAny_mono (hb pins s σ H D _ I h) (fun f s1 q=>?_) fun x s' hx=>?_))
  · cases f with
    | next=>exact wpAny_execs_nil (wpAny_execs_nil q)
    | ret v=>exact q
    | brk=>exact q
    | cont=>exact q
  obtain ⟨H1,s1,I1,a,C,t,H',B,rfl,os,bare,un,hok,fl,keep,there,hE⟩:=hx
  have hfr : X.A.frames = some (X.env :: X.outer):=by rw [← hS];exact I1.ok.frames
  rw [hS] at un keep there fl
  have hBa : B.get? a = none:=fl.2.1
  have hna : H' a = none:=by
    cases q : H' a with
    | none=>rfl
    | some u =>
      obtain ⟨o,e⟩:=ve (hok a u q)
      rw [hBa] at e;cases e
  obtain ⟨hex,hnx⟩:=hE a C rfl rfl hna
  have fst:=I1.stack
  rw [hS] at fst
  have nonf : ∀ b o,s1.heap.get? b = some o->b∈frs (X.env :: X.outer)->∀ vs,o.data≠.fields vs:=fun b o hb ho=>by
    obtain ⟨_,o2,q2,nf⟩:=fst.mem (b:=b) ho
    rw [hb] at q2;cases q2;exact nf
  refine wpAny_looks_onW hfr hF fl fun h2 held up2=>wpAny_landsW held fun h3 fl3 up3=>?_
  have back : ∀ h4 : Heap,Heap.FlyingW B (X.env :: X.outer) a (.ref C) (.ref t) h4->s'.heap.UpToSlots h4->Inv X pins σ (upd H' a (Fi a C)) { s' with heap:=h4 }:=fun h4 fl4 up4=>by
    have stay:=fl4.1
    have un4 : Un (frs X.stack) [] H1 H' s1.heap h4:=by
      rw [hS]
      have slot : ∀ b o,s1.heap.get? b = some o->H1 b = none->b∈frs (X.env :: X.outer)->∃ sl,h4.get? b = some { o with slots:=sl }:=fun b o hb hn ho=>by
        obtain ⟨sl1,q1⟩:=un.slot b o hb hn ho (by simp)
        obtain ⟨sl2,q2⟩:=up4 b _ q1 (nonf b o hb ho)
        exact ⟨sl2,q2⟩
      refine ⟨fun b o hb hn ho _=>stay b o (keep b o hb hn ho),fun b o hb hn ho _=>slot b o hb hn ho,un.free,fun b o hb _=>?_,un.tups,un.frzs,un.tbls⟩
      by_cases ho : b∈frs (X.env :: X.outer)
      · obtain ⟨sl,q⟩:=slot b o hb (I1.stkFree b (by rw [hS];exact ho)) ho
        exact ⟨_,q⟩
      · obtain ⟨o',q⟩:=there b o hb ho
        exact ⟨o',stay b o' q⟩
    have J : Inv X pins σ H' { s' with heap:=h4 }:=I1.call' (s':={ s' with heap:=h4 }) os un4 (hok.kept stay) bare (fun b z=>absurd z (by simp))
    have ex4 : xM a C h4:=fl4.there
    have inB : ∀ b o,s1.heap.get? b = some o->b ∉ frs (X.env :: X.outer)->b≠a:=fun b o hb ho z=>by
      subst z
      obtain ⟨o',q⟩:=there b o hb ho
      rw [hBa] at q;cases q
    have fields : ∃ oe vs,h4.get? a = some oe/\oe.data = .fields vs:=by
      obtain ⟨oe,vs,q1,_,q2,_⟩:=fl4.first
      exact ⟨oe,vs,q1,q2⟩
    have nfr : a ∉ frs (X.env :: X.outer):=fun hm=>by
      obtain ⟨_,o2,q2,nf⟩:=fl4.2.2.1.mem (b:=a) hm
      obtain ⟨oe,vs,q3,q4⟩:=fields
      rw [q3] at q2;cases q2
      exact nf vs q4
    have hL : a≠X.env.locals:=fun z=>nfr (by
      unfold frs
      rw [List.filterMap_cons,hF]
      exact z ▸ List.mem_cons_self)
    have inS : ∀ b o,s1.heap.get? b = some o->b≠a:=fun b o hb=>by
      by_cases ho : b∈frs (X.env :: X.outer)
      · exact fun z=>nfr (z ▸ ho)
      · exact inB b o hb ho
    refine J.track hna ?_ hL (fun x c hc=>?_) (fun p hp=>?_) ⟨ex4,?_,fun g1 g2 ⟨o,q1,q2⟩ k=>⟨o,k o q1,q2⟩⟩
    · cases q : X.s₀.heap.get? a with
      | none=>rfl
      | some o =>
        obtain ⟨o',q'⟩:=I1.base.there a o q (by rw [hX];simp)
        exact absurd rfl (inS a o' q')
    · obtain ⟨v,o,q,_⟩:=I1.cell x c hc
      exact inS c o q
    · exact inS _ _ (I1.pin p hp).1
    · obtain ⟨o,q,_⟩:=ex4
      exact ⟨o,q⟩
  have J3:=back h3 fl3 (up2.trans up3)
  refine wpAny_handleBy_cons (codeAny_handlers_test ?_) (by intro q;cases q)
  refine kT (X:=X.inX (.ref a)) (J3.inX _) hg hm ?_ hdb
  refine (exm_one J3.kIn (xM.ty fl3.there _) hex).here ?_
  show codeAny _ _ _ _ _
  refine codeAny_handlers_suite ?_
  refine wpAny_setFlight_noneW fl3.1 fl3.2.2.1 fl3.2.2.2 fun h5 k1 k2 k3 k4=>?_
  have fl5 : Heap.FlyingW B (X.env :: X.outer) a (.ref C) (.ref t) h5:=⟨k1,hBa,k2,k3⟩
  have J5:=back h5 fl5 ((up2.trans up3).trans fun b o hb hn=>⟨o.slots,k4 b o hb hn⟩)
  refine wpAny_execs_cons (wpAny_mono ((hh (.ref a)) pins _ σ (upd H' a (Fi a C)) D (J5.inX _) hnx) (fun f s7 q=>?_) fun _ _ z=>False.elim z)
  cases f with
  | ret v=>obtain ⟨a1,a2,a3,a4,a5,q⟩:=q;exact ⟨a1,a2,a3,Inv.outX I1.ok a4,a5,q⟩
  | brk=>obtain ⟨a1,a2,a3,q⟩:=q;exact ⟨a1,a2,Inv.outX I1.ok a3,q⟩
  | cont=>obtain ⟨a1,a2,a3,q⟩:=q;exact ⟨a1,a2,Inv.outX I1.ok a3,q⟩
  | next =>
    obtain ⟨σ7,H7,J7,e7⟩:=q
    exact wpAny_execs_nil ⟨σ7,H7,Inv.outX I1.ok J7,e7⟩
def Hs (K : PySem.W.Frag) (T : Addr) (d : D) (y : Nat) (sp : xY) (ta : AA) (th : AS) : AS:=fun D ρ ω=>ta ρ ω fun xs ω1=>sp xs ω1 (fun v ω2=>∃ d',v = .d d'/\D.nx (ρ.set y (some (.d (.tup [d,d'])))) ω2)
  (fun c ω2=>PySem.W.exmOne K (.ref c) (.ref T) = some true/\th D ρ ω2)
theorem wz (K : PySem.W.Frag) (T : Addr) (d : D) (y : Nat) (sp : xY) (ta : AA) (th : AS) (D : bK) (ρ : SA) (ω : Om) : Hs K T d y sp ta th D ρ ω = ta ρ ω fun xs ω1=>sp xs ω1 (fun v ω2=>∃ d',v = .d d'/\D.nx (ρ.set y (some (.d (.tup [d,d'])))) ω2)
  (fun c ω2=>PySem.W.exmOne K (.ref c) (.ref T) = some true/\th D ρ ω2):=rfl
section
variable {K : PySem.W.Frag} {T : Addr} {sp : xY} {ta : TA} {ta' : AA} {th : TS} {th' : AS}
theorem LE.caughtN {F : Fs} {H H1 : Hp} {ω ω1 : Om} {σ : St} {ρ : SA} {D : jJ} {D' : bK} (hh : fI th th') (k : LE F H ω D' D) (fr1 : Fr F H ω H1 ω1) (rs1 : RS (cut F H1 ω1) ρ σ) :
    LX F H1 ω1 (fun c ω2=>PySem.W.exmOne K (.ref c) (.ref T) = some true/\th' D' ρ ω2) (fun x C H'=>∀ a c,x = .ref a->C = some c->H' a = none->PySem.W.exmOne K (.ref c) (.ref T) = some true/\th D σ (upd H' a (Fi a c))):=by
  intro C ω2 a H2 rp2 fr2 q a' c' e1 e2 hn
  cases e1
  cases e2
  obtain ⟨rp3,fr3,hc⟩:=rp2.lay (o:=Fi a C) hn
  exact ⟨q.1,hh.run F _ ω2 σ ρ D D' rp3 ((rs1.same fr2.same).same fr3.same) q.2 (k.fr ((fr1.trans fr2).trans fr3))⟩
theorem HU {y : Nat} {b : Bool} (ha : lO ta ta') (hh : fI th th') : fI (G8 K T (fun E=>B9 (Gq (iA (tC (.bl b)) (iA (AJ (AZ sp) [] E ta) Et))) (uy y)) th) (Hs K T (.bl b) y sp ta' th'):=⟨fun F H ω σ ρ D D' rp rs w k =>
  ha.go rp rs w fun xs ω1 vs H1 rp1 fr1 rs1 rv q=>by
    rw [List.append_nil]
    refine ⟨F,xs,ω1,_,_,rp1,rv,q,fun a ω2 v H2 rp2 fr2 rv2 ⟨d,e,q2⟩=>⟨Nat.le_of_lt (bi (by simp)),fun p hp=>?_⟩,k.caughtN hh fr1 rs1⟩
    subst e
    obtain ⟨rp3,fr3,hc⟩:=rp2.lay (o:=.tup [.bl b,v]) hp
    refine k.nx _ ω2 _ _ rp3 ((fr1.trans fr2).trans fr3) (((rs1.same fr2.same).same fr3.same).set ?_) q2
    have : Dat (cut F (upd H2 p (.tup [.bl b,v])) ω2) (.tup [.bl b,d]) (.ref p):=by
      simp only [Dat]
      exact ⟨p,[.bl b,v],rfl,hc,_,_,rfl,rfl,_,_,rfl,rv2.same fr3.same,rfl⟩
    exact this⟩
end
theorem qf : isSubtype (.type "range_iterator") (.type "reversed") = pure false:=by rw [isSubtype_type];kernel_rfl
section
variable {prog : Program} {w : World} {A : Around} {E : Value->Shared->Prop} {s : Shared}
abbrev CT (n : Int) : Obj:={ cls:=.type "range_iterator",data:=.fields #[rawInt (0 + (n - 1) * 1),rawInt n,rawInt (-1)] }
theorem lN {r : Addr} {n : Int} {t u v : Tok} {Q : Value->Shared->Prop} (hr : IsRange s.heap r 0 n 1 t u v) (h0 : 0<=n) (h1 : n<=1000)
    (h : Q (.ref s.heap.objs.size) { s with heap:=s.heap.push (CT n) }) : wpAny (model prog w) A (call (.builtin "range.__reversed__") [.ref r]) Q E s:=by
  have hT : s.TypeIs (.ref r) "range":=⟨_,hr,rfl⟩
  have hn : Builtin.Range.rangeSize 0 n 1 = n:=by rw [rangeSize_one];split<;>omega
  have hs : (Builtin.Range.rangeFitsLong 0 && Builtin.Range.rangeFitsLong n && Builtin.Range.rangeFitsLong 1 && Builtin.Range.rangeFitsLong (-1) && Builtin.Range.rangeFitsLong (0 - 1) && Builtin.Range.rangeFitsLong n) = true:=by
    simp only [Builtin.Range.rangeFitsLong,Bool.and_eq_true,decide_eq_true_eq]
    omega
  refine wpAny_call_entry F.slot_range_reversed hT F.entry_range_reversed ?_ (F.args_range_reversed_1 _)
  unfold Builtin.«range.__reversed__» Builtin.Range.rangeFields
  repeat (any_goals (first | assumption | wp_step))
  rw [hn,hs,if_neg (by decide),if_pos rfl]
  repeat (any_goals (first | assumption | wp_step))
  exact ⟨_,rfl,h⟩
theorem lP {r : Addr} {n : Int} {t u v : Tok} {Q₁ : Value->Shared->Prop} (hr : IsRange s.heap r 0 n 1 t u v) (h0 : 0<=n) (h1 : n<=1000)
    (h : Q₁ (.ref s.heap.objs.size) { s with heap:=s.heap.push (CT n) }) :
    codeAny (model prog w) A (.call (.builtin "reversed.__new__") ⟨[.type "reversed",.ref r],[]⟩) (wants Q₁ E) s:=by
  have hT : s.TypeIs (.ref r) "range":=⟨_,hr,rfl⟩
  refine codeAny_of_tree ?_
  show wpAny _ A.in1 (do checkBuiltinCall "reversed.__new__" ⟨[.type "reversed",.ref r],[]⟩;again (.builtin "reversed.__new__" ⟨[.type "reversed",.ref r],[]⟩)) _ _ s
  refine wpAny_bind (wpAny_of_eq (F.newCall_reversed_1 _) (wpAny_pure ⟨plainId_quiet F.plain_reversed_new _,codeAny_builtin F.entry_reversed_new ?_⟩))
  rw [Around.under_plainId F.plain_reversed_new _]
  unfold Builtin.«reversed.__new__»
  refine wpAny_bind (wpAny_of_eq (newClass_reversed _) ?_)
  try dsimp only
  refine wpAny_bind (wpAny_of_eq (a:=()) (by first | rfl | kernel_rfl) ?_)
  refine wpAny_bind (wpAny_of_eq (a:=()) (by first | rfl | kernel_rfl) ?_)
  try dsimp only
  refine wpAny_bind (wpAny_specialOf hT F.slot_range_reversed.lookup ?_)
  try dsimp only
  refine wpAny_bind (wpAny_of_eq (F.slot_range_reversed.bind _) ?_)
  try dsimp only
  first
  | rw [if_neg (show ¬ ((Value.builtin "range.__reversed__" == Value.none) = true) from Bool.false_ne_true)]
  | (show wpAny _ _ (if (Value.builtin "range.__reversed__" == Value.none) = true then _ else _) _ _ _;rw [if_neg (show ¬ ((Value.builtin "range.__reversed__" == Value.none) = true) from Bool.false_ne_true)])
  refine wpAny_bind (wpAny_rule ?_)
  refine wpAny_bind (m:=runValue (.call (.builtin "range.__reversed__") ⟨[.ref r],[]⟩)) (show wpAny _ _ (call (.builtin "range.__reversed__") [.ref r]) _ _ _ from lN hr h0 h1 ?_)
  first
  | exact wpAny_pure h
  | exact wpAny_bind (wpAny_pure (wpAny_pure h))
theorem lQ {r : Addr} {n : Int} {t u v : Tok} {Q : Value->Shared->Prop} (hr : IsRange s.heap r 0 n 1 t u v) (h0 : 0<=n) (h1 : n<=1000)
    (h : Q (.ref s.heap.objs.size) { s with heap:=s.heap.push (CT n) }) : wpAny (model prog w) A (call (.type "reversed") [.ref r]) Q E s:=by
  refine callType_other (U:="range_iterator") (Q₁:=fun obj s₁=>obj = .ref s.heap.objs.size/\s₁ = { s with heap:=s.heap.push (CT n) }) (by decide +kernel) F.create_reversed ⟨_,_,F.mro_reversed⟩ F.made_reversed qf (F.typeCall_reversed_1 _) (lP hr h0 h1 ⟨rfl,rfl⟩) ?_
  rintro obj s₁ ⟨rfl,rfl⟩
  exact ⟨⟨_,Heap.get?_push_size _ rfl,rfl⟩,h⟩
end
def GF (ta : TA) : TI:=fun σ H R=>ta σ H fun vs H1=>∃ j : Int,vs = [.int j]/\0<=j/\j<=1000/\R (Fm (j - 1) (-1) j.toNat) H1
theorem BW {X : Cx} {tg a : Expr} {ta : TA} {p p2 pos pos2 : Pos} (hg : Gl X "range") (hm : X.mg "range" = none) (hg2 : Gl X "reversed") (hm2 : X.mg "reversed" = none) (ha : PA X [a] ta) (hs : starEach [a] X.env = [(false,eval a X.env)]:=by rfl)
    (hs2 : starEach [.Call (.Name "range" p) [a] [] pos] X.env = [(false,eval (.Call (.Name "range" p) [a] [] pos) X.env)]:=by rfl) : PI X tg (.Call (.Name "reversed" p2) [.Call (.Name "range" p) [a] [] pos] [] pos2) (GF ta):=by
  intro pins s σ H R I h
  refine Call_ (pf I hg2 hm2 boot_reversed (PyProof.Rows.callWith_type1 ?_ hs2 rfl))
  rw [hs2]
  show wpAny _ _ (spliced [(false,eval (.Call (.Name "range" p) [a] [] pos) X.env)]) _ _ s
  refine Calls.spliced_cons (Call_ (pf I hg hm boot_range (PyProof.Rows.callWith_type1 (thn (ha pos pins s σ H _ I h) fun us s1 ⟨vs,H1,I1,r1,q1⟩=>?_) hs rfl)))
  obtain ⟨j,e,h1,h2,q⟩:=q1
  subst e
  cases r1 with
  | cons r rr =>
    cases rr
    obtain ⟨t,rfl⟩:=r
    refine call_range_1 (Calls.spliced_nil ?_)
    refine lQ (IsRange.new ..) h1 h2 ?_
    have I2 : Inv X pins σ H1 { s1 with heap:=s1.heap.push { cls:=.type "range",data:=.fields #[.int 0 s1.toks,.int j t,.int 1 (s1.toks + 1)] },toks:=s1.toks + 1 + 1 }:=I1.kept fun b o e=>Heap.get?_push_of_some _ e
    have e0 : IsRangeIter ((s1.heap.push { cls:=.type "range",data:=.fields #[.int 0 s1.toks,.int j t,.int 1 (s1.toks + 1)] }).push (CT j)) (s1.heap.push { cls:=.type "range",data:=.fields #[.int 0 s1.toks,.int j t,.int 1 (s1.toks + 1)] }).objs.size (j - 1 + ((0 : Nat) : Int) * (-1)) ((j.toNat : Int) - ((0 : Nat) : Int)) (-1):=by
      rw [show j - 1 + ((0 : Nat) : Int) * (-1) = 0 + (j - 1) * 1 from by simp,show (j.toNat : Int) - ((0 : Nat) : Int) = j from by omega]
      exact Heap.get?_push_size _ rfl
    refine wpAny_pyIter_rangeiter e0 ?_
    refine ⟨(s1.heap.push { cls:=.type "range",data:=.fields #[.int 0 s1.toks,.int j t,.int 1 (s1.toks + 1)] }).objs.size,[(s1.heap.push { cls:=.type "range",data:=.fields #[.int 0 s1.toks,.int j t,.int 1 (s1.toks + 1)] }).objs.size],_,_,H1,rfl,I2.kept (t':=s1.toks + 1 + 1) fun b o e=>Heap.get?_push_of_some _ e,B2 _ (j - 1) (-1) j.toNat,e0,fun b hb=>?_,q⟩
    have eb : b = (s1.heap.push { cls:=.type "range",data:=.fields #[.int 0 s1.toks,.int j t,.int 1 (s1.toks + 1)] }).objs.size:=List.mem_singleton.mp hb
    subst eb
    exact I2.fpOk (Nat.le_refl _) (I2.hok.fresh (Nat.le_refl _))
def C6 (ta : AA) : AI:=fun ρ ω R=>ta ρ ω fun xs ω1=>∃ j : Int,xs = [.d (.int j)]/\0<=j/\j<=1000/\R (pV (j - 1) (-1) j.toNat) ω1
theorem tY (ta : AA) (ρ : SA) (ω : Om) (R : List AV->Om->Prop) : C6 ta ρ ω R = (ta ρ ω fun xs ω1=>∃ j : Int,xs = [.d (.int j)]/\0<=j/\j<=1000/\R (pV (j - 1) (-1) j.toNat) ω1):=rfl
theorem Jf {ta : TA} {ta' : AA} (h : lO ta ta') : wR (GF ta) (C6 ta'):=⟨fun F H ω σ ρ R R' rp rs w k=>h.go rp rs w fun xs ω1 vs H1 rp1 fr1 rs1 rv ⟨j,e,h1,h2,q⟩=>by
  subst e
  obtain ⟨v,rfl,r⟩:=uP rv
  exact ⟨j,by rw [cj r],h1,h2,k _ ω1 _ H1 rp1 fr1 FM q⟩⟩
end L2
namespace L2
open PySem PySem.Spec PyProof.Rows
theorem Fun.binds7 {K : PySem.W.Frag} {x qual : Str} {st : Stmt} {f : Addr} {fd : FuncData} {p0 p1 p2 p3 p4 p5 p6 : Str} (F : Fun K x qual st f fd) (h : ∀ (kV doc pm : Value) (an : Option Addr) (cdv ct : Value) (u0 u1 u2 u3 u4 u5 u6 : Value),bindArgs (PySem.W.fnOf x qual (defArgs st) (defBody st) (defScope st) .none kV doc pm an cdv ct) ⟨[u0,u1,u2,u3,u4,u5,u6],[]⟩ = pure ([p0,p1,p2,p3,p4,p5,p6].zip [u0,u1,u2,u3,u4,u5,u6])) : a7 K fd [p0,p1,p2,p3,p4,p5,p6] [] :=
  F.binds fun a b c d e g us hl=>match us,hl with | [u0,u1,u2,u3,u4,u5,u6],_=>h a b c d e g u0 u1 u2 u3 u4 u5 u6
end L2
set_option maxHeartbeats 4000000
namespace My
open PySem PySem.Spec L2
def top (i : Nat) : Stmt:=PySem.Challenge.pw_unlikeplace_k52_whole_fixed_never_more.main.body.getD i (.Pass ⟨0,0,0,0⟩)
abbrev ik : Stmt:=top 6
abbrev iE : Stmt:=top 7
abbrev cR : Stmt:=top 8
abbrev cy : Stmt:=top 9
abbrev cz : Stmt:=top 11
abbrev dA : Stmt:=top 12
abbrev cu : Stmt:=top 13
abbrev c9 : Stmt:=top 14
abbrev er : Stmt:=top 16
abbrev gb : Stmt:=top 17
abbrev eG : Stmt:=top 18
abbrev df : Stmt:=top 19
abbrev uH : Stmt:=top 20
abbrev gw : Stmt:=top 22
abbrev pE : Stmt:=top 23
abbrev iH : Stmt:=top 24
abbrev iB : Stmt:=top 25
abbrev lM : Stmt:=top 26
abbrev ei : Stmt:=top 28
abbrev iN : Stmt:=top 30
abbrev eC : Stmt:=top 31
abbrev dh : Stmt:=top 32
abbrev dD : Stmt:=top 33
abbrev kQ : Stmt:=top 34
abbrev f7 : Stmt:=top 35
abbrev eE : Stmt:=top 38
abbrev dq : Stmt:=top 39
abbrev eZ : Stmt:=top 40
abbrev cU : Stmt:=top 41
abbrev fk : Stmt:=top 42
abbrev e8 : Stmt:=top 43
abbrev dw : Stmt:=top 44
abbrev iF : Stmt:=top 46
abbrev kU : Stmt:=top 47
abbrev ff : Stmt:=top 48
abbrev fi : Stmt:=top 49
abbrev fe : Stmt:=top 50
abbrev dv : Stmt:=top 51
abbrev f8 : Stmt:=top 52
abbrev fc : Stmt:=top 53
abbrev fj : Stmt:=top 54
abbrev ck : Stmt:=top 55
abbrev eu : Stmt:=top 56
abbrev f6 : Stmt:=top 57
abbrev iu : Stmt:=top 58
abbrev nE : Stmt:=top 59
theorem ln : aH ["tree","leaf","waiting","downward","part"] ["tree","leaf"] (defScope ik):=⟨rfl,rfl,rfl,by decide +kernel,rfl,by decide +kernel,by decide +kernel⟩
theorem iJ : aH ["tree","leaf","of_leaf","of_fork","done","part","second","first"] ["tree","leaf","of_leaf","of_fork"] (defScope iE):=⟨rfl,rfl,rfl,by decide +kernel,rfl,by decide +kernel,by decide +kernel⟩
theorem uT : aH ["tree","leaf"] ["tree","leaf"] (defScope cR):=⟨rfl,rfl,rfl,by decide +kernel,rfl,by decide +kernel,by decide +kernel⟩
theorem sf : aH ["tree","leaf"] ["tree","leaf"] (defScope cy):=⟨rfl,rfl,rfl,by decide +kernel,rfl,by decide +kernel,by decide +kernel⟩
theorem sM : aH ["words","place","bit"] ["words","place","bit"] (defScope cz):=⟨rfl,rfl,rfl,by decide +kernel,rfl,by decide +kernel,by decide +kernel⟩
theorem gN : aH ["case","place","bit","yes","no"] ["case","place","bit"] (defScope dA):=⟨rfl,rfl,rfl,by decide +kernel,rfl,by decide +kernel,by decide +kernel⟩
theorem tG : aH ["talk","place","bit"] ["talk","place","bit"] (defScope cu):=⟨rfl,rfl,rfl,by decide +kernel,rfl,by decide +kernel,by decide +kernel⟩
theorem sD : aH ["old","place"] ["old","place"] (defScope c9):=⟨rfl,rfl,rfl,by decide +kernel,rfl,by decide +kernel,by decide +kernel⟩
theorem jw : aH ["turn","yes","no","own","silent","loud"] ["turn","yes","no"] (defScope er):=⟨rfl,rfl,rfl,by decide +kernel,rfl,by decide +kernel,by decide +kernel⟩
theorem cS : aH ["case","talk","ends","waiting","bits","part","yes","no","at_first","at_second"] ["case","talk"] (defScope gb):=⟨rfl,rfl,rfl,by decide +kernel,rfl,by decide +kernel,by decide +kernel⟩
theorem vE : aH ["words"] ["words"] (defScope eG):=⟨rfl,rfl,rfl,by decide +kernel,rfl,by decide +kernel,by decide +kernel⟩
theorem bR : aH ["case","talk","downward","waiting","part","yes","no","at_first","at_second"] ["case","talk"] (defScope df):=⟨rfl,rfl,rfl,by decide +kernel,rfl,by decide +kernel,by decide +kernel⟩
theorem qV : aH ["case","talk","done","part","second","first"] ["case","talk"] (defScope uH):=⟨rfl,rfl,rfl,by decide +kernel,rfl,by decide +kernel,by decide +kernel⟩
theorem CV : aH ["saying","word"] ["saying","word"] (defScope gw):=⟨rfl,rfl,rfl,by decide +kernel,rfl,by decide +kernel,by decide +kernel⟩
theorem Fp : aH ["saying"] ["saying"] (defScope pE):=⟨rfl,rfl,rfl,by decide +kernel,rfl,by decide +kernel,by decide +kernel⟩
theorem BQ : aH ["saying"] ["saying"] (defScope iH):=⟨rfl,rfl,rfl,by decide +kernel,rfl,by decide +kernel,by decide +kernel⟩
theorem pH : aH ["case","saying","word"] ["case","saying"] (defScope iB):=⟨rfl,rfl,rfl,by decide +kernel,rfl,by decide +kernel,by decide +kernel⟩
theorem EQ : aH ["case","saying"] ["case","saying"] (defScope lM):=⟨rfl,rfl,rfl,by decide +kernel,rfl,by decide +kernel,by decide +kernel⟩
theorem xn : aH ["case"] ["case"] (defScope ei):=⟨rfl,rfl,rfl,by decide +kernel,rfl,by decide +kernel,by decide +kernel⟩
theorem f9 : aH ["talk","yes","no","bits","part","own","bit"] ["talk","yes","no"] (defScope iN):=⟨rfl,rfl,rfl,by decide +kernel,rfl,by decide +kernel,by decide +kernel⟩
theorem wy : aH ["talk"] ["talk"] (defScope eC):=⟨rfl,rfl,rfl,by decide +kernel,rfl,by decide +kernel,by decide +kernel⟩
theorem sF : aH ["talk"] ["talk"] (defScope dh):=⟨rfl,rfl,rfl,by decide +kernel,rfl,by decide +kernel,by decide +kernel⟩
theorem tE : aH ["rule","place","yes","no"] ["rule","place","yes","no"] (defScope dD):=⟨rfl,rfl,rfl,by decide +kernel,rfl,by decide +kernel,by decide +kernel⟩
theorem n6 : aH ["case","rule","talk","yes","no","place"] ["case","rule","talk"] (defScope kQ):=⟨rfl,rfl,rfl,by decide +kernel,rfl,by decide +kernel,by decide +kernel⟩
theorem zB : aH ["case","rule","talk"] ["case","rule","talk"] (defScope f7):=⟨rfl,rfl,rfl,by decide +kernel,rfl,by decide +kernel,by decide +kernel⟩
theorem r6 : aH ["case","saying","led"] ["case","saying"] (defScope eE):=⟨rfl,rfl,rfl,by decide +kernel,rfl,by decide +kernel,by decide +kernel⟩
theorem x5 : aH ["case","leaf"] ["case","leaf"] (defScope dq):=⟨rfl,rfl,rfl,by decide +kernel,rfl,by decide +kernel,by decide +kernel⟩
theorem ku : aH ["case","join","one","other","says"] ["case","join","one","other"] (defScope eZ):=⟨rfl,rfl,rfl,by decide +kernel,rfl,by decide +kernel,by decide +kernel⟩
theorem tu : aH ["words","values","bit"] ["words","values","bit"] (defScope cU):=⟨rfl,rfl,rfl,by decide +kernel,rfl,by decide +kernel,by decide +kernel⟩
theorem zI : aH ["ones","others"] ["ones","others"] (defScope fk):=⟨rfl,rfl,rfl,by decide +kernel,rfl,by decide +kernel,by decide +kernel⟩
theorem zN : aH ["ones","others"] ["ones","others"] (defScope e8):=⟨rfl,rfl,rfl,by decide +kernel,rfl,by decide +kernel,by decide +kernel⟩
theorem cq : aH ["case","talk","kept","leaves","waiting","done","part","other","one"] ["case","talk"] (defScope dw):=⟨rfl,rfl,rfl,by decide +kernel,rfl,by decide +kernel,by decide +kernel⟩
theorem Cc : aH ["_law_script"] ["_law_script"] (defScope iF):=⟨rfl,rfl,rfl,by decide +kernel,rfl,by decide +kernel,by decide +kernel⟩
theorem eN : aH ["_law_mine_here","_law_many","_law_lump","_law_script","_law_at","_law_cell","_law_dust"] ["_law_mine_here","_law_many"] (defScope kU):=⟨rfl,rfl,rfl,by decide +kernel,rfl,by decide +kernel,by decide +kernel⟩
theorem yA : aH ["_law_places"] ["_law_places"] (defScope ff):=⟨rfl,rfl,rfl,by decide +kernel,rfl,by decide +kernel,by decide +kernel⟩
theorem fE : aH ["_law_mine_here","_law_places","_law_many","_law_kinds","_law_left","_law_one","_law_other"] ["_law_mine_here","_law_places","_law_many","_law_kinds"] (defScope fi):=⟨rfl,rfl,rfl,by decide +kernel,rfl,by decide +kernel,by decide +kernel⟩
theorem wD : aH ["_law_saying_here","_law_word"] ["_law_saying_here","_law_word"] (defScope fe):=⟨rfl,rfl,rfl,by decide +kernel,rfl,by decide +kernel,by decide +kernel⟩
theorem iU : aH ["_law_mine_here","_law_words","_law_way","_law_found"] ["_law_mine_here","_law_words"] (defScope dv):=⟨rfl,rfl,rfl,by decide +kernel,rfl,by decide +kernel,by decide +kernel⟩
theorem jp : aH ["_law_case","_law_place","_law_bit","_law_found"] ["_law_case","_law_place","_law_bit"] (defScope f8):=⟨rfl,rfl,rfl,by decide +kernel,rfl,by decide +kernel,by decide +kernel⟩
theorem rK : aH ["_law_case","_law_place","_law_bit","_law_with_it"] ["_law_case","_law_place","_law_bit"] (defScope fc):=⟨rfl,rfl,rfl,by decide +kernel,rfl,by decide +kernel,by decide +kernel⟩
theorem yd : aH ["_law_word","_law_place","_law_bit"] ["_law_word","_law_place","_law_bit"] (defScope fj):=⟨rfl,rfl,rfl,by decide +kernel,rfl,by decide +kernel,by decide +kernel⟩
theorem bL : aH ["_law_case","_law_talk","_law_place","_law_bit","_law_small","_law_short","_law_is_rising","_law_yes","_law_no","_law_whole","_law_bits","_law_end","_law_at"] ["_law_case","_law_talk","_law_place","_law_bit","_law_small","_law_short","_law_is_rising"] (defScope ck):=⟨rfl,rfl,rfl,by decide +kernel,rfl,by decide +kernel,by decide +kernel⟩
theorem fY : aH ["_law_case","_law_talk","_law_small","_law_short","_law_most","_law_few","_law_told"] ["_law_case","_law_talk","_law_small","_law_short"] (defScope eu):=⟨rfl,rfl,rfl,by decide +kernel,rfl,by decide +kernel,by decide +kernel⟩
theorem iZ : aH ["_law_case","_law_talk","_law_place","_law_bit","_law_is_rising","_law_is_told","_law_small","_law_short"] ["_law_case","_law_talk","_law_place","_law_bit","_law_is_rising"] (defScope f6):=⟨rfl,rfl,rfl,by decide +kernel,rfl,by decide +kernel,by decide +kernel⟩
theorem fh : aH ["_law_mine_here","_law_case","_law_talk","_law_turn","_law_place","_law_bit","_law_is_told","_law_small"] ["_law_mine_here","_law_case","_law_talk"] (defScope iu):=⟨rfl,rfl,rfl,by decide +kernel,rfl,by decide +kernel,by decide +kernel⟩
theorem eR : aH ["_law_script","_law_mine_here","_law_places","_law_kinds","_law_saying_here","_law_yes","_law_no","_law_case","_law_talk","_law_place","_law_bit"] ["_law_script"] (defScope nE):=⟨rfl,rfl,rfl,by decide +kernel,rfl,by decide +kernel,by decide +kernel⟩
set_option genInjectivity false in
structure Adr where
  cY : Addr
  iK : FuncData
  cL : Addr
  gi : FuncData
  bJ : Addr
  eA : FuncData
  bt : Addr
  dF : FuncData
  bq : Addr
  dP : FuncData
  bO : Addr
  fX : FuncData
  bw : Addr
  dB : FuncData
  bD : Addr
  fA : FuncData
  cK : Addr
  ie : FuncData
  c8 : Addr
  lE : FuncData
  cf : Addr
  gH : FuncData
  bC : Addr
  fv : FuncData
  kK : Addr
  ye : FuncData
  dX : Addr
  kY : FuncData
  gL : Addr
  vd : FuncData
  dO : Addr
  ny : FuncData
  dS : Addr
  nB : FuncData
  eX : Addr
  nh : FuncData
  cw : Addr
  iX : FuncData
  du : Addr
  kw : FuncData
  bT : Addr
  fK : FuncData
  bu : Addr
  dR : FuncData
  bP : Addr
  fV : FuncData
  fx : Addr
  qC : FuncData
  cn : Addr
  gc : FuncData
  cG : Addr
  ii : FuncData
  cx : Addr
  jB : FuncData
  cB : Addr
  i6 : FuncData
  bN : Addr
  fZ : FuncData
  de : Addr
  kO : FuncData
  dc : Addr
  kP : FuncData
  cg : Addr
  gz : FuncData
  dI : Addr
  nQ : FuncData
  dy : Addr
  jq : FuncData
  di : Addr
  lI : FuncData
  bV : Addr
  fm : FuncData
  bW : Addr
  fg : FuncData
  ca : Addr
  gB : FuncData
  cJ : Addr
  iM : FuncData
  dg : Addr
  lB : FuncData
  cC : Addr
  jb : FuncData
  bh : Addr
  d0 : FuncData
  cc : Addr
  gJ : FuncData
  db : Addr
  lC : FuncData
  dG : Addr
  m4 : FuncData
  l6 : Addr
  yf : FuncData
  wo : World
  ci : Addr
  eB : Addr
  gK : Addr
  dz : Addr
  fP : Addr
  lb : Addr
  lD : Addr
  ga : Addr
  oA : Addr
  dm : Addr
  jA : Addr
  nW : Addr
structure Txt (K : PySem.W.Frag) (mg : Str->Option Value) (t : Adr) : Prop where
  rM : mg "upward" = some (.ref t.cY)
  DT : Fun K "upward" "upward" ik t.cY t.iK
  su : PySem.W.keepIn K (.ref t.cY) = true
  qQ : a7 K t.iK ["tree","leaf"] []
  nk : mg "folded" = some (.ref t.cL)
  DU : Fun K "folded" "folded" iE t.cL t.gi
  nZ : PySem.W.keepIn K (.ref t.cL) = true
  nR : a7 K t.gi ["tree","leaf","of_leaf","of_fork"] []
  pM : mg "tree_deep" = some (.ref t.bJ)
  Hr : Fun K "tree_deep" "tree_deep" cR t.bJ t.eA
  pU : PySem.W.keepIn K (.ref t.bJ) = true
  gK : a7 K t.eA ["tree","leaf"] []
  l4 : mg "tree_leaves" = some (.ref t.bt)
  sT : Fun K "tree_leaves" "tree_leaves" cy t.bt t.dF
  md : PySem.W.keepIn K (.ref t.bt) = true
  l7 : a7 K t.dF ["tree","leaf"] []
  hJ : mg "fixed_words" = some (.ref t.bq)
  sW : Fun K "fixed_words" "fixed_words" cz t.bq t.dP
  g7 : PySem.W.keepIn K (.ref t.bq) = true
  gS : a7 K t.dP ["words","place","bit"] []
  vT : mg "fixed_case" = some (.ref t.bO)
  uL : Fun K "fixed_case" "fixed_case" dA t.bO t.fX
  vk : PySem.W.keepIn K (.ref t.bO) = true
  vK : a7 K t.fX ["case","place","bit"] []
  mW : mg "fixed_talk" = some (.ref t.bw)
  Gu : Fun K "fixed_talk" "fixed_talk" cu t.bw t.dB
  m9 : PySem.W.keepIn K (.ref t.bw) = true
  fP : a7 K t.dB ["talk","place","bit"] []
  tj : mg "fixed_place" = some (.ref t.bD)
  sV : Fun K "fixed_place" "fixed_place" c9 t.bD t.fA
  s9 : PySem.W.keepIn K (.ref t.bD) = true
  tB : a7 K t.fA ["old","place"] []
  uJ : mg "went_on" = some (.ref t.cK)
  B0 : Fun K "went_on" "went_on" er t.cK t.ie
  uF : PySem.W.keepIn K (.ref t.cK) = true
  uk : a7 K t.ie ["turn","yes","no"] []
  Ca : mg "ends_of" = some (.ref t.c8)
  B6 : Fun K "ends_of" "ends_of" gb t.c8 t.lE
  BX : PySem.W.keepIn K (.ref t.c8) = true
  Cd : a7 K t.lE ["case","talk"] []
  pI : mg "has_pairs" = some (.ref t.cf)
  xV : Fun K "has_pairs" "has_pairs" eG t.cf t.gH
  pL : PySem.W.keepIn K (.ref t.cf) = true
  pQ : a7 K t.gH ["words"] []
  sX : mg "kept_upward" = some (.ref t.bC)
  tI : Fun K "kept_upward" "kept_upward" df t.bC t.fv
  tz : PySem.W.keepIn K (.ref t.bC) = true
  tq : a7 K t.fv ["case","talk"] []
  DY : mg "cut" = some (.ref t.kK)
  JH : Fun K "cut" "cut" uH t.kK t.ye
  Dr : PySem.W.keepIn K (.ref t.kK) = true
  CP : a7 K t.ye ["case","talk"] []
  qq : mg "value" = some (.ref t.dX)
  Kz : Fun K "value" "value" gw t.dX t.kY
  qD : PySem.W.keepIn K (.ref t.dX) = true
  lD : a7 K t.kY ["saying","word"] []
  Jk : mg "deep" = some (.ref t.gL)
  I9 : Fun K "deep" "deep" pE t.gL t.vd
  ID : PySem.W.keepIn K (.ref t.gL) = true
  IZ : a7 K t.vd ["saying"] []
  Dy : mg "leaves" = some (.ref t.dO)
  DZ : Fun K "leaves" "leaves" iH t.dO t.ny
  DH : PySem.W.keepIn K (.ref t.dO) = true
  CW : a7 K t.ny ["saying"] []
  Cz : mg "missed" = some (.ref t.dS)
  Fd : Fun K "missed" "missed" iB t.dS t.nB
  E2 : PySem.W.keepIn K (.ref t.dS) = true
  EF : a7 K t.nB ["case","saying"] []
  AB : mg "parts" = some (.ref t.eX)
  FA : Fun K "parts" "parts" lM t.eX t.nh
  zZ : PySem.W.keepIn K (.ref t.eX) = true
  AY : a7 K t.nh ["case","saying"] []
  zr : mg "pairs_in" = some (.ref t.cw)
  y9 : Fun K "pairs_in" "pairs_in" ei t.cw t.iX
  zt : PySem.W.keepIn K (.ref t.cw) = true
  zf : a7 K t.iX ["case"] []
  re : mg "spoken" = some (.ref t.du)
  CI : Fun K "spoken" "spoken" iN t.du t.kw
  sI : PySem.W.keepIn K (.ref t.du) = true
  rR : a7 K t.kw ["talk","yes","no"] []
  fJ : mg "talk_deep" = some (.ref t.bT)
  xS : Fun K "talk_deep" "talk_deep" eC t.bT t.fK
  fF : PySem.W.keepIn K (.ref t.bT) = true
  fG : a7 K t.fK ["talk"] []
  dH : mg "talk_leaves" = some (.ref t.bu)
  tF : Fun K "talk_leaves" "talk_leaves" dh t.bu t.dR
  dJ : PySem.W.keepIn K (.ref t.bu) = true
  dM : a7 K t.dR ["talk"] []
  vq : mg "parts_pair" = some (.ref t.bP)
  vZ : Fun K "parts_pair" "parts_pair" dD t.bP t.fV
  uR : PySem.W.keepIn K (.ref t.bP) = true
  vG : a7 K t.fV ["rule","place","yes","no"] []
  Gg : mg "fault" = some (.ref t.fx)
  Gm : Fun K "fault" "fault" kQ t.fx t.qC
  FT : PySem.W.keepIn K (.ref t.fx) = true
  GA : a7 K t.qC ["case","rule","talk"] []
  kZ : mg "lets_by" = some (.ref t.cn)
  Cl : Fun K "lets_by" "lets_by" f7 t.cn t.gc
  lh : PySem.W.keepIn K (.ref t.cn) = true
  lG : a7 K t.gc ["case","rule","talk"] []
  BG : mg "talk_of" = some (.ref t.cG)
  Jp : Fun K "talk_of" "talk_of" eE t.cG t.ii
  Cq : PySem.W.keepIn K (.ref t.cG) = true
  oA : a7 K t.ii ["case","saying"] []
  zm : mg "led_leaf" = some (.ref t.cx)
  y6 : Fun K "led_leaf" "led_leaf" dq t.cx t.jB
  yu : PySem.W.keepIn K (.ref t.cx) = true
  zp : a7 K t.jB ["case","leaf"] []
  zJ : mg "led_join" = some (.ref t.cB)
  zy : Fun K "led_join" "led_join" eZ t.cB t.i6
  yt : PySem.W.keepIn K (.ref t.cB) = true
  yL : a7 K t.i6 ["case","join","one","other"] []
  mV : mg "words_with" = some (.ref t.bN)
  wp : Fun K "words_with" "words_with" cU t.bN t.fZ
  nz : PySem.W.keepIn K (.ref t.bN) = true
  mZ : a7 K t.fZ ["words","values","bit"] []
  uE : mg "greater" = some (.ref t.de)
  Cw : Fun K "greater" "greater" fk t.de t.kO
  tN : PySem.W.keepIn K (.ref t.de) = true
  tQ : a7 K t.kO ["ones","others"] []
  tM : mg "smaller" = some (.ref t.dc)
  Cm : Fun K "smaller" "smaller" e8 t.dc t.kP
  ub : PySem.W.keepIn K (.ref t.dc) = true
  tX : a7 K t.kP ["ones","others"] []
  xR : mg "saying_of" = some (.ref t.cg)
  w9 : Fun K "saying_of" "saying_of" dw t.cg t.gz
  xC : PySem.W.keepIn K (.ref t.cg) = true
  wU : a7 K t.gz ["case","talk"] []
  Ej : mg "_law_mine" = some (.ref t.dI)
  DO : Fun K "_law_mine" "_law_mine" iF t.dI t.nQ
  DE : PySem.W.keepIn K (.ref t.dI) = true
  EK : a7 K t.nQ ["_law_script"] []
  cD : mg "_law_dig" = some (.ref t.dy)
  FS : Fun K "_law_dig" "_law_dig" kU t.dy t.jq
  cF : PySem.W.keepIn K (.ref t.dy) = true
  cE : a7 K t.jq ["_law_mine_here","_law_many"] []
  oq : mg "_law_field" = some (.ref t.di)
  Co : Fun K "_law_field" "_law_field" ff t.di t.lI
  oU : PySem.W.keepIn K (.ref t.di) = true
  oM : a7 K t.lI ["_law_places"] []
  mw : mg "_law_saying" = some (.ref t.bV)
  zq : Fun K "_law_saying" "_law_saying" fi t.bV t.fm
  mt : PySem.W.keepIn K (.ref t.bV) = true
  mf : a7 K t.fm ["_law_mine_here","_law_places","_law_many","_law_kinds"] []
  d9 : mg "_law_is_one" = some (.ref t.bW)
  yN : Fun K "_law_is_one" "_law_is_one" fe t.bW t.fg
  ee : PySem.W.keepIn K (.ref t.bW) = true
  d8 : a7 K t.fg ["_law_saying_here","_law_word"] []
  pX : mg "_law_thinned" = some (.ref t.ca)
  xm : Fun K "_law_thinned" "_law_thinned" dv t.ca t.gB
  pY : PySem.W.keepIn K (.ref t.ca) = true
  pP : a7 K t.gB ["_law_mine_here","_law_words"] []
  tO : mg "_law_fixed" = some (.ref t.cJ)
  Ch : Fun K "_law_fixed" "_law_fixed" f8 t.cJ t.iM
  uK : PySem.W.keepIn K (.ref t.cJ) = true
  t9 : a7 K t.iM ["_law_case","_law_place","_law_bit"] []
  BM : mg "_law_stays" = some (.ref t.dg)
  Cj : Fun K "_law_stays" "_law_stays" fc t.dg t.lB
  BE : PySem.W.keepIn K (.ref t.dg) = true
  BV : a7 K t.lB ["_law_case","_law_place","_law_bit"] []
  rW : mg "_law_put_in" = some (.ref t.cC)
  yX : Fun K "_law_put_in" "_law_put_in" fj t.cC t.jb
  rF : PySem.W.keepIn K (.ref t.cC) = true
  rV : a7 K t.jb ["_law_word","_law_place","_law_bit"] []
  qj : mg "_law_pairs_right" = some (.ref t.bh)
  qb : Fun K "_law_pairs_right" "_law_pairs_right" ck t.bh t.d0
  qc : PySem.W.keepIn K (.ref t.bh) = true
  p9 : a7 K t.d0 ["_law_case","_law_talk","_law_place","_law_bit","_law_small","_law_short","_law_is_rising"] []
  xA : mg "_law_no_more" = some (.ref t.cc)
  xT : Fun K "_law_no_more" "_law_no_more" eu t.cc t.gJ
  xi : PySem.W.keepIn K (.ref t.cc) = true
  xP : a7 K t.gJ ["_law_case","_law_talk","_law_small","_law_short"] []
  B4 : mg "_law_right" = some (.ref t.db)
  BR : Fun K "_law_right" "_law_right" f6 t.db t.lC
  Cb : PySem.W.keepIn K (.ref t.db) = true
  BY : a7 K t.lC ["_law_case","_law_talk","_law_place","_law_bit","_law_is_rising"] []
  DR : mg "_law_down" = some (.ref t.dG)
  Db : Fun K "_law_down" "_law_down" iu t.dG t.m4
  Dt : PySem.W.keepIn K (.ref t.dG) = true
  E7 : a7 K t.m4 ["_law_mine_here","_law_case","_law_talk"] []
  JE : mg "law" = some (.ref t.l6)
  JV : Fun K "law" "law" nE t.l6 t.yf
  KU : PySem.W.keepIn K (.ref t.l6) = true
  KS : a7 K t.yf ["_law_script"] []
  HH : ∀ (s : Shared) (v : Value),BindsTo s t.yf ⟨[v],[]⟩ [("_law_script",v)]
  Dz : mg "abs" = none
  Bj : mg "int" = none
  jI : mg "len" = none
  CH : mg "max" = none
  Ht : mg "min" = none
  ql : mg "range" = none
  yU : mg "reversed" = none
  li : mg "tuple" = none
  EX : mg "zip" = none
  sJ : mg "JOIN_OF_HAND" = some (.ref t.ci)
  si : StD t.wo K t.ci [("yes",V.str "or"),("no",V.str "and")]
  eL : wq K "tree_deep" "tree_deep" cR t.bJ t.eA t.eB t.gK
  dE : wq K "fixed_talk" "fixed_talk" cu t.bw t.dB t.dz t.fP
  kh : wq K "value" "value" gw t.dX t.kY t.lb t.lD
  gk : wq K "talk_of" "talk_of" eE t.cG t.ii t.ga t.oA
  r8 : mg "NoCase" = some (.ref t.dm)
  IL : mg "NoSaying" = some (.ref t.jA)
  Ke : mg "NoTalk" = some (.ref t.nW)
  iC : Ab K t.dm = true
  cZ : PySem.W.exmOne K (.ref t.dm) (.ref t.dm) = some true
local macro_rules | `(tactic| walk_at "ab")=>`(tactic| simp only [q9,m5,wO,wG,BC,Bi,zO,gf,xa,uI,AR,mn,iD,w4,Bx,wE,GS,C3,Al,xD,Bm,At,xK,wY,xG,xo,w5,xZ,uq,qI,Bb,Bn,x6,xc,zT,DK,AX,EB,zV,D9,Hw,Bl,De,DB,Ad,By,E1,EH,A8,uu,tR,xE,tZ,tJ,Bz,qK,yh,mj,pK,jf,Ae,AW,q0,xj,Dh,Bq,xp,xt,wW,wz,tY,xQ,yn,ED,yp,xb,BB,Am,AQ,AD,Br,Aj,Ax,zX,yi,AK,Ai,E3,yo,yc,Fh,A5,C8,EU,Fg,yV,Dx,Fb,yR,zC,Da,Dv,CO,yZ,yk,Ac,bn,Cy,DG,Eh,DA,uD,yO,jo,xO,Om.put_same,Om.put_put,sz1,sz2,sz3,sz4,Int.toNat_natCast,GW,GM,G7,GZ,eU,qy,CS,E8,CA,Bv,qp,CM,A0,Nat.zero_le,AV.d.injEq,AV.r.injEq,D.int.injEq,D.bl.injEq,D.str.injEq,D.tup.injEq,D.lst.injEq,OC.own.injEq,V.ref.injEq,List.map_cons,List.map_nil,List.cons_append,List.nil_append,List.length_cons,List.length_nil,List.length_map,List.length_append,List.replicate,List.getElem?_cons_zero,List.getElem?_cons_succ,List.set_cons_zero,List.set_cons_succ,Option.some.injEq,Option.map_some,Option.join_some,exists_eq',exists_eq_left',List.cons.injEq,and_true,true_and,and_assoc,exists_and_left,Nat.sub_self,Nat.reduceAdd,Nat.reduceSub,Nat.reduceLeDiff,Int.reduceLT,Int.reduceAdd,Int.reduceToNat,Nat.reduceLT,decide_eq_true_eq,Bool.not_eq_true,Bool.not_true,Bool.not_false,if_true,if_false,Bool.false_eq_true,reduceCtorEq,false_and,and_false,or_false,false_or,exists_false,beq_iff_eq,bne_iff_ne,ne_eq,Bool.true_eq_false])
local macro_rules | `(tactic| walk_at "a1")=>`(tactic| simp only [q9,wO,wG,BC,Bi,zO,gf,xa,uI,AR,mn,iD,w4,Bx,wE,GS,C3,Al,xD,Bm,At,xK,wY,xG,xo,w5,xZ,uq,qI,Bb,Bn,x6,xc,zT,DK,AX,EB,zV,D9,Hw,Bl,De,DB,Ad,By,E1,EH,A8,uu,tR,xE,tZ,tJ,Bz,qK,yh,mj,pK,jf,Ae,AW,q0,xj,Dh,Bq,xp,xt,wW,wz,tY,xQ,yn,ED,yp,xb,BB,Am,AQ,AD,Br,Aj,Ax,zX,yi,AK,Ai,E3,yo,yc,Fh,A5,C8,EU,Fg,yV,Dx,Fb,yR,zC,Da,Dv,CO,yZ,yk,Ac,bn,Cy,DG,Eh,DA,uD,jo,xO,Om.put_same,Om.put_put,sz1,sz2,sz3,sz4,Int.toNat_natCast,GW,GM,G7,GZ,eU,qy,CS,E8,CA,Bv,qp,CM,A0,Nat.zero_le,AV.d.injEq,AV.r.injEq,D.int.injEq,D.bl.injEq,D.str.injEq,D.tup.injEq,D.lst.injEq,OC.own.injEq,V.ref.injEq,List.map_cons,List.map_nil,List.cons_append,List.nil_append,List.length_cons,List.length_nil,List.length_map,List.length_append,List.replicate,List.getElem?_cons_zero,List.getElem?_cons_succ,List.set_cons_zero,List.set_cons_succ,Option.some.injEq,Option.map_some,Option.join_some,exists_eq',exists_eq_left',List.cons.injEq,and_true,true_and,and_assoc,exists_and_left,Nat.sub_self,Nat.reduceAdd,Nat.reduceSub,Nat.reduceLeDiff,Int.reduceLT,Int.reduceAdd,Int.reduceToNat,Nat.reduceLT,decide_eq_true_eq,Bool.not_eq_true,Bool.not_true,Bool.not_false,if_true,if_false,Bool.false_eq_true,reduceCtorEq,false_and,and_false,or_false,false_or,exists_false,beq_iff_eq,bne_iff_ne,ne_eq,Bool.true_eq_false])
local macro_rules | `(tactic| walk_at "s1")=>`(tactic| (try walk_at "a1");(first | rw [m5] | rw [Df]);walk_at "a1")
section
variable {P : Program} {w : World} {K : PySem.W.Frag} {mg : Str->Option Value} {base : Heap} {t : Adr}
def pdO (K : PySem.W.Frag) (c : Pq) : OC:=.dic [(("script" : Str),kz K c.a c.ns),(("dug" : Str),.d (.int c.i)),(("ore" : Str),.d (.int c.f))]
def xz (K : PySem.W.Frag) (ω : Om) (p : Addr) : Prop:=∃ c,ω p = some (pdO K c)
theorem bH {K : PySem.W.Frag} {ω : Om} {p : Addr} {c : Pq} : xz K (ω.put p (pdO K c)) p:=⟨c,Om.put_same⟩
def DM (K : PySem.W.Frag) : ASp:=fun xs ω Q=>∃ (a : Addr) (ns : List Int),xs = [kz K a ns]/\ns.length<=63/\∀ p c,ω p = none->Q (.r (.ref p)) (ω.put p (pdO K c))
theorem IK (T : Txt K mg t) : aJ P w K mg base CX0 1 t.dI t.nQ ["_law_script"] (aN (DM K)):=by
  refine T.DO.okA Cc (fun xs ω Q h=>by obtain ⟨a,ns,rfl,_⟩:=h;rfl) (fun cdv A outer s H E hr=>⟨_,_,(al (aD (Fk (qM aP (pv 0) (qM aP ag (qM aP ag Fl))) rfl rfl (by simp) (by decide)))),(aT (HJ (l9.cons ae (l9.cons ak (l9.cons ak l9.nil))))),fun xs ω Q h=>?_⟩)
  obtain ⟨a,ns,rfl,hn,k⟩:=h
  walk_at "a1"
  exact ⟨by decide +kernel,fun p hp=>k p ⟨a,ns,0,0,Int.le_refl _,Int.le_refl _,hn⟩ hp⟩
theorem xz.some {ω : Om} {p : Addr} (h : xz K ω p) : (ω p).isSome = true:=by obtain ⟨c,e⟩:=h;rw [e];rfl
theorem kR {ω : Om} {p : Addr} {c : Pq} (h : xz K ω p) : (ω.put p (pdO K c)).only ω = ω.put p (pdO K c):=C4 (Ex.refl _) h.some
abbrev pd3 (a b c : AV) : List (Str × AV):=[(("script" : Str),a),(("dug" : Str),b),(("ore" : Str),c)]
theorem Dj {a b c : AV} : ndK (pd3 a b c):=by unfold ndK;show [("script" : Str),"dug","ore"].Nodup;decide +kernel
theorem C9 {a b c x : AV} : qh (pd3 a b c) "ore" = some c/\sY (pd3 a b c) "ore" x = pd3 a b x:=by
  refine ⟨?_,?_⟩
  · simp only [qh,List.find?_cons,show decide (("script" : Str) = "ore") = false from by decide +kernel,show decide (("dug" : Str) = "ore") = false from by decide +kernel,decide_true];rfl
  · simp only [sY,if_neg (show ¬ ("script" : Str) = "ore" from by decide +kernel),if_neg (show ¬ ("dug" : Str) = "ore" from by decide +kernel),if_true]
theorem Ko {a b c x : AV} : qh (pd3 a b c) "dug" = some b/\sY (pd3 a b c) "dug" x = pd3 a x c:=by
  refine ⟨?_,?_⟩
  · simp only [qh,List.find?_cons,show decide (("script" : Str) = "dug") = false from by decide +kernel,decide_true];rfl
  · simp only [sY,if_neg (show ¬ ("script" : Str) = "dug" from by decide +kernel),if_true]
theorem KO {a b c : AV} : qh (pd3 a b c) "script" = some a:=by
  simp only [qh,List.find?_cons,decide_true];rfl
theorem yG {a b c : AV} : ((pd3 a b c).any fun p=>decide (p.1 = ("ore" : Str))) = true/\((pd3 a b c).any fun p=>decide (p.1 = ("dug" : Str))) = true:=by
  simp
def n9 (K : PySem.W.Frag) : ASp:=fun xs ω Q=>∃ (p : Addr) (m : Int),xs = [.r (.ref p),.d (.int m)]/\xz K ω p/\0 < m/\m < 1073741824/\∀ (r : Int) (c : Pq),0<=r->r < m->Q (.d (.int r)) (ω.put p (pdO K c))
theorem qt (T : Txt K mg t) : aJ P w K mg base CX0 1 t.dy t.jq ["_law_mine_here","_law_many"] (aN (n9 K)):=by
  refine T.FS.okA eN (fun xs ω Q h=>by obtain ⟨p,m,rfl,_⟩:=h;rfl) (fun cdv A outer s H E hr=>⟨_,_,(ah (bz (aE j3 (nF (pT hr) (pv 0) aP (fun _ _=>rfl)) ag (aK _)) (ah (aL (i:=2) eN.nd rfl (Or.inl rfl) (bb iS (nF (pT hr) (pv 0) aP (fun _ _=>rfl)) (pv 1)))
      (ah (vm (pT hr) (pv 0) aP (bb lj (nF (pT hr) (pv 0) aP (fun _ _=>rfl)) (pv 1)) rfl)
      (al (aD (pv 2))))) aY)
      (ah (aL (i:=3) eN.nd rfl (Or.inl rfl) (nF (pT hr) (pv 0) aP (fun _ _=>rfl)))
      (ah (aL (i:=4) eN.nd rfl (Or.inl rfl) (nF (pT hr) (pv 0) aP (fun _ _=>rfl)))
      (ah (vm (pT hr) (pv 0) aP (bb (aW cH (aW bU cI)) (pv 4) ag) rfl)
      (ah (aL (i:=5) eN.nd rfl (Or.inl rfl) ag)
      (ah (bz (aE j3 (bA (cm K rfl) (by rfl) T.jI (by kernel_rfl) (aa (pv 3) af)) ag (aK _)) (al (aL (i:=5) eN.nd rfl (Or.inl rfl) (ar (aj K rfl) (pv 3) (bb iS (pv 4) (bA (cm K rfl) (by rfl) T.jI (by kernel_rfl) (aa (pv 3) af))) (fun _ _=>rfl)))) aY)
      (ah (bz (PW.pt (wn (aE Hh (pv 4) (bA (cm K rfl) (by rfl) T.jI (by kernel_rfl) (aa (pv 3) af)) (aK _)) (qx (aE JK (bA sN (by rfl) T.Dz (by kernel_rfl) (aa (pv 5) af)) (bb Iz ag ag) (aK _))))) (ah (vm (pT hr) (pv 0) aP (bb lj (bA sN (by rfl) T.Dz (by kernel_rfl) (aa (pv 5) af)) (pv 1)) rfl)
      (al (aD (bb iS (bA sN (by rfl) T.Dz (by kernel_rfl) (aa (pv 5) af)) (pv 1))))) aY)
      (ah (aL (i:=6) eN.nd rfl (Or.inl rfl) (bb iS (bb (aW oR pG) (bb (aW cH (aW bU cI)) (bb (aW cH (aW bU cI)) (bb iS (pv 5) ag) (bb (aW oR pG) ag (pv 4))) ag) ag) ag))
      (ah (aL (i:=6) eN.nd rfl (Or.inl rfl) (bb iS (bb (aW cH (aW bU cI)) (bb (aW oR pG) (pv 6) (bb (aW cH (aW bU cI)) (bb iS (pv 6) ag) ag)) (bb (aW oR pG) ag (pv 4))) ag))
      (ah (aL (i:=6) eN.nd rfl (Or.inl rfl) (bb iS (bb (aW cH (aW bU cI)) (bb (aW cH (aW bU cI)) (bb (aW oR pG) (pv 6) (pv 6)) (bb (aW oR pG) ag (pv 6))) ag) ag))
      (al (aD (bb iS (bb lj (pv 6) ag) (pv 1)))))))))))))),(au (cQ (aQ (ap fO (sA ae bc) ak)) (au (aO (ap iW (sA ae bc) ae) ao)
      (au (za ae bc (ap iW (sA ae bc) ae))
      (aT ae))) bf)
      (au (aO (sA ae bc) ao)
      (au (aO (sA ae bc) ao)
      (au (za ae bc (ap eD ae ak))
      (au (aO ak ao)
      (au (cQ (aQ (ap fO (eJ zF (ac ae ai)) ak)) (aO (ap JA ae (ap iW ae (eJ zF (ac ae ai)))) ao) bf)
      (au (cQ (Ba (aQ (ap fO ae (eJ zF (ac ae ai)))) (aQ (ap fO (eJ Iv (ac ae ai)) (ap iW ak ak)))) (au (za ae bc (ap iW (eJ Iv (ac ae ai)) ae))
      (aT (ap iW (eJ Iv (ac ae ai)) ae))) bf)
      (au (aO (ap iW (ap tK (ap eD (ap eD (ap iW ae ak) (ap tK ak ae)) ak) ak) ak) ao)
      (au (aO (ap iW (ap eD (ap tK ae (ap eD (ap iW ae ak) ak)) (ap tK ak ae)) ak) ao)
      (au (aO (ap iW (ap eD (ap eD (ap tK ae ae) (ap tK ak ae)) ak) ak) ao)
      (aT (ap iW (ap iW ae ak) ae)))))))))))),fun xs ω Q h=>?_⟩)
  obtain ⟨p,m,rfl,⟨c,hp⟩,hm,hm2,k⟩:=h
  have fin : ∀ (r : Int) (c : Pq),Q (.d (.int (r % m))) (ω.put p (pdO K c)):=fun r c=>k _ c (Int.emod_nonneg _ (by omega)) (Int.emod_lt_of_pos _ hm)
  unfold pdO at hp
  walk_at "s1"
  refine ⟨_,hp,_,(C9 (x:=.d .non)).1,_,rfl,gr (fun h1=>?_) (fun h1=>?_)⟩
  · walk_at "s1"
    refine ⟨_,hp,_,(C9 (x:=.d .non)).1,_,rfl,hm,?_⟩
    walk_at "s1"
    refine ⟨_,hp,_,(C9 (x:=.d .non)).1,_,rfl,⟨hm,hm2⟩,_,hp,Dj,yG.1,by simp [sizeLine],?_⟩
    rw [C9.2]
    exact fin _ ⟨c.a,c.ns,c.i,c.f / m,c.h0,Int.ediv_nonneg c.hf (by omega),c.hn⟩
  · walk_at "s1"
    refine ⟨_,hp,_,KO,?_⟩
    walk_at "s1"
    refine ⟨_,hp,_,(Ko (x:=.d .non)).1,?_⟩
    walk_at "s1"
    refine ⟨_,hp,Dj,yG.2,by simp [sizeLine],?_⟩
    rw [Ko.2]
    walk_at "s1"
    have absn : ∀ z : Int,0<=(if z < 0 then -z else z):=fun z=>by split<;>omega
    refine nn (fun ρ' ω'=>ω' = ω.put p (.dic (pd3 (kz K c.a c.ns) (.d (.int (c.i + 1))) (.d (.int c.f))))/\∃ x : Int,ρ' = [some (AV.r (V.ref p)),some (AV.d (D.int m)),none,some (kz K c.a c.ns),some (AV.d (D.int c.i)),some (AV.d (D.int x)),none]) (fun M kM=>?_) ?_
    · walk_at "a1"
      refine ⟨c.a,c.ns,rfl,gr (fun h2=>?_) (fun h2=>kM _ _ ⟨rfl,_,rfl⟩)⟩
      have h2' : 0 < (c.ns.length : Int):=h2
      have hx1 : 0<=c.i % (c.ns.length : Int):=Int.emod_nonneg _ (by omega)
      have hx2 : c.i % (c.ns.length : Int) < (c.ns.length : Int):=Int.emod_lt_of_pos _ h2'
      obtain ⟨y,ey⟩ : ∃ y,atI c.ns (c.i % (c.ns.length : Int)) = some y:=by
        obtain ⟨j,ej⟩:=Int.eq_ofNat_of_zero_le hx1
        rw [ej] at hx2 ⊢
        have hj : j < c.ns.length:=Int.ofNat_lt.mp hx2
        exact ⟨_,Fw (List.getElem?_eq_getElem hj)⟩
      exact ⟨c.a,c.ns,rfl,h2',c.a,c.ns,rfl,y,ey,kM _ _ ⟨rfl,_,rfl⟩⟩
    rintro ρ ω' ⟨rfl,x,rfl⟩
    refine nn (fun ρ' ω'=>ω' = ω.put p (.dic (pd3 (kz K c.a c.ns) (.d (.int (c.i + 1))) (.d (.int c.f))))/\ρ' = [some (AV.r (V.ref p)),some (AV.d (D.int m)),none,some (kz K c.a c.ns),some (AV.d (D.int c.i)),some (AV.d (D.int x)),none]) (fun M kM=>?_) ?_
    · walk_at "a1"
      refine ⟨c.a,c.ns,rfl,gr (fun h2=>⟨⟨by decide,by decide,by decide⟩,gr (fun h3=>?_) (fun h3=>kM _ _ ⟨rfl,rfl⟩)⟩) (fun h2=>kM _ _ ⟨rfl,rfl⟩)⟩
      walk_at "s1"
      refine ⟨⟨hm,hm2⟩,_,rfl,Dj,yG.1,by simp [sizeLine],hm,?_⟩
      rw [C9.2]
      exact fin _ ⟨c.a,c.ns,c.i + 1,(if x < 0 then -x else x) / m,by have:=c.h0;omega,Int.ediv_nonneg (absn x) (by omega),c.hn⟩
    rintro ρ ω' ⟨rfl,rfl⟩
    walk_at "ab"
    exact ⟨zL (by decide),HW (by decide),xU (by decide) (by decide),zL (by decide),xU (by decide) (by decide),zL (by decide),⟨by decide,by decide⟩,hm,fin _ ⟨c.a,c.ns,c.i + 1,c.f,by have:=c.h0;omega,c.hf,c.hn⟩⟩
def FV (K : PySem.W.Frag) : ASp:=fun xs ω Q=>∃ (a : Addr) (ns : List Int),xs = [kz K a ns]/\ns.length<=63/\ω = (fun _=>none)/\∀ ω',Q (.d (.bl true)) ω'
def wx (K : PySem.W.Frag) : Sp:=aN (FV K)
theorem BH {K : PySem.W.Frag} {H : Hp} {a : Addr} {ns : List Int} (hl : ns.length<=63) (hO : Kh H) (hS : SqL K H a (ns.map V.int)) : wx K [.ref a] H (fun v _=>v = .bl true) fun _ _ _=>False :=
  ⟨fun _=>false,[kz K a ns],fun _=>none,fun a _=>a = .d (.bl true),Gf,⟨_,_,rfl,yq hS,rfl⟩,⟨a,ns,rfl,hl,rfl,fun _=>rfl⟩,fun a ω' v H' _ _ rv q=>by subst q;exact A3 rv⟩
end
section
variable {P : Program} {w : World} {K : PySem.W.Frag} {mg : Str->Option Value} {base : Heap} {t : Adr}
def FR (n m : Nat) : List Int:=(List.range n).map fun k : Nat=>(if 0 < Builtin.bitAnd (0 + (m : Int)) (1 * 2 ^ ((n : Int) - 1 + (k : Int) * -1).toNat) then 1 else 0 : Int)
theorem JY : ∀ n : Fin 6,wl n.val = (List.range (2 ^ n.val)).map (FR n.val):=by decide +kernel
theorem pw5 (q : Nat) : (1 * 2 ^ q : Int) = ((2 ^ q : Nat) : Int):=by rw [Int.one_mul,Int.natCast_pow];rfl
theorem KN {q : Nat} (h : q<=5) : 2 ^ q<=32:=Nat.pow_le_pow_right (by decide) h
def yj : ASp:=fun xs ω Q=>∃ n : Nat,xs = [.d (.int n)]/\n<=5/\Q (.d (.lst ((wl n).map wdD))) ω
theorem EC (T : Txt K mg t) : aJ P w K mg base CX0 1 t.di t.lI ["_law_places"] (aN yj):=by
  refine T.Co.okD yA (fun xs ω Q h=>by obtain ⟨n,rfl,_⟩:=h;rfl) (fun cdv A outer s H E hr=>⟨_,_,(al (aD (dC (N:=(["_law_number","_law_places"] : List Str)) (src:=[none,some 0]) rfl (by show dn _ (defScope ff) _ _ (["_law_places"] : List Str) = true;decide +kernel) (by intro g' h;cases h) (oW rfl T.ql (aa (bb zK ag (pv 0)) af)) (fun _ _ _ _ _ _=>(aG (i:=0) (show (["_law_number","_law_places"] : List Str).Nodup by decide +kernel) rfl (Or.inr rfl))) (fun _ _ _ _ _ _=>fy) (fun _ _ _ _ _ _=>(bX rfl rfl (da (cN K rfl) (by rfl) T.li (by kernel_rfl) (aa (dC (N:=(["_law_k","_law_number"] : List Str)) (src:=[none,some 0]) rfl (by with_unfolding_all rfl) (by intro g' h;cases h) (BW rfl T.ql rfl T.yU (aa (pv 1) af)) (fun _ _ _ _ _ _=>(aG (i:=0) (show (["_law_k","_law_number"] : List Str).Nodup by decide +kernel) rfl (Or.inl rfl))) (fun _ _ _ _ _ _=>fy) (fun _ _ _ _ _ _=>(bX rfl rfl (da lu (by rfl) T.Bj (by kernel_rfl) (aa (cr j3 (bb IT (pv 1) (bb zK ag (pv 0))) ag (aK _)) af))))) af))))))),(aT (cW (yC (ac (ap iW ak ae) ai)) ao tw (cT (eJ lq (ac (cW (Jf (ac ae ai)) ao tw (cT (eJ As (ac (ap fO (ap ni ae (ap iW ak ae)) ak) ai)))) ai))))),fun xs ω Q h=>?_⟩)
  obtain ⟨n,rfl,hn,k⟩:=h
  have h32:=KN hn
  have hwa:=JY ⟨n,by omega⟩
  dsimp only at hwa
  walk_at "a1"
  rw [pw5]
  generalize hz : 2 ^ n = z at h32 hwa ⊢
  refine ⟨⟨by omega,by omega,by decide⟩,by omega,by omega,?_⟩
  rw [Int.toNat_natCast]
  refine nu (rs:=(wl n).map wdD) (by rw [hwa];simp [ro]) (Nat.le_of_lt (bi (by simp [ro];omega))) (fun i a r ha hr' Q q=>?_) (fun ρ=>⟨_,bn _,?_⟩)
  · rw [hwa] at hr'
    simp only [ro,List.getElem?_map,Option.map_eq_some_iff] at ha hr'
    obtain ⟨i',h1,rfl⟩:=ha
    obtain ⟨v,⟨i2,h2,rfl⟩,rfl⟩:=hr'
    rw [h1] at h2
    cases h2
    walk_at "a1"
    refine ⟨by omega,by omega,?_⟩
    refine nu (rs:=(FR n i').map D.int) (by simp [pV,FR]) (Nat.le_of_lt (bi (by simp [pV];omega))) (fun j a r ha hr' Q q=>?_) (fun ρ=>⟨_,bn _,?_⟩)
    · simp only [pV,FR,List.getElem?_map,Option.map_eq_some_iff] at ha hr'
      obtain ⟨k',h1,rfl⟩:=ha
      obtain ⟨v,⟨k2,h2,rfl⟩,rfl⟩:=hr'
      rw [h1] at h2
      cases h2
      have hk : k' < n:=by have:=(List.getElem?_eq_some_iff.mp h1);obtain ⟨h3,h4⟩:=this;simp at h3 h4;omega
      walk_at "a1"
      exact ⟨⟨by omega,by omega,by decide⟩,q⟩
    · exact q
  · rw [av]
    exact k
end
section
variable {P : Program} {w : World} {K : PySem.W.Frag} {mg : Str->Option Value} {base : Heap} {t : Adr}
def cap (r : Nat) : Nat:=[1,2,3,4,7,12,19,30,46].getD r 0
theorem Ey : ∀ r : Fin 8,∀ m : Fin 47,2<=m.val->m.val<=cap (r.val + 1)->(m.val / 2<=cap r.val/\m.val - m.val / 2<=cap r.val)/\(m.val / 3 + 1<=cap r.val/\m.val - (m.val / 3 + 1)<=cap r.val)/\((m.val + 1) / 2<=cap r.val/\m.val - (m.val + 1) / 2<=cap r.val)/\(m.val < 5->1<=cap r.val/\m.val - 1<=cap r.val):=by decide +kernel
theorem IF : ∀ r : Fin 9,cap r.val<=46:=by decide +kernel
def uW (K : PySem.W.Frag) (r : Nat) : ASp:=fun xs ω Q=>∃ (p : Addr) (n m : Nat) (b : Bool),xs = [.r (.ref p),.d (.int n),.d (.int m),.d (.int (1 + b01 b))]/\xz K ω p/\1<=n/\n<=5/\1<=m/\m<=cap r/\r<=8/\∀ (x : Sy) (c : Pq),x.ok n->x.dp<=r->x.lvs = m->(b = false->x.up)->Q (.d x.d) (ω.put p (pdO K c))
theorem xg (T : Txt K mg t) (r : Nat) (kk : Nat) (sp : ASp) (hk : 1<=kk) (G_l_saying : aJ P w K mg base CX0 kk t.bV t.fm ["_law_mine_here","_law_places","_law_many","_law_kinds"] (aN sp))
    (hs : ∀ r',r = r' + 1->sp = uW K r') : aJ P w K mg base CX0 (kk + 1) t.bV t.fm ["_law_mine_here","_law_places","_law_many","_law_kinds"] (aN (uW K r)):=by
  have G_l_dig : aJ P w K mg base CX0 1 t.dy t.jq ["_law_mine_here","_law_many"] (aN (n9 K)):=qt T
  refine T.zq.okD fE (fun xs ω Q h=>by obtain ⟨p,n,m,b,rfl,_⟩:=h;rfl) (fun cdv A outer s H E hr=>⟨_,_,(ah (bz (aE (bd hr.u100) (pv 2) ag (aK _)) (al (aD (aR (aA aP (aa (am G_l_dig (hr.mono (by omega)) (by rfl) T.cD T.cF T.cE .nil aB (aa (pv 0) (aa (pv 1) af))) (aa (bb kJ ag (am G_l_dig (hr.mono (by omega)) (by rfl) T.cD T.cF T.cE .nil aB (aa (pv 0) (aa (pv 3) af)))) af)))))) aY)
      (ah (aL (i:=4) fE.nd rfl (Or.inl rfl) (ar (aj K rfl) (dr (aa (bb lj (pv 2) ag) (aa (bb (aW cH (aW bU cI)) (bb lj (pv 2) ag) ag) (aa (bb lj (bb (aW cH (aW bU cI)) (pv 2) ag) ag) af)))) (am G_l_dig (hr.mono (by omega)) (by rfl) T.cD T.cF T.cE .nil aB (aa (pv 0) (aA ag af))) (fun _ _=>rfl)))
      (ah (bz (PW.pt (wn (aE Hh (pv 2) ag (aK _)) (qx (aE (bd hr.u100) (am G_l_dig (hr.mono (by omega)) (by rfl) T.cD T.cF T.cE .nil aB (aa (pv 0) (aA ag af))) ag (aK _))))) (al (aL (i:=4) fE.nd rfl (Or.inl rfl) ag)) aY)
      (ah (aL (i:=5) fE.nd rfl (Or.inl rfl) (am G_l_saying (hr.mono (by omega)) (by rfl) T.mw T.mt T.mf .nil aB (aa (pv 0) (aa (pv 1) (aa (pv 4) (aa (pv 3) af))))))
      (ah (aL (i:=6) fE.nd rfl (Or.inl rfl) (am G_l_saying (hr.mono (by omega)) (by rfl) T.mw T.mt T.mf .nil aB (aa (pv 0) (aa (pv 1) (aa (bb kJ (pv 2) (pv 4)) (aa (pv 3) af))))))
      (ah (bz (aE (bd hr.u100) (am G_l_dig (hr.mono (by omega)) (by rfl) T.cD T.cF T.cE .nil aB (aa (pv 0) (aA ag af))) ag (aK _)) (al (aD (aR (aA aP (aa (pv 5) (aa (pv 6) af)))))) aY)
      (al (aD (aR (aA aP (aa (pv 6) (aa (pv 5) af)))))))))))),(au (cQ (aQ (ap bj ae ak)) (aT (a9 (ac bc (ac (aq (ac ae (ac ae ai))) (ac (ap ni ak (aq (ac ae (ac ae ai)))) ai))))) bf)
      (au (aO (ap aM (sR (ac (ap iW ae ak) (ac (ap eD (ap iW ae ak) ak) (ac (ap iW (ap eD ae ak) ak) ai)))) (aq (ac ae (ac ak ai)))) ao)
      (au (cQ (Ba (aQ (ap fO ae ak)) (aQ (ap bj (aq (ac ae (ac ak ai))) ak))) (aO ak ao) bf)
      (au (aO (aq (ac ae (ac ae (ac ae (ac ae ai))))) ao)
      (au (aO (aq (ac ae (ac ae (ac (ap ni ae ae) (ac ae ai))))) ao)
      (au (cQ (aQ (ap bj (aq (ac ae (ac ak ai))) ak)) (aT (a9 (ac bc (ac ae (ac ae ai))))) bf)
      (aT (a9 (ac bc (ac ae (ac ae ai))))))))))),fun xs ω Q h=>?_⟩)
  obtain ⟨p,n,m,b,rfl,hp,hn1,hn,hm1,hm,hr8,k⟩:=h
  have hb : (1 : Int)<=1 + b01 b/\(1 : Int) + b01 b<=2:=by cases b<;>decide
  walk_at "s1"
  refine gr (fun h=>?_) (fun h=>?_)
  · refine ⟨p,n,rfl,hp,by omega,by omega,fun x c x0 x1=>⟨p,1 + b01 b,rfl,bH,by omega,by omega,fun y c2 y0 y1=>?_⟩⟩
    rw [Om.put_put]
    refine ⟨_,rfl,_,rfl,?_⟩
    rw [kR hp]
    exact k (.is x (1 - y)) c2 ⟨x0,x1,by omega⟩ (Nat.zero_le _) (by simp only [Sy.lvs];omega) (fun e=>by subst e;have : y < 1:=y1;simp only [Sy.up];omega)
  · obtain ⟨r',rfl⟩ : ∃ r',r = r' + 1:=⟨r - 1,by
      cases r with
      | zero=>simp [cap] at hm;omega
      | succ r=>rfl⟩
    cases hs r' rfl
    have hm46:=IF ⟨r' + 1,by omega⟩
    obtain ⟨⟨a1,a2⟩,⟨b1,b2⟩,⟨c1,c2⟩,d1⟩:=Ey ⟨r',by omega⟩ ⟨m,by simp at hm46;omega⟩ (by simp;omega) hm
    simp only at a1 a2 b1 b2 c1 c2 d1
    walk_at "s1"
    refine ⟨⟨by decide,by decide⟩,⟨by decide,by decide⟩,⟨by decide,by decide⟩,p,3,rfl,hp,by decide,by decide,fun j c j0 j1=>⟨_,rfl,?_⟩⟩
    obtain ⟨g0,eg0,g1,g2,g3,g4⟩ : ∃ g : Nat,atI [AV.d (D.int ((m : Int) / 2)),AV.d (D.int ((m : Int) / 3 + 1)),AV.d (D.int (((m : Int) + 1) / 2))] j = some (.d (.int (g : Int)))/\1<=g/\g < m/\g<=cap r'/\m - g<=cap r':=by
      rcases (by omega : j = 0\/j = 1\/j = 2) with rfl | rfl | rfl
      · exact ⟨m / 2,rfl,by omega,by omega,a1,a2⟩
      · exact ⟨m / 3 + 1,rfl,by omega,by omega,b1,b2⟩
      · exact ⟨(m + 1) / 2,rfl,by omega,by omega,c1,c2⟩
    refine ⟨_,eg0,?_⟩
    refine nn (fun ρ' ω'=>∃ (g : Nat) (c : Pq),ω' = ω.put p (pdO K c)/\1<=g/\g < m/\g<=cap r'/\m - g<=cap r'/\ρ' = [some (AV.r (V.ref p)),some (AV.d (D.int n)),some (AV.d (D.int m)),some (AV.d (D.int (1 + b01 b))),some (AV.d (D.int g)),none,none]) (fun M kM=>?_) ?_
    · walk_at "a1"
      refine gr (fun h1=>?_) (fun h1=>kM _ _ ⟨g0,c,rfl,g1,g2,g3,g4,rfl⟩)
      refine ⟨p,2,rfl,bH,by decide,by decide,fun v c2 v0 v1=>?_⟩
      rw [Om.put_put]
      obtain ⟨d1,d2⟩:=d1 (by omega)
      refine ⟨_,rfl,by simp [dep],gr (fun h3=>kM _ _ ⟨1,c2,rfl,by omega,by omega,d1,d2,rfl⟩) (fun h3=>kM _ _ ⟨g0,c2,rfl,g1,g2,g3,g4,rfl⟩)⟩
    rintro ρ ω' ⟨g,c,rfl,g1,g2,g3,g4,rfl⟩
    have eg : (m : Int) - (g : Int) = ((m - g : Nat) : Int):=by omega
    walk_at "s1"
    refine ⟨p,n,g,b,rfl,bH,hn1,hn,g1,g3,by omega,fun x c hx hxd hxl hxu=>?_⟩
    rw [Om.put_put]
    walk_at "s1"
    rw [eg]
    refine ⟨p,n,m - g,b,rfl,bH,hn1,hn,by omega,g4,by omega,fun y c hy hyd hyl hyu=>?_⟩
    rw [Om.put_put]
    walk_at "s1"
    refine ⟨p,2,rfl,bH,by decide,by decide,fun v c2 v0 v1=>?_⟩
    rw [Om.put_put]
    refine ⟨_,rfl,by simp [dep],gr (fun h3=>?_) (fun h3=>?_)⟩
    · rw [kR hp]
      exact k (.jn true x y) c2 ⟨hx,hy⟩ (by simp only [Sy.dp];omega) (by simp only [Sy.lvs];omega) fun e=>⟨hxu e,hyu e⟩
    · rw [kR hp]
      exact k (.jn false y x) c2 ⟨hy,hx⟩ (by simp only [Sy.dp];omega) (by simp only [Sy.lvs];omega) fun e=>⟨hyu e,hxu e⟩
theorem Dq (T : Txt K mg t) : ∀ r,aJ P w K mg base CX0 (r + 2) t.bV t.fm ["_law_mine_here","_law_places","_law_many","_law_kinds"] (aN (uW K r))
  | 0=>xg T 0 1 Je (Nat.le_refl _) GU (fun r' h=>by omega)
  | r + 1=>xg T (r + 1) (r + 2) _ (by omega) (Dq T r) (fun r' h=>by cases h;rfl)
def qS (r : Nat) : ASp:=fun xs ω Q=>∃ (x : Sy) (wd : List Int),xs = [.d x.d,.d (wdD wd)]/\x.ok wd.length/\x.dp<=r/\Q (.d (.bl (x.val wd))) ω
theorem wQ (T : Txt K mg t) (r : Nat) (kk : Nat) (sp : ASp) (G_l_is_one : aJ P w K mg base CX0 kk t.bW t.fg ["_law_saying_here","_law_word"] (aN sp))
    (hs : ∀ r',r = r' + 1->sp = qS r') : aJ P w K mg base CX0 (kk + 1) t.bW t.fg ["_law_saying_here","_law_word"] (aN (qS r)):=by
  refine T.yN.okD wD (fun xs ω Q h=>by obtain ⟨x,wd,rfl,_⟩:=h;rfl) (fun cdv A outer s H E hr=>⟨_,_,(ah (bz (aE (bd hr.u100) (ar (aj K rfl) (pv 0) ag (fun _ _=>rfl)) aP (aK _)) (al (aD (m7 K rfl (am G_l_is_one (hr.mono (by omega)) (by rfl) T.d9 T.ee T.d8 .nil aB (aa (ar (aj K rfl) (pv 0) ag (fun _ _=>rfl)) (aa (pv 1) af))) (pC (am G_l_is_one (hr.mono (by omega)) (by rfl) T.d9 T.ee T.d8 .nil aB (aa (ar (aj K rfl) (pv 0) ag (fun _ _=>rfl)) (aa (pv 1) af))))))) aY)
      (ah (bz (aE (bd hr.u100) (ar (aj K rfl) (pv 0) ag (fun _ _=>rfl)) aP (aK _)) (al (aD (HG K rfl (am G_l_is_one (hr.mono (by omega)) (by rfl) T.d9 T.ee T.d8 .nil aB (aa (ar (aj K rfl) (pv 0) ag (fun _ _=>rfl)) (aa (pv 1) af))) (pC (am G_l_is_one (hr.mono (by omega)) (by rfl) T.d9 T.ee T.d8 .nil aB (aa (ar (aj K rfl) (pv 0) ag (fun _ _=>rfl)) (aa (pv 1) af))))))) aY)
      (al (aD (cr (bd hr.u100) (ar (aj K rfl) (pv 1) (ar (aj K rfl) (pv 0) ag (fun _ _=>rfl)) (fun _ _=>rfl)) (ar (aj K rfl) (pv 0) ag (fun _ _=>rfl)) (aK _)))))),(au (cQ (aQ (ap bj (ap aM ae ak) bc)) (aT (r9 (aq (ac (ap aM ae ak) (ac ae ai))) (aq (ac (ap aM ae ak) (ac ae ai))))) bf)
      (au (cQ (aQ (ap bj (ap aM ae ak) bc)) (aT (JN (aq (ac (ap aM ae ak) (ac ae ai))) (aq (ac (ap aM ae ak) (ac ae ai))))) bf)
      (aT (ap bj (ap aM ae (ap aM ae ak)) (ap aM ae ak))))),fun xs ω Q h=>?_⟩)
  obtain ⟨x,wd,rfl,hx,hd,k⟩:=h
  cases x with
  | is i e =>
    obtain ⟨i0,i1,he⟩:=hx
    simp only [Sy.d]
    walk_at "s1"
    walk_at "s1"
    obtain ⟨y,my,hy,ey⟩:=vW (f:=AV.d ∘ D.int) (xs:=wd) i0 i1
    rw [← List.map_map] at ey
    refine ⟨_,ey,_,rfl,by simp [dep],?_⟩
    rw [av,eU]
    have ev : wd.getD i.toNat 0 = y:=by rw [List.getD_eq_getElem?_getD,hy];rfl
    simp only [Sy.val,ev] at k
    exact k
  | jn a l rr =>
    obtain ⟨hl1,hl2⟩:=hx
    simp only [Sy.dp] at hd
    obtain ⟨r',rfl⟩ : ∃ r',r = r' + 1:=⟨r - 1,by omega⟩
    cases hs r' rfl
    cases a<;>simp only [Sy.d,Sy.val,if_true,if_false,Bool.false_eq_true] at k ⊢
    · walk_at "s1"
      walk_at "s1"
      refine ⟨l,wd,rfl,hl1,by omega,_,rfl,?_⟩
      cases hv : l.val wd<;>rw [hv] at k
      · rw [if_neg (by decide)]
        refine ⟨rr,wd,rfl,hl2,by omega,_,rfl,?_⟩
        rw [av]
        exact k
      · rw [if_pos rfl]
        refine ⟨_,rfl,?_⟩
        rw [av]
        exact k
    · walk_at "s1"
      refine ⟨l,wd,rfl,hl1,by omega,_,rfl,?_⟩
      cases hv : l.val wd<;>rw [hv] at k
      · rw [if_neg (by decide)]
        refine ⟨_,rfl,?_⟩
        rw [av]
        exact k
      · rw [if_pos rfl]
        refine ⟨rr,wd,rfl,hl2,by omega,_,rfl,?_⟩
        rw [av]
        exact k
theorem DC (T : Txt K mg t) : ∀ r,aJ P w K mg base CX0 (r + 1) t.bW t.fg ["_law_saying_here","_law_word"] (aN (qS r))
  | 0=>wQ T 0 0 Je GU (fun r' h=>by omega)
  | r + 1=>wQ T (r + 1) (r + 1) _ (DC T r) (fun r' h=>by cases h;rfl)
def A6 (K : PySem.W.Frag) : ASp:=fun xs ω Q=>∃ (p : Addr) (ws : List (List Int)),xs = [.r (.ref p),.d (.lst (ws.map wdD))]/\xz K ω p/\ws.length<=32/\ws≠[]/\∀ (vs : List (List Int)) (c : Pq),vs.Sublist ws->vs≠[]->Q (.d (.tup (vs.map wdD))) (ω.put p (pdO K c))
theorem Gv (T : Txt K mg t) : aJ P w K mg base CX0 2 t.ca t.gB ["_law_mine_here","_law_words"] (aN (A6 K)):=by
  have G_l_dig : aJ P w K mg base CX0 1 t.dy t.jq ["_law_mine_here","_law_many"] (aN (n9 K)):=qt T
  refine T.xm.okD iU (fun xs ω Q h=>by obtain ⟨p,ws,rfl,_⟩:=h;rfl) (fun cdv A outer s H E hr=>⟨_,_,(ah (aL (i:=2) iU.nd rfl (Or.inr rfl) (am G_l_dig (hr.mono (by omega)) (by rfl) T.cD T.cF T.cE .nil aB (aa (pv 0) (aA ag af))))
      (ah (lJ (i:=3) iU.nd rfl (Or.inl rfl) (N:=(["_law_word","_law_mine_here","_law_way"] : List Str)) (src:=[none,some 0,some 2]) rfl (by show dn _ (defScope dv) _ _ (["_law_mine_here","_law_words","_law_way","_law_found"] : List Str) = true;decide +kernel) (by intro g' h;cases h) (bY K rfl (pv 1)) (fun _ _ _ _ _ _=>(aG (i:=0) (show (["_law_word","_law_mine_here","_law_way"] : List Str).Nodup by decide +kernel) rfl (Or.inl rfl))) (fun _ _ _ _ _ _=>(fC (PW.pt (ri (aE (bd hr.u100) (pv 2) ag (aK _)) (mB (aE j3 (am G_l_dig (hr.mono (by omega)) (by rfl) T.cD T.cF T.cE .nil aB (aa (pv 1) (aA ag af))) (pv 2) (aK _))))))) (fun _ _ _ _ _ _=>(bX rfl rfl (pv 0))))
      (ah (bz (aE (bd hr.u100) (pv 3) (dr af) (aK _)) (al (aD (aR (aa (ar (aj K rfl) (pv 1) (am G_l_dig (hr.mono (by omega)) (by rfl) T.cD T.cF T.cE .nil aB (aa (pv 0) (aa (bA (cm K rfl) (by rfl) T.jI (by kernel_rfl) (aa (pv 1) af)) af))) (fun _ _=>rfl)) af)))) aY)
      (al (aD (da (cN K rfl) (by rfl) T.li (by kernel_rfl) (aa (pv 3) af))))))),(au (aO (aq (ac ae (ac ak ai))) ao)
      (au (aO (cW (dk ae) ao (yT (aQ (ap bj ae ak)) (aQ (ap fO (aq (ac ae (ac ak ai))) ae))) (cT ae)) ao)
      (au (cQ (aQ (ap bj ae (sR ai))) (aT (a9 (ac (ap aM ae (aq (ac ae (ac (eJ mU (ac ae ai)) ai)))) ai))) bf)
      (aT (eJ lq (ac ae ai)))))),fun xs ω Q h=>?_⟩)
  obtain ⟨p,ws,rfl,hp,hl,hw,k⟩:=h
  walk_at "s1"
  refine ⟨p,3,rfl,hp,by decide,by decide,fun v c v0 v1=>?_⟩
  walk_at "s1"
  refine ze (fun ω'=>∃ c,ω' = ω.put p (pdO K c)) ⟨c,rfl⟩ (fun d hd ω' hS Q' q=>?_) (fun d hd ω' hS Q' q=>?_) (Nat.le_of_lt (bi (by simp;omega))) (fun es ρ ω' hs hS=>⟨es,bn _,?_⟩)
  · obtain ⟨c',rfl⟩:=hS
    walk_at "a1"
    refine gr (fun h1=>q _ _ ⟨c',rfl⟩) (fun h1=>?_)
    refine ⟨p,5,rfl,bH,by decide,by decide,fun v2 c2 v20 v21=>⟨_,rfl,?_⟩⟩
    rw [Om.put_put]
    exact q _ _ ⟨c2,rfl⟩
  · walk_at "a1"
    exact q
  obtain ⟨c',rfl⟩:=hS
  obtain ⟨vs,hvs,rfl⟩:=List.sublist_map_iff.mp hs
  have hvl:=hvs.length_le
  have ed : dep (D.lst (vs.map wdD))<=100:=by
    simp only [dep]
    have:=jZ vs
    omega
  walk_at "s1"
  refine ⟨ed,?_⟩
  cases vs with
  | nil =>
    rw [if_pos (show eqD (D.lst (List.map wdD [])) (D.lst []) = true from rfl)]
    have hw0:=List.length_pos_iff.mpr hw
    refine ⟨p,ws.length,rfl,bH,by omega,by omega,fun j c j0 j1=>⟨_,rfl,?_⟩⟩
    obtain ⟨j,rfl⟩:=Int.eq_ofNat_of_zero_le j0
    have hj : j < ws.length:=by omega
    refine ⟨.d (wdD ws[j]),jy j rfl (by rw [List.getElem?_map,List.getElem?_map,List.getElem?_eq_getElem hj];rfl),_,rfl,?_⟩
    rw [Om.put_put,kR hp]
    exact k [ws[j]] c (List.singleton_sublist.mpr (List.getElem_mem hj)) (by simp)
  | cons y ys =>
    rw [if_neg (by simp [eqD,fR])]
    rw [kR hp]
    exact k (y :: ys) c' hvs (by simp)
end
section
variable {P : Program} {w : World} {K : PySem.W.Frag} {mg : Str->Option Value} {base : Heap} {t : Adr}
def lfB : Tr->Bool
  | .lf _=>true
  | .nd _ _ _=>false
theorem u9 {u : Tr} {lw : Str} (ho : u.ok lw) : ∃ (ds : List D) (z : Str),u.d = .tup ds/\atI (ds.map AV.d) 0 = some (.d (.str z))/\(z = lw↔lfB u = true):=by
  cases u with
  | lf x =>
    refine ⟨x,lw,rfl,jy 0 rfl (by rw [List.getElem?_map,ho.1];rfl),by simp [lfB]⟩
  | nd x l r =>
    obtain ⟨⟨w0,hw0,hw0n⟩,_⟩:=ho
    refine ⟨x ++ [l.d,r.d],w0,rfl,jy 0 rfl ?_,by simp [lfB,hw0n]⟩
    rw [List.getElem?_map,List.getElem?_append_left (List.getElem?_eq_some_iff.mp hw0).1,hw0];rfl
theorem HQ {α : Type} {xs : List α} {a b : α} : atI (xs ++ [a,b]) (-1) = some b/\atI (xs ++ [a,b]) (-2) = some a:=by
  constructor
  · have e : xs ++ [a,b] = (xs ++ [a]) ++ [b]:=by simp
    rw [e];exact BU
  · unfold atI ixN
    rw [if_neg (by decide),if_pos (by simp;omega)]
    show (xs ++ [a,b])[((-2 : Int) + ((xs ++ [a,b]).length : Nat)).toNat]? = some a
    have : ((-2 : Int) + ((xs ++ [a,b]).length : Nat)).toNat = xs.length:=by simp;omega
    rw [this];simp
def trs : List Tr->Nat
  | []=>0
  | e :: r=>e.size + trs r
theorem gj : ∀ a b : List Tr,trs (a ++ b) = trs a + trs b
  | [],b=>by simp [trs]
  | e :: a,b=>by simp only [List.cons_append,trs,gj a b];omega
theorem Bc : ∀ a : List Tr,a.length<=trs a
  | []=>by simp [trs]
  | e :: a=>by
    have:=Bc a
    have:=Tr.wJ e
    simp only [trs,List.length_cons];omega
theorem kn {n : Nat} (h : n<=200000) : n < sizeLine:=Nat.lt_of_le_of_lt h (by decide)
theorem J1 {a b : Prop} (h : a) : if true = true then a else b:=by rw [if_pos rfl];exact h
theorem JS {a b : Prop} (h : b) : if false = true then a else b:=by rw [if_neg (by decide)];exact h
theorem Kn {i : Nat} {ρ : SA} {ω : Om} {Q : Bool->Om->Prop} {l : Addr} {xs : List AV} (h1 : ρ[i]? = some (some (.r (.ref l)))) (h2 : ω l = some (.own xs)) (q : Q (!xs.isEmpty) ω) : EL (cV i) ρ ω Q :=
  ⟨_,h1,_,by rw [yZ,yR,h2];rfl,q⟩
theorem xJ {i j : Nat} {R : AS} {D : bK} {ρ : SA} {ω : Om} {l : Addr} {xs : List AV} {y : AV} (h1 : ρ[i]? = some (some (.r (.ref l)))) (h2 : ω l = some (.own (xs ++ [y]))) (q : R D (ρ.set j (some y)) (ω.put l (.own xs))) : Cn (Ir (F7 (cV i)) (eK j)) R D ρ ω :=
  ⟨_,h1,l,xs ++ [y],y,rfl,h2,by simp,by rw [jf];exact q⟩
theorem Iy {i j : Nat} {D : bK} {ρ : SA} {ω : Om} {l : Addr} {xs : List AV} {y : AV} (h1 : ρ[i]? = some (some (.r (.ref l)))) (h2 : ω l = some (.own xs)) (h3 : xs.length < sizeLine) (h4 : ρ[j]? = some (some y)) (q : D.nx ρ (ω.put l (.own (xs ++ [y])))) : ue (lH (cV i) (dt (cV j) ss)) D ρ ω :=
  ⟨_,h1,l,rfl,⟨_,h2⟩,_,h4,xs,y,rfl,h2,h3,q⟩
theorem Ee {i j : Nat} {m : Int} {D : bK} {ρ : SA} {ω : Om} {l : Addr} {xs ys : List AV} {x y : AV} (h1 : ρ[i]? = some (some (.r (.ref l)))) (h2 : ω l = some (.own xs)) (h3 : xs.length < sizeLine) (h4 : ρ[j]? = some (some x)) (h5 : io x = some ys) (h6 : atI ys (-m) = some y) (q : D.nx ρ (ω.put l (.own (xs ++ [y])))) : ue (lH (cV i) (dt (aOp aIx (cV j) (aUn (aU fun i=>L2.D.int (-i)) (aC (L2.D.int m)))) ss)) D ρ ω :=
  ⟨_,h1,l,rfl,⟨_,h2⟩,_,h4,m,rfl,ys,-m,y,.inr h5,rfl,h6,xs,y,rfl,h2,h3,q⟩
theorem Ik {i j : Nat} {T U : AS} {D : bK} {ρ : SA} {ω : Om} {x : AV} {ys : List AV} {z lw : Str} (h1 : ρ[j]? = some (some x)) (h2 : io x = some ys) (h3 : atI ys 0 = some (.d (.str z))) (h4 : ρ[i]? = some (some (.d (.str lw)))) (q : if z = lw then U D ρ ω else T D ρ ω) : EM (ux (aOp (Dl true) (aOp aIx (cV j) (aC (L2.D.int 0))) (cV i))) T U D ρ ω :=
  ⟨_,h1,ys,0,_,.inr h2,rfl,h3,_,h4,_,_,rfl,rfl,by rw [qp];omega,_,rfl,by
    rw [qy]
    by_cases h : z = lw
    · rw [if_pos h] at q;rw [if_neg (by simp [h])];exact q
    · rw [if_neg h] at q;rw [if_pos (by simp [h])];exact q⟩
def jD : ASp:=fun xs ω Q=>∃ (u : Tr) (lw : Str),xs = [.d u.d,.d (.str lw)]/\u.ok lw/\u.size<=100000/\Q (.d (.lst (u.post.map Tr.d))) ω
theorem mS (T : Txt K mg t) : aJ P w K mg base CX0 1 t.cY t.iK ["tree","leaf"] (aN jD):=by
  refine T.DT.okD ln (fun xs ω Q h=>by obtain ⟨u,lw,rfl,_⟩:=h;rfl) (fun cdv A outer s H E hr=>⟨_,_,(ah (aL (i:=2) ln.nd rfl (Or.inl rfl) (dr (aa (pv 0) af)))
      (ah (aL (i:=3) ln.nd rfl (Or.inl rfl) (dr af))
      (ah (mY PassesOwn.never (bp K rfl (pv 2) (fun _=>rfl)) (ah (aL (i:=4) ln.nd rfl (Or.inl rfl) (hG PySem.F.plainAttrs_list PySem.F.slot_list_pop PySem.F.type_list_pop hU (pv 2)))
      (ah (bZ (eQ PySem.F.plainAttrs_list PySem.F.slot_list_append PySem.F.type_list_append bg (pv 3) (aa (pv 4) af)))
      (al (bz (aE (mm hr.u100) (ar (aj K rfl) (pv 4) ag (fun _ _=>rfl)) (pv 1) (aK _)) (ah (bZ (eQ PySem.F.plainAttrs_list PySem.F.slot_list_append PySem.F.type_list_append bg (pv 2) (aa (ar (aj K rfl) (pv 4) (wZ rC ag) (fun _ _=>rfl)) af)))
      (al (bZ (eQ PySem.F.plainAttrs_list PySem.F.slot_list_append PySem.F.type_list_append bg (pv 2) (aa (ar (aj K rfl) (pv 4) (wZ rC ag) (fun _ _=>rfl)) af))))) aY)))))
      (al (aD (zz K rfl (pv 3) (wZ rC ag))))))),(au (aO (gR (ac ae ai)) ao)
      (au (aO (gR ai) ao)
      (au (qF (eY ae) (au (aO (lW ae) ao)
      (au (cX (bI ae (ac ae ai)))
      (cQ (aQ (ap bj (ap aM ae ak) ae)) (au (cX (bI ae (ac (ap aM ae (J6 u_i ak)) ai)))
      (cX (bI ae (ac (ap aM ae (J6 u_i ak)) ai)))) bf))))
      (aT (GY ae))))),fun xs ω Q h=>?_⟩)
  obtain ⟨u,lw,rfl,hok,hsz,k⟩:=h
  walk_at "s1"
  intro l1 hl1
  walk_at "s1"
  intro l2 hl2
  obtain ⟨n21,hl2⟩:=nP hl2
  have n12:=Ne.symm n21
  rw [m5]
  obtain ⟨Pv,iP⟩:=Gd fun j ρ ω'=>∃ (W es : List Tr) (v4 : Option AV),ρ = [some (.d u.d),some (.d (.str lw)),some (.r (.ref l1)),some (.r (.ref l2)),v4]/\ω' = om2 ω l1 l2 (.own ((W.map Tr.d).map AV.d)) (.own ((es.map Tr.d).map AV.d))/\(∀ e∈W,e.ok lw)/\es ++ (W.reverse.flatMap Tr.pre) = u.pre/\es.length + trs W<=u.size/\j = trs W
  refine ⟨Pv,⟨_,(iP _ _ _).mpr ⟨[u],[],_,rfl,rfl,by simpa using hok,by simp,by simp [trs],rfl⟩⟩,fun j ρ ω' h=>?_⟩
  obtain ⟨W,es,v4,rfl,rfl,hW,hE,hS,rfl⟩:=(iP _ _ _).mp h
  clear h
  have eo : ∀ A B,(om2 ω l1 l2 A B).only ω = ω:=fun A B=>jv (((Ex.refl ω).over hl1).over hl2)
  refine Kn rfl (l5 n12) ?_
  rcases List.eq_nil_or_concat W with rfl | ⟨W',e,rfl⟩
  · simp only [List.reverse_nil,List.flatMap_nil,List.append_nil] at hE
    subst hE
    refine JS ⟨_,rfl,_,Er dQ,_,rfl,?_⟩
    rw [eo,← List.map_reverse,Tr.vo]
    exact k
  · rw [List.concat_eq_append] at hW hE hS ⊢
    have hWl:=Bc W'
    rw [gj] at hS
    simp only [trs,Nat.add_zero] at hS
    have hoe:=hW e (List.mem_append_right _ (List.mem_singleton.mpr rfl))
    have hW' : ∀ e∈W',e.ok lw:=fun e he=>hW e (List.mem_append_left _ he)
    simp only [List.reverse_append,List.reverse_cons,List.reverse_nil,List.nil_append,List.flatMap_append,List.flatMap_cons,List.flatMap_nil,List.append_nil,List.cons_append] at hE
    simp only [List.map_append,List.map_cons,List.map_nil]
    obtain ⟨ds,z,ed,ez,hz⟩:=u9 hoe
    have se:=Tr.wJ e
    have hs1 : es.length < sizeLine:=kn (by omega)
    have elt : ∀ W2 : List Tr,trs W2 < e.size->trs (W' ++ W2) < trs (W' ++ [e]):=fun W2 h=>by rw [gj,gj];simp only [trs];omega
    have pq : ∀ (W2 : List Tr) v4,trs W2 < e.size->(∀ x∈W2,x.ok lw)->W2.reverse.flatMap Tr.pre = e.pre.tail->e.pre = e :: e.pre.tail->∃ m',m' < trs (W' ++ [e])/\Pv m' [some (.d u.d),some (.d (.str lw)),some (.r (.ref l1)),some (.r (.ref l2)),v4] (om2 ω l1 l2 (.own (((W' ++ W2).map Tr.d).map AV.d)) (.own ((es.map Tr.d).map AV.d ++ [.d e.d]))):=fun W2 v4 h1 h2 h3 h4 =>
      ⟨_,elt W2 h1,(iP _ _ _).mpr ⟨W' ++ W2,es ++ [e],_,rfl,by simp,fun x hx=>(List.mem_append.mp hx).elim (hW' x) (h2 x),by rw [← hE,h4];simp [h3],by rw [gj];simp;omega,rfl⟩⟩
    rw [mj]
    refine J1 ⟨fun ρ' ω'=>∃ m',m' < trs (W' ++ [e])/\Pv m' ρ' ω',fun ρ' ω' h=>h,xJ rfl (l5 n12) ?_⟩
    rw [jV n12,m5]
    refine Iy rfl dQ (by simpa using hs1) rfl (Ik rfl (by rw [ed];rfl) ez rfl ?_)
    rw [eO]
    cases e with
    | lf x =>
      rw [if_pos (hz.mpr rfl),q9]
      have p0:=pq [] (some (.d (Tr.lf x).d)) (by simp [trs,Tr.size]) (by simp) rfl rfl
      simpa using p0
    | nd x a b =>
      obtain ⟨_,_,oa,ob⟩:=hoe
      have hz' : ¬ z = lw:=fun h=>by have:=hz.mp h;simp [lfB] at this
      have p0:=pq [a,b] (some (.d (Tr.nd x a b).d)) (by simp only [trs,Tr.size];omega) (by simp [oa,ob]) (by simp [Tr.pre]) rfl
      obtain ⟨q1,q2⟩:=HQ (xs:=x.map AV.d) (a:=AV.d a.d) (b:=AV.d b.d)
      have eds : ds = x ++ [a.d,b.d]:=by cases ed;rfl
      have l2' : W'.length + 1 < sizeLine:=kn (by omega)
      have tup : io (.d (Tr.nd x a b).d) = some (x.map AV.d ++ [AV.d a.d,AV.d b.d]):=by rw [ed,eds,zC];simp
      rw [if_neg hz',m5]
      refine Ee rfl (l5 n12) (kn (by simp;omega)) rfl tup q2 ?_
      rw [jV n12]
      refine Ee rfl (l5 n12) (by simpa using l2') rfl tup q1 ?_
      rw [jV n12]
      simpa using p0
end
section
variable {P : Program} {w : World} {K : PySem.W.Frag} {mg : Str->Option Value} {base : Heap} {t : Adr}
theorem FG {i j : Nat} {T U : AS} {D : bK} {ρ : SA} {ω : Om} {x : AV} {ys : List AV} {z lw : Str} (h1 : ρ[j]? = some (some x)) (h2 : io x = some ys) (h3 : atI ys 0 = some (.d (.str z))) (h4 : ρ[i]? = some (some (.d (.str lw)))) (q : if z = lw then T D ρ ω else U D ρ ω) : EM (ux (aOp (Dl false) (aOp aIx (cV j) (aC (L2.D.int 0))) (cV i))) T U D ρ ω :=
  ⟨_,h1,ys,0,_,.inr h2,rfl,h3,_,h4,_,_,rfl,rfl,by rw [qp];omega,_,rfl,by
    rw [qy]
    by_cases h : z = lw
    · rw [if_pos h] at q;rw [if_pos (by simp [h])];exact q
    · rw [if_neg h] at q;rw [if_neg (by simp [h])];exact q⟩
theorem Jg {i j m : Nat} {f : Addr} {caps : List V} {cA : List AV} {sp : ASp} {D : bK} {ρ : SA} {ω : Om} {l : Addr} {xs : List AV} {x y : AV} (h1 : ρ[i]? = some (some (.r (.ref l)))) (h2 : ω l = some (.own xs)) (h3 : xs.length < sizeLine) (h4 : ρ[m]? = some (some (zj f caps cA))) (h5 : ρ[j]? = some (some x)) (h6 : ∀ Q1 : AV->Om->Prop,Q1 y ω->sp [x] ω Q1) (q : D.nx ρ (ω.put l (.own (xs ++ [y])))) : ue (lH (cV i) (dt (yB m f caps cA sp (dt (cV j) ss)) ss)) D ρ ω :=
  ⟨_,h1,l,rfl,⟨_,h2⟩,h4,_,h5,h6 _ ⟨xs,y,rfl,h2,h3,q⟩⟩
theorem Ge {i j j1 j2 m : Nat} {f : Addr} {caps : List V} {cA : List AV} {sp : ASp} {D : bK} {ρ : SA} {ω : Om} {l : Addr} {xs : List AV} {x x1 x2 y : AV} (h1 : ρ[i]? = some (some (.r (.ref l)))) (h2 : ω l = some (.own xs)) (h3 : xs.length < sizeLine) (h4 : ρ[m]? = some (some (zj f caps cA))) (h5 : ρ[j]? = some (some x)) (h51 : ρ[j1]? = some (some x1)) (h52 : ρ[j2]? = some (some x2)) (h6 : ∀ Q1 : AV->Om->Prop,Q1 y ω->sp [x,x1,x2] ω Q1) (q : D.nx ρ (ω.put l (.own (xs ++ [y])))) : ue (lH (cV i) (dt (yB m f caps cA sp (dt (cV j) (dt (cV j1) (dt (cV j2) ss)))) ss)) D ρ ω :=
  ⟨_,h1,l,rfl,⟨_,h2⟩,h4,_,h5,_,h51,_,h52,h6 _ ⟨xs,y,rfl,h2,h3,q⟩⟩
theorem qE (kc : Nat) (T : Txt K mg t) : aJ P w K mg base CX0 (kc + 3) t.cL t.gi ["tree","leaf","of_leaf","of_fork"] (la kc P w K mg base):=by
  have G_upward : aJ P w K mg base CX0 1 t.cY t.iK ["tree","leaf"] (aN jD):=mS T
  refine T.DU.ok iJ (fun vs H Q E h=>?_) (fun cdv A outer s H vs Q E hr h=>?_)
  · obtain ⟨F,ω,Q',v,lw,u,f1,f2,c1,c2,a1,a2,s1,s2,g,rfl,_⟩:=h;rfl
  obtain ⟨F,ω,Q',v,lw,u,f1,f2,c1,c2,a1,a2,s1,s2,g,rfl,rp,hv,hok,hsz,C_of_leaf,C_of_fork,r1,r2,k1,k2,q,kq⟩:=h
  have rvs : RVs (cut F H ω) [.d u.d,.d (.str lw),zj f1 c1 a1,zj f2 c2 a2] [v,.str lw,.ref f1,.ref f2] :=
    ⟨_,_,rfl,hv,_,_,rfl,by simp [RV,Dat],_,_,rfl,⟨rfl,fun G' s=>r1.same s⟩,_,_,rfl,⟨rfl,fun G' s=>r2.same s⟩,rfl⟩
  refine ⟨_,(ah (aL (i:=4) iJ.nd rfl (Or.inl rfl) (dr af))
      (ah (gp PassesOwn.never rfl (bY K rfl (am G_upward (hr.mono (by omega)) (by rfl) T.rM T.su T.qQ .nil aB (aa (pv 0) (aa (pv 1) af)))) (aG (i:=5) iJ.nd rfl (Or.inl rfl)) (al (bz (aE (bd hr.u100) (ar (aj K rfl) (pv 5) ag (fun _ _=>rfl)) (pv 1) (aK _)) (al (bZ (eQ PySem.F.plainAttrs_list PySem.F.slot_list_append PySem.F.type_list_append bg (pv 4) (aa (wX (k:=kc) (n:=1) (i:=2) (hr.mono (by omega)) rfl (Or.inl rfl) (aa (pv 5) af)) af)))) (ah (aL (i:=6) iJ.nd rfl (Or.inl rfl) (hG PySem.F.plainAttrs_list PySem.F.slot_list_pop PySem.F.type_list_pop hU (pv 4)))
      (ah (aL (i:=7) iJ.nd rfl (Or.inl rfl) (hG PySem.F.plainAttrs_list PySem.F.slot_list_pop PySem.F.type_list_pop hU (pv 4)))
      (al (bZ (eQ PySem.F.plainAttrs_list PySem.F.slot_list_append PySem.F.type_list_append bg (pv 4) (aa (wX (k:=kc) (n:=3) (i:=3) (hr.mono (by omega)) rfl (Or.inl rfl) (aa (pv 5) (aa (pv 7) (aa (pv 6) af)))) af)))))))))
      (al (aD (ar (aj K rfl) (pv 4) ag (fun _ _=>rfl)))))),fI.run ((au (aO (gR ai) ao)
      (au (j8 (dk (aq (ac ae (ac ae ai)))) ao (cQ (aQ (ap bj (ap aM ae ak) ae)) (cX (bI ae (ac (zR C_of_leaf (ac ae ai)) ai))) (au (aO (lW ae) ao)
      (au (aO (lW ae) ao)
      (cX (bI ae (ac (zR C_of_fork (ac ae (ac ae (ac ae ai)))) ai)))))))
      (aT (ap aM ae ak))))) F H ω _ _ _ { nx:=fun _ ω'=>Q' (.d .non) (ω'.only ω),rt:=fun a ω'=>∃ d,a = .d d/\Q' (.d d) (ω'.only ω) } rp (RS.start rvs) ?_ ⟨?_,?_,fun _ _ _ _ _ _ _ z=>z.elim,fun _ _ _ _ _ _ _ z=>z.elim⟩⟩
  · walk_at "s1"
    intro l hl
    walk_at "s1"
    refine ⟨u,lw,rfl,hok,hsz,?_⟩
    walk_at "a1"
    refine pW (fun i ρ ω'=>∃ (st : List Tr) (v5 v6 v7 : Option AV),ρ = [some (.d u.d),some (.d (.str lw)),some (zj f1 c1 a1),some (zj f2 c2 a2),some (.r (.ref l)),v5,v6,v7]/\ω' = ω.put l (.own ((st.map g).map AV.d))/\Tr.chk u (u.post.drop i) st/\st.length<=i) ⟨[],_,_,_,rfl,rfl,by simpa using Tr.Gw u,Nat.le_refl _⟩ ?_ ?_
    · rintro i d ρ ω' N hd ⟨st,v5,v6,v7,rfl,rfl,hc,hsl⟩ kN
      obtain ⟨e,he,rfl⟩:=L2.eV hd
      have hil : i < 100000:=by
        have:=(List.getElem?_eq_some_iff.mp he).1
        rw [Tr.nM] at this
        omega
      obtain ⟨hil2,ev⟩:=List.getElem?_eq_some_iff.mp he
      rw [List.drop_eq_getElem_cons hil2,ev] at hc
      have hme:=List.mem_of_getElem? he
      obtain ⟨ds,z,ed,ez,hz⟩:=u9 (hok.post e hme)
      have hs1 : st.length < sizeLine:=kn (by omega)
      refine FG rfl (by rw [ed];rfl) ez rfl ?_
      cases e with
      | lf x =>
        rw [if_pos (hz.mpr rfl)]
        simp only [Tr.chk] at hc
        exact Jg rfl Om.put_same (by simpa using hs1) rfl rfl (k1 x hme _) (kN _ _ ⟨st ++ [.lf x],_,_,_,rfl,by rw [Om.put_put];simp,hc,by simp;omega⟩)
      | nd x a b =>
        have hz' : ¬ z = lw:=fun h=>by have:=hz.mp h;simp [lfB] at this
        simp only [Tr.chk] at hc
        obtain ⟨st',rfl,hc⟩:=hc
        rw [if_neg hz']
        have e3 : List.map AV.d (List.map g (st' ++ [a,b])) = (List.map AV.d (List.map g st') ++ [AV.d (g a)]) ++ [AV.d (g b)]:=by simp
        rw [e3]
        rw [List.length_append] at hsl hs1
        refine xJ rfl Om.put_same ?_
        rw [Om.put_put]
        refine xJ rfl Om.put_same ?_
        rw [Om.put_put]
        refine Ge rfl Om.put_same (kn (by simp;omega)) rfl rfl rfl rfl (k2 x a b hme _) ?_
        rw [Om.put_put]
        exact kN _ _ ⟨st' ++ [.nd x a b],_,_,_,rfl,by simp,hc,by simp at hsl ⊢;omega⟩
    · rintro ρ ω' ⟨st,v5,v6,v7,rfl,rfl,hc,hsl⟩
      rw [List.length_map,List.drop_length] at hc
      simp only [Tr.chk] at hc
      subst hc
      walk_at "a1"
      rw [jv ((Ex.refl ω).new hl)]
      exact q
  · exact fun ρ' ω' σ' H' e1 e2 e3 q=>kq (.d .non) (ω'.only ω) .non H' e1.only.1 e2.only (by simp [RV,Dat]) q
  · rintro a ω' v H' e1 e2 e3 ⟨d,rfl,q⟩
    exact kq (.d d) (ω'.only ω) v H' e1.only.1 e2.only (e3.same e1.only.2) q
end
section
variable {P : Program} {w : World} {K : PySem.W.Frag} {mg : Str->Option Value} {base : Heap} {t : Adr}
def cP : Sy->Tr
  | .is i b=>.lf [.str "is",.int i,.int b]
  | .jn a l r=>.nd [.str (if a then "and" else "or")] (cP l) (cP r)
theorem o8 : ∀ x : Sy,(cP x).d = x.d
  | .is i b=>rfl
  | .jn a l r=>by simp [cP,Tr.d,Sy.d,o8 l,o8 r]
theorem lx : ∀ x : Sy,(cP x).ok "is"
  | .is i b=>⟨rfl,by simp [noLs,noL]⟩
  | .jn a l r=>⟨⟨_,rfl,by cases a<;>decide +kernel⟩,by simp [noLs,noL],lx l,lx r⟩
theorem oE : ∀ x : Sy,(cP x).size + 1<=2 ^ (x.dp + 1)
  | .is i b=>by simp [cP,Tr.size,Sy.dp]
  | .jn a l r=>by
    have h1:=oE l
    have h2:=oE r
    simp only [cP,Tr.size,Sy.dp]
    have m1 : 2 ^ (l.dp + 1)<=2 ^ (max l.dp r.dp + 1):=Nat.pow_le_pow_right (by decide) (by omega)
    have m2 : 2 ^ (r.dp + 1)<=2 ^ (max l.dp r.dp + 1):=Nat.pow_le_pow_right (by decide) (by omega)
    have e : 2 ^ (1 + max l.dp r.dp + 1) = 2 ^ (max l.dp r.dp + 1) + 2 ^ (max l.dp r.dp + 1):=by rw [Nat.add_comm 1,Nat.pow_succ _ (max l.dp r.dp + 1)];omega
    omega
theorem je {x : Sy} (h : x.dp<=15) : (cP x).size<=100000:=by
  have h1:=oE x
  have h2 : 2 ^ (x.dp + 1)<=2 ^ 16:=Nat.pow_le_pow_right (by decide) (by omega)
  have h3 : 2 ^ 16 = 65536:=by decide
  omega
def o6 : Tr->Sy
  | .lf [_,.int i,.int b]=>.is i b
  | .lf _=>.is 0 0
  | .nd x l r=>.jn (match x with | [.str z]=>z == "and" | _=>false) (o6 l) (o6 r)
theorem lX : ∀ x : Sy,o6 (cP x) = x
  | .is i b=>rfl
  | .jn a l r=>by
    simp only [cP,o6,lX l,lX r]
    cases a<;>simp<;>decide +kernel
theorem qH {n : Nat} : ∀ {x : Sy} {e : Tr},x.ok n->e∈(cP x).post->∃ y : Sy,e = cP y/\y.ok n
  | .is i b,e,h,he=>by simp [cP,Tr.post] at he;exact ⟨.is i b,he,h⟩
  | .jn a l r,e,h,he=>by
    simp only [cP,Tr.post,List.mem_append,List.mem_singleton] at he
    rcases he with (he | he) | he
    · exact qH h.1 he
    · exact qH h.2 he
    · exact ⟨.jn a l r,he,h⟩
theorem Hc {n : Nat} {x : Sy} {q : List D} (h : x.ok n) (he : Tr.lf q∈(cP x).post) : ∃ i b,q = [.str "is",.int i,.int b]/\(Sy.is i b).ok n:=by
  obtain ⟨y,e,hy⟩:=qH h he
  cases y with
  | is i b=>simp only [cP,Tr.lf.injEq] at e;exact ⟨i,b,e,hy⟩
  | jn a l r=>cases e
theorem GL {n : Nat} {x : Sy} {q : List D} {l r : Tr} (h : x.ok n) (he : Tr.nd q l r∈(cP x).post) : ∃ (a : Bool) (l' r' : Sy),q = [.str (if a then "and" else "or")]/\l = cP l'/\r = cP r':=by
  obtain ⟨y,e,hy⟩:=qH h he
  cases y with
  | is i b=>cases e
  | jn a l' r'=>simp only [cP,Tr.nd.injEq] at e;exact ⟨a,l',r',e⟩
end
section
def eI : Ta->Tr
  | .en i=>.lf [.str "end",.int i]
  | .nd h ws a b=>.nd [.str (if h then "yes" else "no"),.tup (ws.map wdD)] (eI a) (eI b)
theorem mL : ∀ u : Ta,(eI u).d = u.d
  | .en i=>rfl
  | .nd h ws a b=>by simp [eI,Tr.d,Ta.d,mL a,mL b]
theorem lL : ∀ u : Ta,(eI u).ok "end"
  | .en i=>⟨rfl,by simp [noLs,noL]⟩
  | .nd h ws a b=>⟨⟨_,rfl,by cases h<;>decide +kernel⟩,by simp [noLs,noL,Fe],lL a,lL b⟩
theorem kH : ∀ u : Ta,(eI u).size = u.size/\(eI u).dp = u.dp/\(eI u).lvs = u.lvs
  | .en i=>⟨rfl,rfl,rfl⟩
  | .nd h ws a b=>by
    obtain ⟨a1,a2,a3⟩:=kH a
    obtain ⟨b1,b2,b3⟩:=kH b
    simp only [eI,Tr.size,Tr.dp,Tr.lvs,Ta.size,Ta.dp,Ta.lvs,a1,a2,a3,b1,b2,b3,and_self]
end
section
variable {P : Program} {w : World} {K : PySem.W.Frag} {mg : Str->Option Value} {base : Heap} {t : Adr}
def oC : ASp:=fun xs ω Q=>∃ (u : Tr) (lw : Str),xs = [.d u.d,.d (.str lw)]/\u.ok lw/\u.size<=100000/\Q (.d (.int u.dp)) ω
def qd (_ : List AV) : ASp:=fun xs ω Q=>∃ x,xs = [x]/\Q (.d (.int 0)) ω
def qa (_ : List AV) : ASp:=fun xs ω Q=>∃ (x : AV) (a b : Nat),xs = [x,.d (.int a),.d (.int b)]/\Q (.d (.int (1 + max a b : Nat))) ω
theorem tU (T : Txt K mg t) : aJ P w K mg base CX0 6 t.bJ t.eA ["tree","leaf"] (aN oC):=by
  have G_folded : ∀ b',aJ P w K mg b' CX0 4 t.cL t.gi ["tree","leaf","of_leaf","of_fork"] (la 1 P w K mg b'):=fun b'=>qE 1 T
  refine T.eL.okD uT (fun xs ω Q h=>by obtain ⟨u,lw,rfl,_⟩:=h;rfl) (fun A outer s H E hr=>?_)
  refine ⟨_,_,(al (aD (nL G_folded (hr.mono (by omega)) (by rfl) T.nk T.nZ T.nR (aa (pv 0) (aa (pv 1) (aa (ky (x:="tree_deep") rfl rfl T.eL.tab T.eL.hd rfl) (aa (ky (x:="tree_deep") rfl rfl T.eL.tab T.eL.hd rfl) af))))))),(aT (vV (j1:=[]) (j2:=[]) (s1:=qd) (s2:=qa) ?F0 ?F1 ae ae)),fun xs ω Q h=>?main⟩
  case F0 =>
    intro b' H f σ caps cA L cb hc hl
    obtain rfl : caps = []:=List.length_eq_zero_iff.mp (hc.1)
    refine gx (ps:=["part"]) (cs:=[]) L ⟨rfl,rfl,rfl,by decide +kernel,by decide +kernel,by decide +kernel,by decide +kernel⟩ (Jc b') (fun pm c ctv us hl=>match us,hl with | [_],_=>rfl) (fun xs ω Q h=>by obtain ⟨x,rfl,_⟩:=h;rfl) (fun cd A outer s H hr=>⟨_,_,ag,ak,fun xs ω Q h=>?_⟩)
    obtain ⟨x,rfl,q⟩:=h
    walk_at "ab"
    exact q
  case F1 =>
    intro b' H f σ caps cA L cb hc hl
    obtain rfl : caps = []:=List.length_eq_zero_iff.mp (hc.1)
    refine gx (ps:=["part","first","second"]) (cs:=[]) L ⟨rfl,rfl,rfl,by decide +kernel,by decide +kernel,by decide +kernel,by decide +kernel⟩ (Jc b') (fun pm c ctv us hl=>match us,hl with | [_,_,_],_=>rfl) (fun xs ω Q h=>by obtain ⟨x,a,b,rfl,_⟩:=h;rfl) (fun cd A outer s H hr=>⟨_,_,(bb (aW cH (aW bU cI)) ag (bA (oN rfl) (by rfl) T.CH (by kernel_rfl) (aa (pv 1) (aa (pv 2) af)))),(ap eD ak (eJ DP (ac ae (ac ae ai)))),fun xs ω Q h=>?_⟩)
    obtain ⟨x,a,b,rfl,q⟩:=h
    walk_at "ab"
    have em : (1 : Int) + (if (b : Int) > (a : Int) then (b : Int) else (a : Int)) = (1 + max a b : Nat):=by
      split<;>omega
    rw [em]
    exact q
  case main =>
    obtain ⟨u,lw,rfl,ho,hs,k⟩:=h
    walk_at "ab"
    refine ⟨u,rfl,ho,hs,fun e=>.int e.dp,[],rfl,[],rfl,fun x _ ω1 Q1 q=>⟨_,rfl,q⟩,fun x l r _ ω1 Q1 q=>⟨_,l.dp,r.dp,rfl,q⟩,?_⟩
    rw [av]
    exact k
def kr : ASp:=fun xs ω Q=>∃ (u : Tr) (lw : Str),xs = [.d u.d,.d (.str lw)]/\u.ok lw/\u.size<=100000/\Q (.d (.int u.lvs)) ω
theorem q8 : ∀ u : Tr,(u.post.filter lfB).length = u.lvs
  | .lf x=>rfl
  | .nd x l r=>by simp [Tr.post,Tr.lvs,lfB,q8 l,q8 r,List.filter_cons]
theorem pS (T : Txt K mg t) : aJ P w K mg base CX0 2 t.bt t.dF ["tree","leaf"] (aN kr):=by
  have G_upward : aJ P w K mg base CX0 1 t.cY t.iK ["tree","leaf"] (aN jD):=mS T
  refine T.sT.okD sf (fun xs ω Q h=>by obtain ⟨u,lw,rfl,_⟩:=h;rfl) (fun cdv A outer s H E hr=>⟨_,_,(al (aD (bA (cm K rfl) (by rfl) T.jI (by kernel_rfl) (aa (dC (N:=(["part","leaf"] : List Str)) (src:=[none,some 1]) rfl (by show dn _ (defScope cy) _ _ (["tree","leaf"] : List Str) = true;decide +kernel) (by intro g' h;cases h) (bY K rfl (am G_upward (hr.mono (by omega)) (by rfl) T.rM T.su T.qQ .nil aB (aa (pv 0) (aa (pv 1) af)))) (fun _ _ _ _ _ _=>(aG (i:=0) (show (["part","leaf"] : List Str).Nodup by decide +kernel) rfl (Or.inl rfl))) (fun _ _ _ _ _ _=>(fC (aE (bd hr.u100) (ar (aj K rfl) (pv 0) ag (fun _ _=>rfl)) (pv 1) (aK _)))) (fun _ _ _ _ _ _=>(bX rfl rfl (pv 0)))) af)))),(aT (eJ mU (ac (cW (dk (aq (ac ae (ac ae ai)))) ao (aQ (ap bj (ap aM ae ak) ae)) (cT ae)) ai))),fun xs ω Q h=>?_⟩)
  obtain ⟨u,lw,rfl,ho,hs,k⟩:=h
  walk_at "ab"
  refine ⟨u,lw,rfl,ho,hs,?_⟩
  walk_at "ab"
  have hpl:=Tr.nM u
  refine sw (fun i xs ρ ω'=>ω' = ω/\(∃ v0,ρ = [v0,some (.d (.str lw))])/\xs = (((u.post.take i).filter lfB).map Tr.d).map AV.d) ⟨rfl,⟨_,rfl⟩,rfl⟩ ?_ ?_
  · rintro i d xs ρ ω' N hd ⟨rfl,⟨v0,rfl⟩,rfl⟩ kN
    obtain ⟨e,he,rfl⟩:=eV hd
    obtain ⟨hil,ev⟩:=List.getElem?_eq_some_iff.mp he
    obtain ⟨ds,z,ed,ez,hz⟩:=u9 (ho.post e (List.mem_of_getElem? he))
    have et : u.post.take (i + 1) = u.post.take i ++ [e]:=by rw [List.take_succ,he];rfl
    have hl : ((u.post.take i).filter lfB).length < sizeLine:=kn (by
      have:=List.length_filter_le lfB (u.post.take i)
      rw [List.length_take] at this
      omega)
    have n1:=fun h : lfB e = true=>kN (((u.post.take i).filter lfB).map Tr.d |>.map AV.d |> (· ++ [AV.d e.d])) [some (.d e.d),some (.d (.str lw))] ω' ⟨rfl,⟨_,rfl⟩,by rw [et,List.filter_append];simp [h]⟩
    have n2:=fun h : lfB e = false=>kN _ [some (.d e.d),some (.d (.str lw))] ω' ⟨rfl,⟨_,rfl⟩,show (((u.post.take i).filter lfB).map Tr.d).map AV.d = _ by rw [et,List.filter_append];simp [h]⟩
    rw [ed] at n1 n2 ⊢
    walk_at "ab"
    rw [ez]
    walk_at "ab"
    refine gr (fun h=>⟨hl,n1 (hz.mp h)⟩) (fun h=>n2 ?_)
    cases z2 : lfB e with
    | false=>rfl
    | true=>exact absurd (hz.mpr z2) h
  · rintro xs ρ ω' ⟨rfl,_,rfl⟩
    rw [List.length_map,List.take_length]
    refine ⟨_,bn _,?_⟩
    rw [av,List.length_map,q8]
    exact k
theorem uN : ∀ x : Sy,(cP x).dp = x.dp/\(cP x).lvs = x.lvs
  | .is _ _=>⟨rfl,rfl⟩
  | .jn _ l r=>by
    obtain ⟨a,b⟩:=uN l
    obtain ⟨c,d⟩:=uN r
    exact ⟨by simp only [cP,Tr.dp,Sy.dp,a,c],by simp only [cP,Tr.lvs,Sy.lvs,b,d]⟩
def jc : ASp:=fun xs ω Q=>∃ (u : Ta),xs = [.d u.d]/\u.size<=100000/\Q (.d (.int u.dp)) ω
theorem nI (T : Txt K mg t) : aJ P w K mg base CX0 7 t.bT t.fK ["talk"] (aN jc):=by
  have G_tree_deep : aJ P w K mg base CX0 6 t.bJ t.eA ["tree","leaf"] (aN oC):=tU T
  refine T.xS.okD wy (fun xs ω Q h=>by obtain ⟨u,rfl,_⟩:=h;rfl) (fun cdv A outer s H E hr=>⟨_,_,(al (aD (am G_tree_deep (hr.mono (by omega)) (by rfl) T.pM T.pU T.gK .nil aB (aa (pv 0) (aA aP af))))),(aT (aq (ac ae (ac bc ai)))),fun xs ω Q h=>?_⟩)
  obtain ⟨u,rfl,hs,k⟩:=h
  walk_at "a1"
  exact ⟨eI u,"end",by rw [mL],lL u,by rw [(kH u).1];exact hs,_,rfl,by rw [av,(kH u).2.1];exact k⟩
def gl : ASp:=fun xs ω Q=>∃ (u : Ta),xs = [.d u.d]/\u.size<=100000/\Q (.d (.int u.lvs)) ω
theorem j7 (T : Txt K mg t) : aJ P w K mg base CX0 3 t.bu t.dR ["talk"] (aN gl):=by
  have G_tree_leaves : aJ P w K mg base CX0 2 t.bt t.dF ["tree","leaf"] (aN kr):=pS T
  refine T.tF.okD sF (fun xs ω Q h=>by obtain ⟨u,rfl,_⟩:=h;rfl) (fun cdv A outer s H E hr=>⟨_,_,(al (aD (am G_tree_leaves (hr.mono (by omega)) (by rfl) T.l4 T.md T.l7 .nil aB (aa (pv 0) (aA aP af))))),(aT (aq (ac ae (ac bc ai)))),fun xs ω Q h=>?_⟩)
  obtain ⟨u,rfl,hs,k⟩:=h
  walk_at "a1"
  exact ⟨eI u,"end",by rw [mL],lL u,by rw [(kH u).1];exact hs,_,rfl,by rw [av,(kH u).2.2];exact k⟩
def Av : ASp:=fun xs ω Q=>∃ (u : Sy),xs = [.d u.d]/\u.dp<=15/\Q (.d (.int u.dp)) ω
theorem FO (T : Txt K mg t) : aJ P w K mg base CX0 7 t.gL t.vd ["saying"] (aN Av):=by
  have G_tree_deep : aJ P w K mg base CX0 6 t.bJ t.eA ["tree","leaf"] (aN oC):=tU T
  refine T.I9.okD Fp (fun xs ω Q h=>by obtain ⟨u,rfl,_⟩:=h;rfl) (fun cdv A outer s H E hr=>⟨_,_,(al (aD (am G_tree_deep (hr.mono (by omega)) (by rfl) T.pM T.pU T.gK .nil aB (aa (pv 0) (aA aP af))))),(aT (aq (ac ae (ac bc ai)))),fun xs ω Q h=>?_⟩)
  obtain ⟨u,rfl,hs,k⟩:=h
  walk_at "a1"
  exact ⟨cP u,"is",by rw [o8],lx u,je hs,_,rfl,by rw [av,(uN u).1];exact k⟩
def t7 : ASp:=fun xs ω Q=>∃ (u : Sy),xs = [.d u.d]/\u.dp<=15/\Q (.d (.int u.lvs)) ω
theorem Cg (T : Txt K mg t) : aJ P w K mg base CX0 3 t.dO t.ny ["saying"] (aN t7):=by
  have G_tree_leaves : aJ P w K mg base CX0 2 t.bt t.dF ["tree","leaf"] (aN kr):=pS T
  refine T.DZ.okD BQ (fun xs ω Q h=>by obtain ⟨u,rfl,_⟩:=h;rfl) (fun cdv A outer s H E hr=>⟨_,_,(al (aD (am G_tree_leaves (hr.mono (by omega)) (by rfl) T.l4 T.md T.l7 .nil aB (aa (pv 0) (aA aP af))))),(aT (aq (ac ae (ac bc ai)))),fun xs ω Q h=>?_⟩)
  obtain ⟨u,rfl,hs,k⟩:=h
  walk_at "a1"
  exact ⟨cP u,"is",by rw [o8],lx u,je hs,_,rfl,by rw [av,(uN u).2];exact k⟩
end
section
variable {P : Program} {w : World} {K : PySem.W.Frag} {mg : Str->Option Value} {base : Heap} {t : Adr}
structure rd (n : Nat) (x : Sy) (ys zs : List (List Int)) : Prop where
  y : Wds n ys
  z : Wds n zs
  vy : ∀ v∈ys,x.val v = true
  vz : ∀ v∈zs,x.val v = false
  y1 : ys≠[]
  z1 : zs≠[]
def bE (ys zs : List (List Int)) : Sy->Ta
  | .is i _=>.en i
  | .jn an l r=>if an then .nd false (zs.filter fun v=>l.val v) (bE ys zs l) (bE ys zs r) else .nd true (ys.filter fun v=>!l.val v) (bE ys zs l) (bE ys zs r)
theorem oY {n : Nat} {ys zs : List (List Int)} (hy : Wds n ys) (hz : Wds n zs) : ∀ {x : Sy},x.ok n->(bE ys zs x).ok n/\(bE ys zs x).dp = x.dp/\(bE ys zs x).size + 1 = 2 * x.lvs
  | .is i b,h=>⟨⟨h.1,h.2.1⟩,rfl,rfl⟩
  | .jn an l r,h=>by
    obtain ⟨a1,a2,a3⟩:=oY hy hz h.1
    obtain ⟨b1,b2,b3⟩:=oY hy hz h.2
    cases an<;>simp only [bE,if_true,if_false,Bool.false_eq_true,Ta.ok,Ta.dp,Ta.size,Sy.dp,Sy.lvs,a2,b2,and_true,true_and]
    · exact ⟨⟨⟨List.filter_sublist.nodup hy.1,fun w hw=>hy.2 w (List.mem_filter.mp hw).1⟩,a1,b1⟩,by omega⟩
    · exact ⟨⟨⟨List.filter_sublist.nodup hz.1,fun w hw=>hz.2 w (List.mem_filter.mp hw).1⟩,a1,b1⟩,by omega⟩
theorem gm {n : Nat} {ys zs : List (List Int)} {y z : List Int} (hy : y∈ys) (hz : z∈zs) (hz1 : z∈wl n) : ∀ {x : Sy},x.ok n->x.val y = true->x.val z = false ->
    (y.getD (Ta.fin y z (bE ys zs x)).toNat 0≠z.getD (Ta.fin y z (bE ys zs x)).toNat 0)/\(x.up->y.getD (Ta.fin y z (bE ys zs x)).toNat 0 = 1/\z.getD (Ta.fin y z (bE ys zs x)).toNat 0 = 0)
  | .is i b,h,v1,v2=>by
    simp only [Sy.val,decide_eq_true_eq,decide_eq_false_iff_not] at v1 v2
    simp only [bE,Ta.fin]
    refine ⟨fun e=>v2 (e.symm.trans v1),fun hu=>?_⟩
    simp only [Sy.up] at hu
    subst hu
    exact ⟨v1,(sH hz1 i.toNat).resolve_right v2⟩
  | .jn an l r,h,v1,v2=>by
    cases an with
    | false =>
      simp only [Sy.val,if_false,Bool.false_eq_true,Bool.or_eq_true,Bool.or_eq_false_iff] at v1 v2
      simp only [bE,if_false,Bool.false_eq_true,Ta.fin,Ta.bit,if_true,List.mem_filter,hy,true_and]
      cases hl : l.val y with
      | true =>
        obtain ⟨e1,e2⟩:=gm hy hz hz1 h.1 hl v2.1
        simpa using ⟨e1,fun hu=>e2 hu.1⟩
      | false =>
        have hr : r.val y = true:=v1.resolve_left (by rw [hl];simp)
        obtain ⟨e1,e2⟩:=gm hy hz hz1 h.2 hr v2.2
        simpa using ⟨e1,fun hu=>e2 hu.2⟩
    | true =>
      simp only [Sy.val,if_true,Bool.and_eq_true,Bool.and_eq_false_iff] at v1 v2
      simp only [bE,if_true,Ta.fin,Ta.bit,if_false,Bool.false_eq_true,List.mem_filter,hz,true_and]
      cases hl : l.val z with
      | false =>
        obtain ⟨e1,e2⟩:=gm hy hz hz1 h.1 v1.1 hl
        simpa using ⟨e1,fun hu=>e2 hu.1⟩
      | true =>
        have hr : r.val z = false:=v2.resolve_left (by rw [hl];simp)
        obtain ⟨e1,e2⟩:=gm hy hz hz1 h.2 v1.2 hr
        simpa using ⟨e1,fun hu=>e2 hu.2⟩
end
section
variable {P : Program} {w : World} {K : PySem.W.Frag} {mg : Str->Option Value} {base : Heap} {t : Adr}
def yK : ASp:=fun xs ω Q=>∃ (x : Sy) (wd : List Int),xs = [.d x.d,.d (wdD wd)]/\x.ok wd.length/\x.dp<=15/\Q (.d (.int (b01 (x.val wd)))) ω
def xy (cA : List AV) : ASp:=fun xs ω Q=>∃ (i b : Int) (wd : List Int),cA = [.d (wdD wd)]/\xs = [.d (Sy.is i b).d]/\(Sy.is i b).ok wd.length/\Q (.d (.int (b01 ((Sy.is i b).val wd)))) ω
def pR (_ : List AV) : ASp:=fun xs ω Q=>∃ (a : Bool) (l r : D) (x y : Bool),xs = [.d (.tup [.str (if a then "and" else "or"),l,r]),.d (.int (b01 x)),.d (.int (b01 y))]/\Q (.d (.int (b01 (if a then x && y else x || y)))) ω
theorem CU (T : Txt K mg t) : aJ P w K mg base CX0 6 t.dX t.kY ["saying","word"] (aN yK):=by
  have G_folded : ∀ b',aJ P w K mg b' CX0 4 t.cL t.gi ["tree","leaf","of_leaf","of_fork"] (la 1 P w K mg b'):=fun b'=>qE 1 T
  refine T.kh.okD CV (fun xs ω Q h=>by obtain ⟨x,wd,rfl,_⟩:=h;rfl) (fun A outer s H E hr=>?_)
  refine ⟨_,_,(al (aD (nL G_folded (hr.mono (by omega)) (by rfl) T.nk T.nZ T.nR (aa (pv 0) (aA aP (aa (ky (x:="value") rfl rfl T.kh.tab T.kh.hd rfl) (aa (ky (x:="value") rfl rfl T.kh.tab T.kh.hd rfl) af))))))),(aT (vV (j1:=[1]) (j2:=[]) (s1:=xy) (s2:=pR) ?F0 ?F1 ae bc)),fun xs ω Q h=>?main⟩
  case F0 =>
    intro b' H f σ caps cA L cb hc hl
    obtain ⟨v,rfl⟩ : ∃ v,caps = [v]:=List.length_eq_one_iff.mp hc.1
    obtain ⟨wc,wu,hwc,hcell,hrel⟩:=cb 1 "word" v rfl (hc.2 0 1 v rfl rfl) rfl rfl
    obtain rfl : s.heap.objs.size + 1 = wc:=Option.some.inj hwc
    refine gx (ps:=["leaf"]) (cs:=["word"]) L ⟨rfl,rfl,rfl,by decide +kernel,by decide +kernel,by decide +kernel,by decide +kernel⟩ (vQ hcell hrel) (fun pm c ctv us hl=>match us,hl with | [_],_=>rfl) (fun xs ω Q h=>by obtain ⟨i,b,m,_,rfl,_⟩:=h;rfl) (fun cd A outer s H hr=>⟨_,_,(im (aE (bd hr.u100) (ar (aj K rfl) (pv 1) (ar (aj K rfl) (pv 0) ag (fun _ _=>rfl)) (fun _ _=>rfl)) (ar (aj K rfl) (pv 0) ag (fun _ _=>rfl)) (aK _)) ag ag),(B8 (aQ (ap bj (ap aM ae (ap aM ae ak)) (ap aM ae ak))) ak ak),fun xs ω Q h=>?_⟩)
    obtain ⟨i,b,wd,rfl,rfl,⟨i0,i1,hb⟩,q⟩:=h
    simp only [Sy.d]
    walk_at "ab"
    obtain ⟨y,my,hy,ey⟩:=vW (f:=AV.d ∘ D.int) (xs:=wd) i0 i1
    rw [← List.map_map] at ey
    refine ⟨_,ey,_,rfl,by simp [dep],?_⟩
    have ev : wd.getD i.toNat 0 = y:=by rw [List.getD_eq_getElem?_getD,hy];rfl
    simp only [Sy.val,ev] at q
    by_cases h : y = b
    · simpa [h,b01,eU] using q
    · simpa [h,b01,eU] using q
  case F1 =>
    intro b' H f σ caps cA L cb hc hl
    obtain rfl : caps = []:=List.length_eq_zero_iff.mp (hc.1)
    refine gx (ps:=["part","one","other"]) (cs:=[]) L ⟨rfl,rfl,rfl,by decide +kernel,by decide +kernel,by decide +kernel,by decide +kernel⟩ (Jc b') (fun pm c ctv us hl=>match us,hl with | [_,_,_],_=>rfl) (fun xs ω Q h=>by obtain ⟨a,l,r,x,y,rfl,_⟩:=h;rfl) (fun cd A outer s H hr=>⟨_,_,(im (aE (bd hr.u100) (ar (aj K rfl) (pv 0) ag (fun _ _=>rfl)) aP (aK _)) (bA (uG rfl) (by rfl) T.Ht (by kernel_rfl) (aa (pv 1) (aa (pv 2) af))) (bA (oN rfl) (by rfl) T.CH (by kernel_rfl) (aa (pv 1) (aa (pv 2) af)))),(B8 (aQ (ap bj (ap aM ae ak) bc)) (eJ DP (ac ae (ac ae ai))) (eJ DP (ac ae (ac ae ai)))),fun xs ω Q h=>?_⟩)
    obtain ⟨a,l,r,x,y,rfl,q⟩:=h
    cases a
    · simp only [if_false,Bool.false_eq_true] at q ⊢
      walk_at "ab"
      rw [show (if b01 y > b01 x then b01 y else b01 x) = b01 (x || y) from by cases x<;>cases y<;>rfl]
      exact q
    · simp only [if_true] at q ⊢
      walk_at "ab"
      rw [show (if b01 y < b01 x then b01 y else b01 x) = b01 (x && y) from by cases x<;>cases y<;>rfl]
      exact q
  case main =>
    obtain ⟨x,wd,rfl,hx,hd,k⟩:=h
    walk_at "ab"
    refine ⟨cP x,(o8 x).symm,lx x,je hd,fun e=>.int (b01 ((o6 e).val wd)),_,rfl,[],rfl,fun q he ω1 Q1 h=>?_,fun q l r he ω1 Q1 h=>?_,?_⟩
    · obtain ⟨i,b,rfl,ho⟩:=Hc hx he
      exact ⟨i,b,wd,rfl,rfl,ho,h⟩
    · obtain ⟨a,l',r',rfl,rfl,rfl⟩:=GL hx he
      have h : Q1 (.d (.int (b01 ((o6 (cP (.jn a l' r'))).val wd)))) ω1:=h
      rw [lX] at h
      show pR [] [_,.d (.int (b01 ((o6 (cP l')).val wd))),.d (.int (b01 ((o6 (cP r')).val wd)))] ω1 Q1
      rw [lX,lX]
      exact ⟨a,(cP l').d,(cP r').d,_,_,rfl,h⟩
    · rw [av]
      show Q (.d (.int (b01 ((o6 (cP x)).val wd)))) ω
      rw [lX]
      exact k
end
section
variable {P : Program} {w : World} {K : PySem.W.Frag} {mg : Str->Option Value} {base : Heap} {t : Adr}
def ut : ASp:=fun xs ω Q=>∃ (n : Nat) (ys zs : List (List Int)) (x : Sy),xs = [.d (csD n ys zs),.d x.d]/\rd n x ys zs/\x.ok n/\x.dp<=15/\Q (.d .non) ω
theorem BT (T : Txt K mg t) : aJ P w K mg base CX0 7 t.dS t.nB ["case","saying"] (aN ut):=by
  have G_value : aJ P w K mg base CX0 6 t.dX t.kY ["saying","word"] (aN yK):=CU T
  refine T.Fd.okD pH (fun xs ω Q h=>by obtain ⟨n,ys,zs,x,rfl,_⟩:=h;rfl) (fun cdv A outer s H E hr=>⟨_,_,(ah (gp PassesOwn.never rfl (bY K rfl (ar (aj K rfl) (pv 0) ag (fun _ _=>rfl))) (aG (i:=2) pH.nd rfl (Or.inl rfl)) (al (bz (aE (bd hr.u100) (am G_value (hr.mono (by omega)) (by rfl) T.qq T.qD T.lD .nil aB (aa (pv 1) (aa (pv 2) af))) ag (aK _)) (al (aD (aR (aA aP (aa (pv 2) af))))) aY)))
      (ah (gp PassesOwn.never rfl (bY K rfl (ar (aj K rfl) (pv 0) ag (fun _ _=>rfl))) (aG (i:=2) pH.nd rfl (Or.inl rfl)) (al (bz (aE (bd hr.u100) (am G_value (hr.mono (by omega)) (by rfl) T.qq T.qD T.lD .nil aB (aa (pv 1) (aa (pv 2) af))) ag (aK _)) (al (aD (aR (aA aP (aa (pv 2) af))))) aY)))
      (al (aD o9)))),(au (j8 (dk (ap aM ae ak)) ao (cQ (aQ (ap bj (aq (ac ae (ac ae ai))) ak)) (aT (a9 (ac bc (ac ae ai)))) bf))
      (au (j8 (dk (ap aM ae ak)) ao (cQ (aQ (ap bj (aq (ac ae (ac ae ai))) ak)) (aT (a9 (ac bc (ac ae ai)))) bf))
      (aT uc))),fun xs ω Q h=>?_⟩)
  obtain ⟨n,ys,zs,x,rfl,hp,hx,hd,k⟩:=h
  have okv : ∀ ws,Wds n ws->∀ v∈ws,x.ok v.length:=fun ws h v hv=>by rw [(eh (h.2 v hv)).1];exact hx
  simp only [csD]
  walk_at "s1"
  refine pW (fun i ρ ω'=>ω' = ω/\∃ v2,ρ = [some (.d (csD n ys zs)),some (.d x.d),v2]) ⟨rfl,_,rfl⟩ ?_ ?_
  · rintro i d ρ ω' N hd' ⟨rfl,v2,rfl⟩ kN
    obtain ⟨v,hv,rfl⟩:=L2.eV hd'
    have hvm:=List.mem_of_getElem? hv
    walk_at "a1"
    refine ⟨x,v,rfl,okv ys hp.y v hvm,hd,?_⟩
    rw [hp.vy v hvm]
    walk_at "a1"
    rw [if_neg (by decide)]
    exact kN _ _ ⟨rfl,_,rfl⟩
  rintro ρ ω' ⟨rfl,v2,rfl⟩
  simp only [csD]
  walk_at "s1"
  refine pW (fun i ρ ω2=>ω2 = ω'/\∃ v2,ρ = [some (.d (csD n ys zs)),some (.d x.d),v2]) ⟨rfl,_,rfl⟩ ?_ ?_
  · rintro i d ρ ω' N hd' ⟨rfl,v2,rfl⟩ kN
    obtain ⟨v,hv,rfl⟩:=L2.eV hd'
    have hvm:=List.mem_of_getElem? hv
    walk_at "a1"
    refine ⟨x,v,rfl,okv zs hp.z v hvm,hd,?_⟩
    rw [hp.vz v hvm]
    walk_at "a1"
    rw [if_neg (by decide)]
    exact kN _ _ ⟨rfl,_,rfl⟩
  rintro ρ ω' ⟨rfl,v2,rfl⟩
  walk_at "a1"
  rw [av]
  exact k
def qX : ASp:=fun xs ω Q=>∃ (n : Nat) (ys zs : List (List Int)) (x : Sy),xs = [.d (csD n ys zs),.d x.d]/\rd n x ys zs/\x.ok n/\x.dp<=15/\Q (.d (.bl true)) ω
theorem wC (T : Txt K mg t) : aJ P w K mg base CX0 8 t.eX t.nh ["case","saying"] (aN qX):=by
  have G_missed : aJ P w K mg base CX0 7 t.dS t.nB ["case","saying"] (aN ut):=BT T
  refine T.FA.okD EQ (fun xs ω Q h=>by obtain ⟨n,ys,zs,x,rfl,_⟩:=h;rfl) (fun cdv A outer s H E hr=>⟨_,_,(al (aD (cr DL (am G_missed (hr.mono (by omega)) (by rfl) T.Cz T.E2 T.EF .nil aB (aa (pv 0) (aa (pv 1) af))) o9 (aK _)))),(aT (ap CY (aq (ac ae (ac ae ai))) uc)),fun xs ω Q h=>?_⟩)
  obtain ⟨n,ys,zs,x,rfl,hp,hx,hd,k⟩:=h
  walk_at "a1"
  refine ⟨n,ys,zs,x,rfl,hp,hx,hd,?_⟩
  walk_at "a1"
  rw [av]
  exact k
def AF : ASp:=fun xs ω Q=>∃ (ws : List (List Int)) (f : List Int->Bool) (b : Bool),xs = [.d (.tup (ws.map wdD)),.d (.lst ((ws.map fun v=>b01 (f v)).map D.int)),.d (.int (b01 b))]/\ws.length<=32/\Q (.d (.tup ((ws.filter fun v=>f v == b).map wdD))) ω
theorem sx {f : List Int->Bool} {b : Bool} : ∀ {ws : List (List Int)},((ws.zip (ws.map fun v=>b01 (f v))).filter fun q=>decide (q.2 = b01 b)).map (fun q=>wdD q.1) = (ws.filter fun v=>f v == b).map wdD
  | []=>rfl
  | v :: ws=>by
    rw [List.map_cons,List.zip_cons_cons,List.filter_cons,List.filter_cons]
    have e : decide (b01 (f v) = b01 b) = (f v == b):=by cases f v<;>cases b<;>rfl
    simp only [e]
    split
    · rw [List.map_cons,List.map_cons,sx]
    · exact sx
theorem Gy (T : Txt K mg t) : aJ P w K mg base CX0 1 t.bN t.fZ ["words","values","bit"] (aN AF):=by
  refine T.wp.okD tu (fun xs ω Q h=>by obtain ⟨ws,f,b,rfl,_⟩:=h;rfl) (fun cdv A outer s H E hr=>⟨_,_,(al (aD (da (cN K rfl) (by rfl) T.li (by kernel_rfl) (aa (dC (N:=(["word","found","bit"] : List Str)) (src:=[none,none,some 2]) rfl (by show dn _ (defScope cU) _ _ (["words","values","bit"] : List Str) = true;decide +kernel) (by intro g' h;cases h) (wm K rfl (by rfl) T.EX (aa (pv 0) (aa (pv 1) af))) (fun _ _ _ _ _ _=>(d7 K rfl (n:=2) rfl (a8 (aG (i:=0) (show (["word","found","bit"] : List Str).Nodup by decide +kernel) rfl (Or.inl rfl)) (a8 (aG (i:=1) (show (["word","found","bit"] : List Str).Nodup by decide +kernel) rfl (Or.inl rfl)) dU)))) (fun _ _ _ _ _ _=>(fC (aE (bd hr.u100) (pv 1) (pv 2) (aK _)))) (fun _ _ _ _ _ _=>(bX rfl rfl (pv 0)))) af)))),(aT (eJ lq (ac (cW (D5 (ac ae (ac ae ai))) (jG (bG ao (bG ao jH))) (aQ (ap bj ae ae)) (cT ae)) ai))),fun xs ω Q h=>?_⟩)
  obtain ⟨ws,f,b,rfl,hl,k⟩:=h
  walk_at "a1"
  refine F4 wdD D.int (fun q=>decide (q.2 = b01 b)) (fun q=>wdD q.1) (Nat.le_of_lt (bi (by omega))) (fun q hq Q r=>?_) (fun q hq _ Q r=>?_) (fun ρ=>⟨_,bn _,?_⟩)
  · walk_at "a1"
    rw [show (q.2 == b01 b) = decide (q.2 = b01 b) from rfl]
    exact r
  · walk_at "a1"
    exact r
  rw [av,sx (ws:=ws)]
  exact k
def vls (x : Sy) (ws : List (List Int)) : D:=.lst ((ws.map fun v=>b01 (x.val v)).map D.int)
def wI : ASp:=fun xs ω Q=>∃ (ws : List (List Int)) (x y : Sy),xs = [.d (vls x ws),.d (vls y ws)]/\ws.length<=32/\Q (.d (vls (.jn false x y) ws)) ω
theorem DX (T : Txt K mg t) : aJ P w K mg base CX0 1 t.de t.kO ["ones","others"] (aN wI):=by
  refine T.Cw.okD zI (fun xs ω Q h=>by obtain ⟨ws,x,y,rfl,_⟩:=h;rfl) (fun cdv A outer s H E hr=>⟨_,_,(al (aD (dC (N:=(["one","other"] : List Str)) (src:=[none,none]) rfl (by show dn _ (defScope fk) _ _ (["ones","others"] : List Str) = true;decide +kernel) (by intro g' h;cases h) (wm K rfl (by rfl) T.EX (aa (pv 0) (aa (pv 1) af))) (fun _ _ _ _ _ _=>(d7 K rfl (n:=2) rfl (a8 (aG (i:=0) (show (["one","other"] : List Str).Nodup by decide +kernel) rfl (Or.inl rfl)) (a8 (aG (i:=1) (show (["one","other"] : List Str).Nodup by decide +kernel) rfl (Or.inl rfl)) dU)))) (fun _ _ _ _ _ _=>fy) (fun _ _ _ _ _ _=>(bX rfl rfl (bA (oN rfl) (by rfl) T.CH (by kernel_rfl) (aa (pv 0) (aa (pv 1) af)))))))),(aT (cW (D5 (ac ae (ac ae ai))) (jG (bG ao (bG ao jH))) tw (cT (eJ DP (ac ae (ac ae ai)))))),fun xs ω Q h=>?_⟩)
  obtain ⟨ws,x,y,rfl,hl,k⟩:=h
  unfold vls at k ⊢
  walk_at "a1"
  refine wN (rs:=(ws.map fun v=>b01 ((Sy.jn false x y).val v)).map D.int) (by simp) (by simp) (Nat.le_of_lt (bi (by simp;omega))) (fun i d e r h1 h2 h3 Q q=>?_) (fun ρ=>⟨_,bn _,?_⟩)
  · simp only [List.map_map,List.getElem?_map,Option.map_eq_some_iff] at h1 h2 h3
    obtain ⟨v,hv,rfl⟩:=h1
    obtain ⟨v',hv',rfl⟩:=h2
    obtain ⟨v'',hv'',rfl⟩:=h3
    rw [hv] at hv' hv''
    cases hv'
    cases hv''
    simp only [Function.comp_apply] at q ⊢
    walk_at "a1"
    rw [show (if b01 (y.val v) > b01 (x.val v) then b01 (y.val v) else b01 (x.val v)) = b01 ((Sy.jn false x y).val v) from by simp only [Sy.val];cases x.val v<;>cases y.val v<;>rfl]
    exact q
  rw [av]
  exact k
def xL : ASp:=fun xs ω Q=>∃ (ws : List (List Int)) (x y : Sy),xs = [.d (vls x ws),.d (vls y ws)]/\ws.length<=32/\Q (.d (vls (.jn true x y) ws)) ω
theorem ET (T : Txt K mg t) : aJ P w K mg base CX0 1 t.dc t.kP ["ones","others"] (aN xL):=by
  refine T.Cm.okD zN (fun xs ω Q h=>by obtain ⟨ws,x,y,rfl,_⟩:=h;rfl) (fun cdv A outer s H E hr=>⟨_,_,(al (aD (dC (N:=(["one","other"] : List Str)) (src:=[none,none]) rfl (by show dn _ (defScope e8) _ _ (["ones","others"] : List Str) = true;decide +kernel) (by intro g' h;cases h) (wm K rfl (by rfl) T.EX (aa (pv 0) (aa (pv 1) af))) (fun _ _ _ _ _ _=>(d7 K rfl (n:=2) rfl (a8 (aG (i:=0) (show (["one","other"] : List Str).Nodup by decide +kernel) rfl (Or.inl rfl)) (a8 (aG (i:=1) (show (["one","other"] : List Str).Nodup by decide +kernel) rfl (Or.inl rfl)) dU)))) (fun _ _ _ _ _ _=>fy) (fun _ _ _ _ _ _=>(bX rfl rfl (bA (uG rfl) (by rfl) T.Ht (by kernel_rfl) (aa (pv 0) (aa (pv 1) af)))))))),(aT (cW (D5 (ac ae (ac ae ai))) (jG (bG ao (bG ao jH))) tw (cT (eJ DP (ac ae (ac ae ai)))))),fun xs ω Q h=>?_⟩)
  obtain ⟨ws,x,y,rfl,hl,k⟩:=h
  unfold vls at k ⊢
  walk_at "a1"
  refine wN (rs:=(ws.map fun v=>b01 ((Sy.jn true x y).val v)).map D.int) (by simp) (by simp) (Nat.le_of_lt (bi (by simp;omega))) (fun i d e r h1 h2 h3 Q q=>?_) (fun ρ=>⟨_,bn _,?_⟩)
  · simp only [List.map_map,List.getElem?_map,Option.map_eq_some_iff] at h1 h2 h3
    obtain ⟨v,hv,rfl⟩:=h1
    obtain ⟨v',hv',rfl⟩:=h2
    obtain ⟨v'',hv'',rfl⟩:=h3
    rw [hv] at hv' hv''
    cases hv'
    cases hv''
    simp only [Function.comp_apply] at q ⊢
    walk_at "a1"
    rw [show (if b01 (y.val v) < b01 (x.val v) then b01 (y.val v) else b01 (x.val v)) = b01 ((Sy.jn true x y).val v) from by simp only [Sy.val];cases x.val v<;>cases y.val v<;>rfl]
    exact q
  rw [av]
  exact k
def led (ys zs : List (List Int)) (x : Sy) : D:=.tup [(bE ys zs x).d,vls x ys,vls x zs]
def Bh : ASp:=fun xs ω Q=>∃ (n : Nat) (ys zs : List (List Int)) (i b : Int),xs = [.d (csD n ys zs),.d (Sy.is i b).d]/\n<=5/\Wds n ys/\Wds n zs/\(Sy.is i b).ok n/\Q (.d (led ys zs (.is i b))) ω
theorem FN (T : Txt K mg t) : aJ P w K mg base CX0 7 t.cx t.jB ["case","leaf"] (aN Bh):=by
  have G_value : aJ P w K mg base CX0 6 t.dX t.kY ["saying","word"] (aN yK):=CU T
  refine T.y6.okD x5 (fun xs ω Q h=>by obtain ⟨n,ys,zs,i,b,rfl,_⟩:=h;rfl) (fun cdv A outer s H E hr=>⟨_,_,(al (aD (aR (be (aR (aA aP (aa (ar (aj K rfl) (pv 1) ag (fun _ _=>rfl)) af))) (aa (dC (N:=(["word","leaf"] : List Str)) (src:=[none,some 1]) rfl (by show dn _ (defScope dq) _ _ (["case","leaf"] : List Str) = true;decide +kernel) (by intro g' h;cases h) (bY K rfl (ar (aj K rfl) (pv 0) ag (fun _ _=>rfl))) (fun _ _ _ _ _ _=>(aG (i:=0) (show (["word","leaf"] : List Str).Nodup by decide +kernel) rfl (Or.inl rfl))) (fun _ _ _ _ _ _=>fy) (fun _ _ _ _ _ _=>(bX rfl rfl (am G_value (hr.mono (by omega)) (by rfl) T.qq T.qD T.lD .nil aB (aa (pv 1) (aa (pv 0) af)))))) (aa (dC (N:=(["word","leaf"] : List Str)) (src:=[none,some 1]) rfl (by show dn _ (defScope dq) _ _ (["case","leaf"] : List Str) = true;decide +kernel) (by intro g' h;cases h) (bY K rfl (ar (aj K rfl) (pv 0) ag (fun _ _=>rfl))) (fun _ _ _ _ _ _=>(aG (i:=0) (show (["word","leaf"] : List Str).Nodup by decide +kernel) rfl (Or.inl rfl))) (fun _ _ _ _ _ _=>fy) (fun _ _ _ _ _ _=>(bX rfl rfl (am G_value (hr.mono (by omega)) (by rfl) T.qq T.qD T.lD .nil aB (aa (pv 1) (aa (pv 0) af)))))) af)))))),(aT (a9 (ac (a9 (ac bc (ac (ap aM ae ak) ai))) (ac (cW (dk (ap aM ae ak)) ao tw (cT (aq (ac ae (ac ae ai))))) (ac (cW (dk (ap aM ae ak)) ao tw (cT (aq (ac ae (ac ae ai))))) ai))))),fun xs ω Q h=>?_⟩)
  obtain ⟨n,ys,zs,i,b,rfl,hn,hy,hz,hx,k⟩:=h
  have hyl:=hy.le hn
  have hzl:=hz.le hn
  have okv : ∀ ws,Wds n ws->∀ v∈ws,(Sy.is i b).ok v.length:=fun ws h v hv=>by rw [(eh (h.2 v hv)).1];exact hx
  simp only [csD,Sy.d]
  walk_at "a1"
  refine nu (rs:=(ys.map fun v=>b01 ((Sy.is i b).val v)).map D.int) (by simp) (Nat.le_of_lt (bi (by simp;omega))) (fun j a r h1 h2 Q q=>?_) (fun ρ=>⟨_,bn _,?_⟩)
  · simp only [List.map_map,List.getElem?_map,Option.map_eq_some_iff] at h1 h2
    obtain ⟨v,hv,rfl⟩:=h1
    obtain ⟨v',hv',rfl⟩:=h2
    rw [hv] at hv'
    cases hv'
    simp only [Function.comp_apply] at q ⊢
    walk_at "a1"
    exact ⟨.is i b,v,rfl,okv ys hy v (List.mem_of_getElem? hv),by simp [Sy.dp],q⟩
  refine nu (rs:=(zs.map fun v=>b01 ((Sy.is i b).val v)).map D.int) (by simp) (Nat.le_of_lt (bi (by simp;omega))) (fun j a r h1 h2 Q q=>?_) (fun ρ=>⟨_,bn _,?_⟩)
  · simp only [List.map_map,List.getElem?_map,Option.map_eq_some_iff] at h1 h2
    obtain ⟨v,hv,rfl⟩:=h1
    obtain ⟨v',hv',rfl⟩:=h2
    rw [hv] at hv'
    cases hv'
    simp only [Function.comp_apply] at q ⊢
    walk_at "a1"
    exact ⟨.is i b,v,rfl,okv zs hz v (List.mem_of_getElem? hv),by simp [Sy.dp],q⟩
  rw [av]
  exact k
end
section
variable {P : Program} {w : World} {K : PySem.W.Frag} {mg : Str->Option Value} {base : Heap} {t : Adr}
def An : ASp:=fun xs ω Q=>∃ (n : Nat) (ys zs : List (List Int)) (a : Bool) (x y : Sy),xs = [.d (csD n ys zs),.d (.str (if a then "and" else "or")),.d (led ys zs x),.d (led ys zs y)]/\n<=5/\Wds n ys/\Wds n zs/\Q (.d (led ys zs (.jn a x y))) ω
theorem F3 (T : Txt K mg t) : aJ P w K mg base CX0 2 t.cB t.i6 ["case","join","one","other"] (aN An):=by
  have G_words_with : aJ P w K mg base CX0 1 t.bN t.fZ ["words","values","bit"] (aN AF):=Gy T
  have G_greater : aJ P w K mg base CX0 1 t.de t.kO ["ones","others"] (aN wI):=DX T
  have G_smaller : aJ P w K mg base CX0 1 t.dc t.kP ["ones","others"] (aN xL):=ET T
  refine T.zy.okD ku (fun xs ω Q h=>by obtain ⟨n,ys,zs,a,x,y,rfl,_⟩:=h;rfl) (fun cdv A outer s H E hr=>⟨_,_,(ah (bz (aE (bd hr.u100) (pv 1) aP (aK _)) (ah (aL (i:=4) ku.nd rfl (Or.inl rfl) (am G_words_with (hr.mono (by omega)) (by rfl) T.mV T.nz T.mZ .nil aB (aa (ar (aj K rfl) (pv 0) ag (fun _ _=>rfl)) (aa (ar (aj K rfl) (pv 2) ag (fun _ _=>rfl)) (aA ag af)))))
      (al (aD (aR (be (aR (aA aP (aa (pv 4) (aa (ar (aj K rfl) (pv 2) ag (fun _ _=>rfl)) (aa (ar (aj K rfl) (pv 3) ag (fun _ _=>rfl)) af))))) (aa (am G_greater (hr.mono (by omega)) (by rfl) T.uE T.tN T.tQ .nil aB (aa (ar (aj K rfl) (pv 2) ag (fun _ _=>rfl)) (aa (ar (aj K rfl) (pv 3) ag (fun _ _=>rfl)) af))) (aa (am G_greater (hr.mono (by omega)) (by rfl) T.uE T.tN T.tQ .nil aB (aa (ar (aj K rfl) (pv 2) ag (fun _ _=>rfl)) (aa (ar (aj K rfl) (pv 3) ag (fun _ _=>rfl)) af))) af))))))) aY)
      (ah (aL (i:=4) ku.nd rfl (Or.inl rfl) (am G_words_with (hr.mono (by omega)) (by rfl) T.mV T.nz T.mZ .nil aB (aa (ar (aj K rfl) (pv 0) ag (fun _ _=>rfl)) (aa (ar (aj K rfl) (pv 2) ag (fun _ _=>rfl)) (aA ag af)))))
      (al (aD (aR (be (aR (aA aP (aa (pv 4) (aa (ar (aj K rfl) (pv 2) ag (fun _ _=>rfl)) (aa (ar (aj K rfl) (pv 3) ag (fun _ _=>rfl)) af))))) (aa (am G_smaller (hr.mono (by omega)) (by rfl) T.tM T.ub T.tX .nil aB (aa (ar (aj K rfl) (pv 2) ag (fun _ _=>rfl)) (aa (ar (aj K rfl) (pv 3) ag (fun _ _=>rfl)) af))) (aa (am G_smaller (hr.mono (by omega)) (by rfl) T.tM T.ub T.tX .nil aB (aa (ar (aj K rfl) (pv 2) ag (fun _ _=>rfl)) (aa (ar (aj K rfl) (pv 3) ag (fun _ _=>rfl)) af))) af)))))))),(au (cQ (aQ (ap bj ae bc)) (au (aO (aq (ac (ap aM ae ak) (ac (ap aM ae ak) (ac ak ai)))) ao)
      (aT (a9 (ac (a9 (ac bc (ac ae (ac (ap aM ae ak) (ac (ap aM ae ak) ai))))) (ac (aq (ac (ap aM ae ak) (ac (ap aM ae ak) ai))) (ac (aq (ac (ap aM ae ak) (ac (ap aM ae ak) ai))) ai)))))) bf)
      (au (aO (aq (ac (ap aM ae ak) (ac (ap aM ae ak) (ac ak ai)))) ao)
      (aT (a9 (ac (a9 (ac bc (ac ae (ac (ap aM ae ak) (ac (ap aM ae ak) ai))))) (ac (aq (ac (ap aM ae ak) (ac (ap aM ae ak) ai))) (ac (aq (ac (ap aM ae ak) (ac (ap aM ae ak) ai))) ai))))))),fun xs ω Q h=>?_⟩)
  obtain ⟨n,ys,zs,a,x,y,rfl,hn,hy,hz,k⟩:=h
  have hyl:=hy.le hn
  have hzl:=hz.le hn
  cases a
  · simp only [csD,led,bE,if_true,if_false,Bool.false_eq_true] at k ⊢
    walk_at "s1"
    walk_at "s1"
    refine ⟨ys,fun v=>x.val v,false,rfl,hyl,?_⟩
    walk_at "a1"
    refine ⟨ys,x,y,rfl,hyl,zs,x,y,rfl,hzl,?_⟩
    walk_at "a1"
    rw [av,show (fun v=>x.val v == false) = fun v=>!x.val v from by funext v;cases x.val v<;>rfl]
    exact k
  · simp only [csD,led,bE,if_true,if_false,Bool.false_eq_true] at k ⊢
    walk_at "s1"
    walk_at "s1"
    refine ⟨zs,fun v=>x.val v,true,rfl,hzl,?_⟩
    walk_at "a1"
    refine ⟨ys,x,y,rfl,hyl,zs,x,y,rfl,hzl,?_⟩
    walk_at "a1"
    rw [av,show (fun v=>x.val v == true) = fun v=>x.val v from by funext v;cases x.val v<;>rfl]
    exact k
def EZ : ASp:=fun xs ω Q=>∃ (n : Nat) (ys zs : List (List Int)) (x : Sy),xs = [.d (csD n ys zs),.d x.d]/\n<=5/\rd n x ys zs/\x.ok n/\x.dp<=15/\Q (.d (bE ys zs x).d) ω
def sU (cA : List AV) : ASp:=fun xs ω Q=>∃ (n : Nat) (ys zs : List (List Int)) (i b : Int),cA = [.d (csD n ys zs)]/\xs = [.d (Sy.is i b).d]/\n<=5/\Wds n ys/\Wds n zs/\(Sy.is i b).ok n/\Q (.d (led ys zs (.is i b))) ω
def lV (cA : List AV) : ASp:=fun xs ω Q=>∃ (n : Nat) (ys zs : List (List Int)) (a : Bool) (l r : D) (x y : Sy),cA = [.d (csD n ys zs)]/\xs = [.d (.tup [.str (if a then "and" else "or"),l,r]),.d (led ys zs x),.d (led ys zs y)]/\n<=5/\Wds n ys/\Wds n zs/\Q (.d (led ys zs (.jn a x y))) ω
theorem I0 (T : Txt K mg t) : aJ P w K mg base CX0 13 t.cG t.ii ["case","saying"] (aN EZ):=by
  have G_folded : ∀ b',aJ P w K mg b' CX0 11 t.cL t.gi ["tree","leaf","of_leaf","of_fork"] (la 8 P w K mg b'):=fun b'=>qE 8 T
  have G_parts : aJ P w K mg base CX0 8 t.eX t.nh ["case","saying"] (aN qX):=wC T
  refine T.gk.okD r6 (fun xs ω Q h=>by obtain ⟨n,ys,zs,x,rfl,_⟩:=h;rfl) (fun A outer s H E hr=>?_)
  refine ⟨_,_,(ah (bz (gW (bp K rfl (am G_parts (hr.mono (by omega)) (by rfl) T.AB T.zZ T.AY .nil aB (aa (pv 0) (aa (pv 1) af))) (fun _=>rfl))) (al xq) aY)
      (ah (aL (i:=2) r6.nd rfl (Or.inl rfl) (nL G_folded (hr.mono (by omega)) (by rfl) T.nk T.nZ T.nR (aa (pv 1) (aA aP (aa (ky (x:="talk_of") rfl rfl T.gk.tab T.gk.hd rfl) (aa (ky (x:="talk_of") rfl rfl T.gk.tab T.gk.hd rfl) af))))))
      (al (aD (ar (aj K rfl) (pv 2) ag (fun _ _=>rfl)))))),(au (cQ (ma (eY (aq (ac ae (ac ae ai))))) Bk bf)
      (au (aO (vV (j1:=[0]) (j2:=[0]) (s1:=sU) (s2:=lV) ?F0 ?F1 ae bc) ao)
      (aT (ap aM ae ak)))),fun xs ω Q h=>?main⟩
  case F0 =>
    intro b' H f σ caps cA L cb hc hl
    have G_led_leaf : aJ P w K mg b' CX0 7 t.cx t.jB ["case","leaf"] (aN Bh):=FN T
    obtain ⟨v,rfl⟩ : ∃ v,caps = [v]:=List.length_eq_one_iff.mp hc.1
    obtain ⟨wc,wu,hwc,hcell,hrel⟩:=cb 0 "case" v rfl (hc.2 0 0 v rfl rfl) rfl rfl
    obtain rfl : s.heap.objs.size + 1 = wc:=Option.some.inj hwc
    refine gx (ps:=["leaf"]) (cs:=["case"]) L ⟨rfl,rfl,rfl,by decide +kernel,by decide +kernel,by decide +kernel,by decide +kernel⟩ (vQ hcell hrel) (fun pm c ctv us hl=>match us,hl with | [_],_=>rfl) (fun xs ω Q h=>by obtain ⟨n,ys,zs,i,b,_,rfl,_⟩:=h;rfl) (fun cd A outer s H hr=>⟨_,_,(am G_led_leaf (hr.mono (by omega)) (by rfl) T.zm T.yu T.zp .nil aB (aa (pv 1) (aa (pv 0) af))),(aq (ac ae (ac ae ai))),fun xs ω Q h=>?_⟩)
    obtain ⟨n,ys,zs,i,b,rfl,rfl,h1,h2,h3,h4,q⟩:=h
    walk_at "a1"
    exact ⟨n,ys,zs,i,b,rfl,h1,h2,h3,h4,q⟩
  case F1 =>
    intro b' H f σ caps cA L cb hc hl
    have G_led_join : aJ P w K mg b' CX0 2 t.cB t.i6 ["case","join","one","other"] (aN An):=F3 T
    obtain ⟨v,rfl⟩ : ∃ v,caps = [v]:=List.length_eq_one_iff.mp hc.1
    obtain ⟨wc,wu,hwc,hcell,hrel⟩:=cb 0 "case" v rfl (hc.2 0 0 v rfl rfl) rfl rfl
    obtain rfl : s.heap.objs.size + 1 = wc:=Option.some.inj hwc
    refine gx (ps:=["part","one","other"]) (cs:=["case"]) L ⟨rfl,rfl,rfl,by decide +kernel,by decide +kernel,by decide +kernel,by decide +kernel⟩ (vQ hcell hrel) (fun pm c ctv us hl=>match us,hl with | [_,_,_],_=>rfl) (fun xs ω Q h=>by obtain ⟨n,ys,zs,a,l,r,x,y,_,rfl,_⟩:=h;rfl) (fun cd A outer s H hr=>⟨_,_,(am G_led_join (hr.mono (by omega)) (by rfl) T.zJ T.yt T.yL .nil aB (aa (pv 3) (aa (ar (aj K rfl) (pv 0) ag (fun _ _=>rfl)) (aa (pv 1) (aa (pv 2) af))))),(aq (ac ae (ac (ap aM ae ak) (ac ae (ac ae ai))))),fun xs ω Q h=>?_⟩)
    obtain ⟨n,ys,zs,a,l,r,x,y,rfl,rfl,h1,h2,h3,q⟩:=h
    walk_at "a1"
    exact ⟨n,ys,zs,a,x,y,rfl,h1,h2,h3,q⟩
  case main =>
    obtain ⟨n,ys,zs,x,rfl,hn,hp,hx,hd,k⟩:=h
    walk_at "s1"
    refine ⟨n,ys,zs,x,rfl,hp,hx,hd,?_⟩
    walk_at "a1"
    walk_at "s1"
    refine ⟨cP x,(o8 x).symm,lx x,je hd,fun e=>led ys zs (o6 e),_,rfl,_,rfl,fun q he ω1 Q1 h=>?_,fun q l r he ω1 Q1 h=>?_,?_⟩
    · obtain ⟨i,b,rfl,ho⟩:=Hc hx he
      exact ⟨n,ys,zs,i,b,rfl,rfl,hn,hp.y,hp.z,ho,h⟩
    · obtain ⟨a,l',r',rfl,rfl,rfl⟩:=GL hx he
      have h : Q1 (.d (led ys zs (o6 (cP (.jn a l' r'))))) ω1:=h
      rw [lX] at h
      show lV _ [_,.d (led ys zs (o6 (cP l'))),.d (led ys zs (o6 (cP r')))] ω1 Q1
      rw [lX,lX]
      exact ⟨n,ys,zs,a,(cP l').d,(cP r').d,_,_,rfl,rfl,hn,hp.y,hp.z,h⟩
    · simp only [lX,led]
      walk_at "a1"
      rw [av]
      exact k
end
section
variable {P : Program} {w : World} {K : PySem.W.Frag} {mg : Str->Option Value} {base : Heap} {t : Adr}
def yF (y n : List Int) (u : Ta) : D:=.tup [.lst ((Ta.way y n u).map D.int),.int (Ta.fin y n u)]
def oI : ASp:=fun xs ω Q=>∃ (u : Ta) (y n : List Int) (m : Nat),xs = [.d u.d,.d (wdD y),.d (wdD n)]/\u.ok m/\u.dp<=900/\Q (.d (yF y n u)) ω
theorem t6 (T : Txt K mg t) : aJ P w K mg base CX0 1 t.du t.kw ["talk","yes","no"] (aN oI):=by
  refine T.CI.okD f9 (fun xs ω Q h=>by obtain ⟨u,y,n,m,rfl,_⟩:=h;rfl) (fun cdv A outer s H E hr=>⟨_,_,(ah (aL (i:=3) f9.nd rfl (Or.inl rfl) (dr af))
      (ah (aL (i:=4) f9.nd rfl (Or.inl rfl) (pv 0))
      (ah (mY PassesOwn.never (aE (mm hr.u100) (ar (aj K rfl) (pv 4) ag (fun _ _=>rfl)) aP (aK _)) (ah (aL (i:=5) f9.nd rfl (Or.inl rfl) (im (aE (bd hr.u100) (ar (aj K rfl) (pv 4) ag (fun _ _=>rfl)) aP (aK _)) (pv 1) (pv 2)))
      (ah (aL (i:=6) f9.nd rfl (Or.inl rfl) (im (aE (zk hr.u100) (pv 5) (ar (aj K rfl) (pv 4) ag (fun _ _=>rfl)) (by with_unfolding_all rfl)) ag ag))
      (ah (bZ (eQ PySem.F.plainAttrs_list PySem.F.slot_list_append PySem.F.type_list_append bg (pv 3) (aa (pv 6) af)))
      (al (aL (i:=4) f9.nd rfl (Or.inl rfl) (ar (aj K rfl) (pv 4) (bb (aW cH (aW bU cI)) ag (pv 6)) (fun _ _=>rfl))))))))
      (al (aD (aR (aa (pv 3) (aa (ar (aj K rfl) (pv 4) ag (fun _ _=>rfl)) af)))))))),(au (aO (gR ai) ao)
      (au (aO ae ao)
      (au (qF (aQ (ap bj (ap aM ae ak) bc)) (au (aO (B8 (aQ (ap bj (ap aM ae ak) bc)) ae ae) ao)
      (au (aO (B8 (aQ (ap yy ae (ap aM ae ak))) ak ak) ao)
      (au (cX (bI ae (ac ae ai)))
      (aO (ap aM ae (ap eD ak ae)) ao)))))
      (aT (a9 (ac Dg (ac (ap aM ae ak) ai))))))),fun xs ω Q h=>?_⟩)
  obtain ⟨u,y,n,m,rfl,hu,hd,k⟩:=h
  walk_at "ab"
  intro l hl
  obtain ⟨Pv,iP⟩:=Gd fun j ρ ω'=>∃ (u2 : Ta) (bs : List Int) (v5 v6 : Option AV),ρ = [some (.d u.d),some (.d (wdD y)),some (.d (wdD n)),some (.r (.ref l)),some (.d u2.d),v5,v6]/\ω' = ω.put l (.own ((bs.map D.int).map AV.d))/\u2.ok m/\bs ++ Ta.way y n u2 = Ta.way y n u/\Ta.fin y n u2 = Ta.fin y n u/\j = u2.dp
  refine ⟨Pv,⟨_,(iP _ _ _).mpr ⟨u,[],_,_,rfl,rfl,hu,rfl,rfl,rfl⟩⟩,fun j ρ ω' h=>?_⟩
  obtain ⟨u2,bs,v5,v6,rfl,rfl,hu2,hw,hf,rfl⟩:=(iP _ _ _).mp h
  clear h
  have hbl : bs.length<=900:=by
    have:=Ta.vw y n u
    rw [← hw,List.length_append] at this
    omega
  cases u2 with
  | en i =>
    simp only [Ta.d]
    walk_at "ab"
    rw [jv ((Ex.refl ω).new hl)]
    simp only [Ta.fin,Ta.way,List.append_nil] at hf hw
    unfold yF at k
    rw [← hf,← hw] at k
    exact k
  | nd b ws a c =>
    obtain ⟨hws,ha,hc⟩:=hu2
    have hwd:=jZ ws
    have next : ∀ (v : Bool),Ta.bit y n b ws = v->∀ v5 v6,Pv (if v then c else a).dp [some (.d u.d),some (.d (wdD y)),some (.d (wdD n)),some (.r (.ref l)),some (.d (if v then c else a).d),v5,v6] (ω.put l (.own ((bs.map D.int).map AV.d ++ [.d (.int (if v then 1 else 0))]))):=fun v hv v5 v6=>by
      refine (iP _ _ _).mpr ⟨if v then c else a,bs ++ [if v then 1 else 0],_,_,rfl,by simp,by cases v<;>assumption,?_,?_,rfl⟩
      · rw [← hw];simp only [Ta.way,hv];cases v<;>simp
      · rw [← hf];simp only [Ta.fin,hv];cases v<;>simp
    have lt : ∀ v : Bool,(if v then c else a).dp < (Ta.nd b ws a c).dp:=fun v=>by cases v<;>simp only [Ta.dp]<;>simp<;>omega
    have hsz : bs.length < sizeLine:=g6 (m:=0) (by omega)
    cases b<;>simp only [Ta.d]<;>walk_at "ab"
    · refine ⟨fun ρ' ω'=>∃ m',m' < (Ta.nd false ws a c).dp/\Pv m' ρ' ω',fun ρ' ω' h=>h,by omega,?_⟩
      rw [rg]
      refine gr (fun hb=>⟨hsz,_,lt true,next true (by simpa [Ta.bit] using hb) _ _⟩) (fun hb=>⟨hsz,_,lt false,next false (by simpa [Ta.bit] using hb) _ _⟩)
    · refine ⟨fun ρ' ω'=>∃ m',m' < (Ta.nd true ws a c).dp/\Pv m' ρ' ω',fun ρ' ω' h=>h,by omega,?_⟩
      rw [rg]
      refine gr (fun hb=>⟨hsz,_,lt true,next true (by simpa [Ta.bit] using hb) _ _⟩) (fun hb=>⟨hsz,_,lt false,next false (by simpa [Ta.bit] using hb) _ _⟩)
end
section
variable {P : Program} {w : World} {K : PySem.W.Frag} {mg : Str->Option Value} {base : Heap} {t : Adr}
def rl (b : Bool) : Str:=if b then "rising" else "any"
def ppB (b : Bool) (y n : List Int) (i : Nat) : Bool:=if b then decide (y.getD i 0 = 1) && decide (n.getD i 0 = 0) else !decide (y.getD i 0 = n.getD i 0)
def G1 : ASp:=fun xs ω Q=>∃ (b : Bool) (i : Int) (y n : List Int),xs = [.d (.str (rl b)),.d (.int i),.d (wdD y),.d (wdD n)]/\0<=i/\i < y.length/\i < n.length/\Q (.d (.bl (ppB b y n i.toNat))) ω
theorem JO (T : Txt K mg t) : aJ P w K mg base CX0 1 t.bP t.fV ["rule","place","yes","no"] (aN G1):=by
  refine T.vZ.okD tE (fun xs ω Q h=>by obtain ⟨b,i,y,n,rfl,_⟩:=h;rfl) (fun cdv A outer s H E hr=>⟨_,_,(ah (bz (aE (bd hr.u100) (pv 0) aP (aK _)) (al (aD (m7 K rfl (cr (bd hr.u100) (ar (aj K rfl) (pv 2) (pv 1) (fun _ _=>rfl)) ag (aK _)) (pC (cr (bd hr.u100) (ar (aj K rfl) (pv 3) (pv 1) (fun _ _=>rfl)) ag (aK _)))))) aY)
      (al (aD (cr (mm hr.u100) (ar (aj K rfl) (pv 2) (pv 1) (fun _ _=>rfl)) (ar (aj K rfl) (pv 3) (pv 1) (fun _ _=>rfl)) (aK _))))),(au (cQ (aQ (ap bj ae bc)) (aT (r9 (ap bj (ap aM ae ae) ak) (ap bj (ap aM ae ae) ak))) bf)
      (aT (ap bj (ap aM ae ae) (ap aM ae ae)))),fun xs ω Q h=>?_⟩)
  obtain ⟨b,i,y,n,rfl,h0,h1,h2,k⟩:=h
  have e1:=t5 h0 h1
  have e2:=t5 h0 h2
  cases b<;>simp only [rl,ppB,if_true,if_false,Bool.false_eq_true] at k ⊢<;>walk_at "ab"<;>simp only [e1,e2]<;>walk_at "ab"
  · rw [av];exact k
  · rw [av]
    by_cases hy : y.getD i.toNat 0 = 1
    · rw [if_pos hy];rw [decide_eq_true hy,Bool.true_and] at k;exact k
    · rw [if_neg hy];rw [decide_eq_false hy,Bool.false_and] at k;rw [beq_eq_false_iff_ne.mpr hy];exact k
end
section
variable {P : Program} {w : World} {K : PySem.W.Frag} {mg : Str->Option Value} {base : Heap} {t : Adr}
def prl (ys zs : List (List Int)) : List (List Int × List Int):=ys.flatMap fun y=>zs.map fun z=>(y,z)
def prD (p : List Int × List Int) : D:=.tup [wdD p.1,wdD p.2]
theorem Gx (ys zs : List (List Int)) : (prl ys zs).length = ys.length * zs.length:=by
  induction ys with
  | nil=>simp [prl]
  | cons y ys ih =>
    simp only [prl,List.flatMap_cons,List.length_append,List.length_map] at ih ⊢
    rw [ih,List.length_cons,Nat.succ_mul]
    omega
theorem CL {ys zs : List (List Int)} {i : Nat} {y : List Int} (h : ys[i]? = some y) : prl (ys.take (i + 1)) zs = prl (ys.take i) zs ++ zs.map fun z=>(y,z):=by
  unfold prl
  rw [List.take_succ,h]
  simp
theorem uS {ys zs : List (List Int)} {p : List Int × List Int} (h : p∈prl ys zs) : p.1∈ys/\p.2∈zs:=by
  unfold prl at h
  simp only [List.mem_flatMap,List.mem_map] at h
  obtain ⟨y,hy,z,hz,rfl⟩:=h
  exact ⟨hy,hz⟩
def wH : ASp:=fun xs ω Q=>∃ (pl : Nat) (ys zs : List (List Int)),xs = [.d (csD pl ys zs)]/\ys.length<=32/\zs.length<=32/\Q (.d (.lst ((prl ys zs).map prD))) ω
theorem Dd (T : Txt K mg t) : aJ P w K mg base CX0 1 t.cw t.iX ["case"] (aN wH):=by
  refine T.y9.okD xn (fun xs ω Q h=>by obtain ⟨pl,ys,zs,rfl,_⟩:=h;rfl) (fun cdv A outer s H E hr=>⟨_,_,(al (aD (dC (N:=(["yes","no","case"] : List Str)) (src:=[none,none,some 0]) rfl (by show dn _ (defScope ei) _ _ (["case"] : List Str) = true;decide +kernel) (by intro g' h;cases h;rfl) (bY K rfl (ar (aj K rfl) (pv 0) ag (fun _ _=>rfl))) (fun _ _ _ _ _ _=>(aG (i:=0) (show (["yes","no","case"] : List Str).Nodup by decide +kernel) rfl (Or.inl rfl))) (fun _ _ _ _ _ _=>fy) (fun _ _ _ _ _ _=>(HF rfl rfl rfl (by intro g' h;cases h) (bY K rfl (ar (aj K rfl) (pv 2) ag (fun _ _=>rfl))) (aG (i:=1) (show (["yes","no","case"] : List Str).Nodup by decide +kernel) rfl (Or.inl rfl)) fy (bX rfl rfl (aR (aa (pv 0) (aa (pv 1) af))))))))),(aT (cW (dk (ap aM ae ak)) ao tw (JU (dk (ap aM ae ak)) ao tw (cT (a9 (ac ae (ac ae ai))))))),fun xs ω Q h=>?_⟩)
  obtain ⟨pl,ys,zs,rfl,hy,hz,k⟩:=h
  simp only [csD]
  walk_at "ab"
  refine sw (fun i xs ρ ω'=>ω' = ω/\(∃ v0 v1,ρ = [v0,v1,some (.d (csD pl ys zs))])/\xs = ((prl (ys.take i) zs).map prD).map AV.d) ⟨rfl,⟨_,_,rfl⟩,rfl⟩ ?_ ?_
  · rintro i d xs ρ ω' N hd ⟨rfl,⟨v0,v1,rfl⟩,rfl⟩ kN
    obtain ⟨y,hyi,rfl⟩:=eV hd
    have hil:=(List.getElem?_eq_some_iff.mp hyi).1
    simp only [csD]
    walk_at "ab"
    refine sw (fun j xs ρ ω''=>ω'' = ω'/\(∃ v1,ρ = [some (.d (wdD y)),v1,some (.d (csD pl ys zs))])/\xs = ((prl (ys.take i) zs ++ (zs.take j).map fun z=>(y,z)).map prD).map AV.d) ⟨rfl,⟨_,rfl⟩,by simp⟩ ?_ ?_
    · rintro j d2 xs ρ ω'' M hd2 ⟨rfl,⟨v1,rfl⟩,rfl⟩ kM
      obtain ⟨z,hzj,rfl⟩:=eV hd2
      have hjl:=(List.getElem?_eq_some_iff.mp hzj).1
      have hlen : (prl (ys.take i) zs).length<=32 * 32:=by
        rw [Gx,List.length_take]
        exact Nat.mul_le_mul (by omega) hz
      walk_at "ab"
      refine ⟨Nat.lt_of_le_of_lt (m:=2000) (by rw [List.length_take];omega) (by decide),kM _ _ _ ⟨rfl,⟨_,rfl⟩,?_⟩⟩
      rw [List.take_succ,hzj]
      simp [prD]
    · rintro xs ρ ω'' ⟨rfl,⟨v1,rfl⟩,rfl⟩
      rw [List.length_map,List.take_length]
      exact kN _ _ _ ⟨rfl,⟨_,_,rfl⟩,by rw [CL hyi]⟩
  · rintro xs ρ ω' ⟨rfl,⟨v0,v1,rfl⟩,rfl⟩
    rw [List.length_map,List.take_length,bn]
    refine ⟨_,rfl,?_⟩
    rw [av]
    exact k
def fau (b : Bool) (u : Ta) (p : List Int × List Int) : Bool:=!ppB b p.1 p.2 (Ta.fin p.1 p.2 u).toNat
def HD (u : Ta) : Option (List Int × List Int)->D
  | some p=>.tup [wdD p.1,wdD p.2,.int (Ta.fin p.1 p.2 u)]
  | none=>.non
def vR (b : Bool) (ys zs : List (List Int)) (u : Ta) : D:=HD u ((prl ys zs).find? (fau b u))
def IH (pl : Nat) (ys zs : List (List Int)) (u : Ta) : Prop:=pl<=5/\u.ok pl/\u.dp<=900/\Wds pl ys/\Wds pl zs
def xu : ASp:=fun xs ω Q=>∃ (b : Bool) (pl : Nat) (ys zs : List (List Int)) (u : Ta),xs = [.d (csD pl ys zs),.d (.str (rl b)),.d u.d]/\IH pl ys zs u/\Q (.d (vR b ys zs u)) ω
theorem E6 (T : Txt K mg t) : aJ P w K mg base CX0 2 t.fx t.qC ["case","rule","talk"] (aN xu):=by
  have G_pairs_in : aJ P w K mg base CX0 1 t.cw t.iX ["case"] (aN wH):=Dd T
  have G_spoken : aJ P w K mg base CX0 1 t.du t.kw ["talk","yes","no"] (aN oI):=t6 T
  have G_parts_pair : aJ P w K mg base CX0 1 t.bP t.fV ["rule","place","yes","no"] (aN G1):=JO T
  refine T.Gm.okD n6 (fun xs ω Q h=>by obtain ⟨b,pl,ys,zs,u,rfl,_⟩:=h;rfl) (fun cdv A outer s H E hr=>⟨_,_,(ah (gp PassesOwn.never rfl (bY K rfl (am G_pairs_in (hr.mono (by omega)) (by rfl) T.zr T.zt T.zf .nil aB (aa (pv 0) af))) (d7 K rfl (n:=2) rfl (a8 (aG (i:=3) n6.nd rfl (Or.inl rfl)) (a8 (aG (i:=4) n6.nd rfl (Or.inl rfl)) dU))) (ah (aL (i:=5) n6.nd rfl (Or.inl rfl) (ar (aj K rfl) (am G_spoken (hr.mono (by omega)) (by rfl) T.re T.sI T.rR .nil aB (aa (pv 2) (aa (pv 3) (aa (pv 4) af)))) ag (fun _ _=>rfl)))
      (al (bz (gW (bp K rfl (am G_parts_pair (hr.mono (by omega)) (by rfl) T.vq T.uR T.vG .nil aB (aa (pv 1) (aa (pv 5) (aa (pv 3) (aa (pv 4) af))))) (fun _=>rfl))) (al (aD (aR (aa (pv 3) (aa (pv 4) (aa (pv 5) af)))))) aY))))
      (al (aD o9))),(au (j8 (dk (aq (ac ae ai))) (jG (bG ao (bG ao jH))) (au (aO (ap aM (aq (ac ae (ac ae (ac ae ai)))) ak) ao)
      (cQ (ma (eY (aq (ac ae (ac ae (ac ae (ac ae ai))))))) (aT (a9 (ac ae (ac ae (ac ae ai))))) bf)))
      (aT uc)),fun xs ω Q h=>?_⟩)
  obtain ⟨b,pl,ys,zs,u,rfl,⟨hpl,hu,hd,hy,hz⟩,k⟩:=h
  walk_at "ab"
  refine ⟨pl,ys,zs,rfl,hy.le hpl,hz.le hpl,?_⟩
  walk_at "ab"
  refine pW (fun i ρ ω'=>ω' = ω/\(∃ v3 v4 v5,ρ = [some (.d (csD pl ys zs)),some (.d (.str (rl b))),some (.d u.d),v3,v4,v5])/\∀ p∈(prl ys zs).take i,fau b u p = false) ⟨rfl,⟨_,_,_,rfl⟩,by simp⟩ ?_ ?_
  · rintro i d ρ ω' N hd' ⟨rfl,⟨v3,v4,v5,rfl⟩,hf⟩ kN
    obtain ⟨⟨y,z⟩,hp,rfl⟩:=eV hd'
    obtain ⟨my,mz⟩:=uS (List.mem_of_getElem? hp)
    have ly:=(eh (hy.2 y my)).1
    have lz:=(eh (hz.2 z mz)).1
    obtain ⟨f0,f1⟩:=Ta.y7 (y:=y) (n:=z) hu
    simp only [prD]
    walk_at "ab"
    refine ⟨u,y,z,pl,rfl,hu,hd,?_⟩
    simp only [yF]
    walk_at "ab"
    refine ⟨b,_,y,z,rfl,f0,by omega,by omega,?_⟩
    walk_at "ab"
    cases hb : ppB b y z (Ta.fin y z u).toNat with
    | true =>
      walk_at "ab"
      refine kN _ _ ⟨rfl,⟨_,_,_,rfl⟩,fun p hp'=>?_⟩
      rw [List.take_succ,hp] at hp'
      rcases List.mem_append.mp hp' with h | h
      · exact hf p h
      · simp at h;subst h;simp [fau,hb]
    | false =>
      walk_at "ab"
      have : (prl ys zs).find? (fau b u) = some (y,z):=by
        rw [List.find?_eq_some_iff_append]
        obtain ⟨hi,e⟩:=List.getElem?_eq_some_iff.mp hp
        refine ⟨by simp [fau,hb],(prl ys zs).take i,(prl ys zs).drop (i + 1),?_,fun p h=>by simp [hf p h]⟩
        rw [← e,← List.drop_eq_getElem_cons hi,List.take_append_drop]
      rw [av]
      unfold vR at k
      rw [this] at k
      exact k
  · rintro ρ ω' ⟨rfl,⟨v3,v4,v5,rfl⟩,hf⟩
    rw [List.length_map,List.take_length] at hf
    have : (prl ys zs).find? (fau b u) = none:=by
      rw [List.find?_eq_none]
      intro p h
      simp [hf p h]
    walk_at "ab"
    rw [av]
    unfold vR at k
    rw [this] at k
    exact k
def qA : ASp:=fun xs ω Q=>∃ (b : Bool) (pl : Nat) (ys zs : List (List Int)) (u : Ta),xs = [.d (csD pl ys zs),.d (.str (rl b)),.d u.d]/\IH pl ys zs u/\Q (.d (.bl ((prl ys zs).find? (fau b u)).isNone)) ω
theorem vI (T : Txt K mg t) : aJ P w K mg base CX0 3 t.cn t.gc ["case","rule","talk"] (aN qA):=by
  have G_fault : aJ P w K mg base CX0 2 t.fx t.qC ["case","rule","talk"] (aN xu):=E6 T
  refine T.Cl.okD zB (fun xs ω Q h=>by obtain ⟨b,pl,ys,zs,u,rfl,_⟩:=h;rfl) (fun cdv A outer s H E hr=>⟨_,_,(al (aD (cr DL (am G_fault (hr.mono (by omega)) (by rfl) T.Gg T.FT T.GA .nil aB (aa (pv 0) (aa (pv 1) (aa (pv 2) af)))) o9 (aK _)))),(aT (ap CY (aq (ac ae (ac ae (ac ae ai)))) uc)),fun xs ω Q h=>?_⟩)
  obtain ⟨b,pl,ys,zs,u,rfl,hp,k⟩:=h
  walk_at "ab"
  refine ⟨b,pl,ys,zs,u,rfl,hp,?_⟩
  unfold vR
  cases e : (prl ys zs).find? (fau b u) with
  | none=>simp only [HD];walk_at "ab";rw [av];rw [e] at k;exact k
  | some p=>simp only [HD];walk_at "ab";rw [av];rw [e] at k;exact k
end
section
variable {P : Program} {w : World} {K : PySem.W.Frag} {mg : Str->Option Value} {base : Heap} {t : Adr}
abbrev WW:=List (List Int) × List (List Int)
def goF (h : Bool) (ws : List (List Int)) (q : WW) : WW:=if h then (q.1.filter fun v=>!decide (v∈ws),q.2) else (q.1,q.2.filter fun v=>!decide (v∈ws))
def goS (h : Bool) (ws : List (List Int)) (q : WW) : WW:=if h then (q.1.filter fun v=>decide (v∈ws),q.2) else (q.1,q.2.filter fun v=>decide (v∈ws))
def wwD (q : WW) : D:=.tup [.tup (q.1.map wdD),.tup (q.2.map wdD)]
def Ww (n : Nat) (q : WW) : Prop:=Wds n q.1/\Wds n q.2
theorem Ww.f {n : Nat} {q : WW} {h : Bool} {ws : List (List Int)} (x : Ww n q) : Ww n (goF h ws q):=by
  unfold goF
  cases h<;>simp only [if_true,if_false,Bool.false_eq_true]
  · exact ⟨x.1,jF x.2 _⟩
  · exact ⟨jF x.1 _,x.2⟩
theorem Ww.s {n : Nat} {q : WW} {h : Bool} {ws : List (List Int)} (x : Ww n q) : Ww n (goS h ws q):=by
  unfold goS
  cases h<;>simp only [if_true,if_false,Bool.false_eq_true]
  · exact ⟨x.1,jF x.2 _⟩
  · exact ⟨jF x.1 _,x.2⟩
def vt : ASp:=fun xs ω Q=>∃ (h : Bool) (ws : List (List Int)) (a b : D) (q : WW) (n : Nat),xs = [.d (.tup [.str (if h then "yes" else "no"),.tup (ws.map wdD),a,b]),.d (.tup (q.1.map wdD)),.d (.tup (q.2.map wdD))]/\n<=5/\Ww n q/\Q (.d (.tup [wwD (goF h ws q),wwD (goS h ws q)])) ω
theorem zU (T : Txt K mg t) : aJ P w K mg base CX0 1 t.cK t.ie ["turn","yes","no"] (aN vt):=by
  refine T.B0.okD jw (fun xs ω Q h=>by obtain ⟨h,ws,a,b,q,n,rfl,_⟩:=h;rfl) (fun cdv A outer s H E hr=>⟨_,_,(ah (aL (i:=3) jw.nd rfl (Or.inl rfl) (im (aE (bd hr.u100) (ar (aj K rfl) (pv 0) ag (fun _ _=>rfl)) aP (aK _)) (pv 1) (pv 2)))
      (ah (aL (i:=4) jw.nd rfl (Or.inl rfl) (da (cN K rfl) (by rfl) T.li (by kernel_rfl) (aa (dC (N:=(["word","turn"] : List Str)) (src:=[none,some 0]) rfl (by show dn _ (defScope er) _ _ (["turn","yes","no","own","silent","loud"] : List Str) = true;decide +kernel) (by intro g' h;cases h) (bY K rfl (pv 3)) (fun _ _ _ _ _ _=>(aG (i:=0) (show (["word","turn"] : List Str).Nodup by decide +kernel) rfl (Or.inl rfl))) (fun _ _ _ _ _ _=>(fC (aE (kX hr.u100) (pv 0) (ar (aj K rfl) (pv 1) ag (fun _ _=>rfl)) (by with_unfolding_all rfl)))) (fun _ _ _ _ _ _=>(bX rfl rfl (pv 0)))) af)))
      (ah (aL (i:=5) jw.nd rfl (Or.inl rfl) (da (cN K rfl) (by rfl) T.li (by kernel_rfl) (aa (dC (N:=(["word","turn"] : List Str)) (src:=[none,some 0]) rfl (by show dn _ (defScope er) _ _ (["turn","yes","no","own","silent","loud"] : List Str) = true;decide +kernel) (by intro g' h;cases h) (bY K rfl (pv 3)) (fun _ _ _ _ _ _=>(aG (i:=0) (show (["word","turn"] : List Str).Nodup by decide +kernel) rfl (Or.inl rfl))) (fun _ _ _ _ _ _=>(fC (aE (zk hr.u100) (pv 0) (ar (aj K rfl) (pv 1) ag (fun _ _=>rfl)) (by with_unfolding_all rfl)))) (fun _ _ _ _ _ _=>(bX rfl rfl (pv 0)))) af)))
      (ah (bz (aE (bd hr.u100) (ar (aj K rfl) (pv 0) ag (fun _ _=>rfl)) aP (aK _)) (al (aD (aR (be (aR (aa (pv 4) (aa (pv 2) af))) (be (aR (aa (pv 5) (aa (pv 2) af))) af))))) aY)
      (al (aD (aR (be (aR (aa (pv 1) (aa (pv 4) af))) (be (aR (aa (pv 1) (aa (pv 5) af))) af))))))))),(au (aO (B8 (aQ (ap bj (ap aM ae ak) bc)) ae ae) ao)
      (au (aO (eJ lq (ac (cW (dk ae) ao (aQ (ap yy ae (ap aM ae ak))) (cT ae)) ai)) ao)
      (au (aO (eJ lq (ac (cW (dk ae) ao (aQ (ap yy ae (ap aM ae ak))) (cT ae)) ai)) ao)
      (au (cQ (aQ (ap bj (ap aM ae ak) bc)) (aT (a9 (ac (a9 (ac ae (ac ae ai))) (ac (a9 (ac ae (ac ae ai))) ai)))) bf)
      (aT (a9 (ac (a9 (ac ae (ac ae ai))) (ac (a9 (ac ae (ac ae ai))) ai)))))))),fun xs ω Q h=>?_⟩)
  obtain ⟨h,ws,a,b,q,n,rfl,hn,hq,k⟩:=h
  have h1:=hq.1.le hn
  have h2:=hq.2.le hn
  have hd:=jZ ws
  have cmp : ∀ (ys : List (List Int)) (neg : Bool) (K' : List AV->SA->Om->Prop) (v0 : Option AV) (sd : D),ys.length<=32->(∀ ρ,K' (((ys.filter fun v=>if neg then !decide (v∈ws) else decide (v∈ws)).map wdD).map AV.d) ρ ω) ->
      dj (eK 0) (ux (aOp (aIn neg) (cV 0) (aOp aIx (cV 1) (aC (D.int 1))))) (ig (cV 0)) ((ys.map wdD).map AV.d) [] [v0,some (.d (.tup [sd,.tup (ws.map wdD),a,b]))] ω K':=fun ys neg K' v0 sd hl hk=>by
    refine FH (fun d=>if neg then !inD d (ws.map wdD) else inD d (ws.map wdD)) id (fun d hd' Q q=>?_) (fun d hd' _ Q q=>?_) (zE (m:=0) (by rw [List.length_map];omega)) (fun ρ=>?_)
    · walk_at "ab"
      exact ⟨by omega,q⟩
    · walk_at "ab"
      exact q
    · have : ((ys.map wdD).filter fun d=>if neg then !inD d (ws.map wdD) else inD d (ws.map wdD)).map id = (ys.filter fun v=>if neg then !decide (v∈ws) else decide (v∈ws)).map wdD:=by
        rw [List.map_id,List.filter_map]
        congr 2
        funext v
        simp [rg]
      rw [this]
      exact hk ρ
  cases h<;>simp only [goF,goS,if_true,if_false,Bool.false_eq_true,wwD] at k ⊢<;>walk_at "ab"
  · refine cmp q.2 true _ _ _ h2 fun ρ=>⟨_,bn _,?_⟩
    walk_at "ab"
    refine cmp q.2 false _ _ _ h2 fun ρ=>⟨_,bn _,?_⟩
    walk_at "ab"
    rw [av]
    exact k
  · refine cmp q.1 true _ _ _ h1 fun ρ=>⟨_,bn _,?_⟩
    walk_at "ab"
    refine cmp q.1 false _ _ _ h1 fun ρ=>⟨_,bn _,?_⟩
    walk_at "ab"
    rw [av]
    exact k
structure En where
  bits : List Int
  at_ : Int
  q : WW
def En.d (e : En) : D:=.tup [.lst (e.bits.map D.int),.int e.at_,.tup (e.q.1.map wdD),.tup (e.q.2.map wdD)]
def bM (bs : List Int) (q : WW) : Ta->List En
  | .en i=>[⟨bs,i,q⟩]
  | .nd h ws a b=>bM (bs ++ [0]) (goF h ws q) a ++ bM (bs ++ [1]) (goS h ws q) b
structure Wt where
  bits : List Int
  u : Ta
  q : WW
def Wt.d (e : Wt) : D:=.tup [.lst (e.bits.map D.int),e.u.d,.tup (e.q.1.map wdD),.tup (e.q.2.map wdD)]
def Wt.ends (e : Wt) : List En:=bM e.bits e.q e.u
def wsz : List Wt->Nat
  | []=>0
  | e :: r=>e.u.size + wsz r
theorem e9 : ∀ a b : List Wt,wsz (a ++ b) = wsz a + wsz b
  | [],b=>by simp [wsz]
  | e :: a,b=>by simp only [List.cons_append,wsz,e9 a b];omega
theorem zW : ∀ a : List Wt,a.length<=wsz a
  | []=>by simp [wsz]
  | e :: a=>by
    have:=zW a
    have : 1<=e.u.size:=by cases e.u<;>simp only [Ta.size]<;>omega
    simp only [wsz,List.length_cons];omega
theorem oZ : ∀ (u : Ta) (bs : List Int) (q : WW),(bM bs q u).length = u.lvs
  | .en i,_,_=>rfl
  | .nd h ws a b,bs,q=>by simp only [bM,List.length_append,oZ a,oZ b,Ta.lvs]
def okW (n : Nat) (m : Nat) (e : Wt) : Prop:=e.u.ok n/\Ww n e.q/\e.bits.length + e.u.dp<=m
def AN : ASp:=fun xs ω Q=>∃ (n : Nat) (q : WW) (u : Ta),xs = [.d (csD n q.1 q.2),.d u.d]/\n<=5/\Ww n q/\u.ok n/\u.dp<=400/\u.size<=400/\Q (.d (.lst ((bM [] q u).map En.d))) ω
theorem Fv (T : Txt K mg t) : aJ P w K mg base CX0 2 t.c8 t.lE ["case","talk"] (aN AN):=by
  have G_went_on : aJ P w K mg base CX0 1 t.cK t.ie ["turn","yes","no"] (aN vt):=zU T
  refine T.B6.okD cS (fun xs ω Q h=>by obtain ⟨n,q,u,rfl,_⟩:=h;rfl) (fun cdv A outer s H E hr=>⟨_,_,(ah (aL (i:=2) cS.nd rfl (Or.inl rfl) (dr af))
      (ah (aL (i:=3) cS.nd rfl (Or.inl rfl) (dr (be (aR (Ff (dr af) (aa (pv 1) (aa (ar (aj K rfl) (pv 0) ag (fun _ _=>rfl)) (aa (ar (aj K rfl) (pv 0) ag (fun _ _=>rfl)) af))))) af)))
      (ah (mY PassesOwn.never (bp K rfl (pv 3) (fun _=>rfl)) (ah (mR (hG PySem.F.plainAttrs_list PySem.F.slot_list_pop PySem.F.type_list_pop hU (pv 3)) (d7 K rfl (n:=4) rfl (a8 (aG (i:=4) cS.nd rfl (Or.inl rfl)) (a8 (aG (i:=5) cS.nd rfl (Or.inl rfl)) (a8 (aG (i:=6) cS.nd rfl (Or.inl rfl)) (a8 (aG (i:=7) cS.nd rfl (Or.inl rfl)) dU))))))
      (al (bz (aE (bd hr.u100) (ar (aj K rfl) (pv 5) ag (fun _ _=>rfl)) aP (aK _)) (al (bZ (eQ PySem.F.plainAttrs_list PySem.F.slot_list_append PySem.F.type_list_append bg (pv 2) (be (aR (aa (pv 4) (aa (ar (aj K rfl) (pv 5) ag (fun _ _=>rfl)) (aa (pv 6) (aa (pv 7) af))))) af)))) (ah (mR (am G_went_on (hr.mono (by omega)) (by rfl) T.uJ T.uF T.uk .nil aB (aa (pv 5) (aa (pv 6) (aa (pv 7) af)))) (d7 K rfl (n:=2) rfl (a8 (aG (i:=8) cS.nd rfl (Or.inl rfl)) (a8 (aG (i:=9) cS.nd rfl (Or.inl rfl)) dU))))
      (ah (bZ (eQ PySem.F.plainAttrs_list PySem.F.slot_list_append PySem.F.type_list_append bg (pv 3) (be (aR (aa (bb (aW cH (aW bU cI)) (pv 4) (dr (aA ag af))) (aa (ar (aj K rfl) (pv 5) ag (fun _ _=>rfl)) (aa (ar (aj K rfl) (pv 9) ag (fun _ _=>rfl)) (aa (ar (aj K rfl) (pv 9) ag (fun _ _=>rfl)) af))))) af)))
      (al (bZ (eQ PySem.F.plainAttrs_list PySem.F.slot_list_append PySem.F.type_list_append bg (pv 3) (be (aR (aa (bb (aW cH (aW bU cI)) (pv 4) (dr (aA ag af))) (aa (ar (aj K rfl) (pv 5) ag (fun _ _=>rfl)) (aa (ar (aj K rfl) (pv 8) ag (fun _ _=>rfl)) (aa (ar (aj K rfl) (pv 8) ag (fun _ _=>rfl)) af))))) af))))))))))
      (al (aD (pv 2)))))),(au (aO (gR ai) ao)
      (au (aO (gR (ac (a9 (ac (sR ai) (ac ae (ac (ap aM ae ak) (ac (ap aM ae ak) ai))))) ai)) ao)
      (au (qF (eY ae) (au (aO (lW ae) (jG (bG ao (bG ao (bG ao (bG ao jH))))))
      (cQ (aQ (ap bj (ap aM ae ak) bc)) (cX (bI ae (ac (a9 (ac ae (ac (ap aM ae ak) (ac ae (ac ae ai))))) ai))) (au (aO (aq (ac ae (ac ae (ac ae ai)))) (jG (bG ao (bG ao jH))))
      (au (cX (bI ae (ac (a9 (ac (ap eD ae (sR (ac ak ai))) (ac (ap aM ae ak) (ac (ap aM ae ak) (ac (ap aM ae ak) ai))))) ai)))
      (cX (bI ae (ac (a9 (ac (ap eD ae (sR (ac ak ai))) (ac (ap aM ae ak) (ac (ap aM ae ak) (ac (ap aM ae ak) ai))))) ai))))))))
      (aT Dg)))),fun xs ω Q h=>?_⟩)
  obtain ⟨n,q,u,rfl,hn,hq,hu,hdp,hsz,k⟩:=h
  simp only [csD]
  walk_at "ab"
  intro l1 hl1 l2 hl2
  obtain ⟨n21,hl2⟩:=nP hl2
  have n12:=Ne.symm n21
  obtain ⟨Pv,iP⟩:=Gd fun j ρ ω'=>∃ (W : List Wt) (es : List En) (v4 v5 v6 v7 v8 v9 : Option AV),ρ = [some (.d (csD n q.1 q.2)),some (.d u.d),some (.r (.ref l1)),some (.r (.ref l2)),v4,v5,v6,v7,v8,v9]/\ω' = om2 ω l1 l2 (.own ((es.map En.d).map AV.d)) (.own ((W.map Wt.d).map AV.d))/\(∀ e∈W,okW n u.dp e) /\
    es ++ (W.reverse.flatMap Wt.ends) = bM [] q u/\es.length + wsz W<=u.size/\j = wsz W
  refine ⟨Pv,⟨_,(iP _ _ _).mpr ⟨[⟨[],u,q⟩],[],_,_,_,_,_,_,rfl,rfl,by simpa [okW] using ⟨hu,hq⟩,by simp [Wt.ends],by simp [wsz],rfl⟩⟩,fun j ρ ω' h=>?_⟩
  obtain ⟨W,es,v4,v5,v6,v7,v8,v9,rfl,rfl,hW,hE,hS,rfl⟩:=(iP _ _ _).mp h
  clear h
  rcases List.eq_nil_or_concat W with rfl | ⟨W',e,rfl⟩
  · simp only [List.map_nil]
    walk_at "ab"
    simp only [dQ]
    walk_at "ab"
    simp only [List.isEmpty_nil]
    walk_at "ab"
    simp only [l5 n12]
    walk_at "ab"
    simp only [List.reverse_nil,List.flatMap_nil,List.append_nil] at hE
    subst hE
    rw [jv]
    · exact k
    · exact ((Ex.refl ω).over hl1).over hl2 |>.over hl1
  · rw [List.concat_eq_append] at hW hE hS ⊢
    have hWl:=zW W'
    rw [e9] at hS
    simp only [List.map_append,List.map_cons,List.map_nil]
    obtain ⟨bs,u2,q2⟩:=e
    obtain ⟨hu2,hq2,hb2⟩:=hW _ (List.mem_append_right _ (List.mem_singleton.mpr rfl))
    have hW' : ∀ e∈W',okW n u.dp e:=fun e he=>hW e (List.mem_append_left _ he)
    simp only [List.reverse_append,List.reverse_cons,List.reverse_nil,List.nil_append,List.flatMap_append,List.flatMap_cons,List.flatMap_nil,List.append_nil,Wt.ends,List.cons_append] at hE
    simp only [Wt.d]
    cases u2 with
    | en i =>
      simp only [Ta.d]
      walk_at "ab"
      simp only [dQ,eO]
      walk_at "ab"
      simp only [l5 n12,jV n12]
      walk_at "ab"
      refine ⟨Pv (wsz W'),fun ρ' ω' h=>⟨_,by rw [e9];simp [wsz,Ta.size],h⟩,g6 (m:=0) (by omega),?_⟩
      refine (iP _ _ _).mpr ⟨W',es ++ [⟨bs,i,q2⟩],_,_,_,_,_,_,rfl,by simp [En.d],hW',?_,?_,rfl⟩
      · rw [← hE];simp [bM]
      · simp [wsz,Ta.size] at hS ⊢;omega
    | nd hh ws a b =>
      simp only [Ta.d]
      have hE2 : ¬ (if hh then ("yes" : Str) else ("no" : Str)) = "end":=by cases hh<;>decide +kernel
      walk_at "ab"
      simp only [dQ,eO]
      walk_at "ab"
      simp only [hE2,if_false]
      refine ⟨Pv (wsz (W' ++ [⟨bs ++ [1],b,goS hh ws q2⟩,⟨bs ++ [0],a,goF hh ws q2⟩])),fun ρ' ω' h=>⟨_,by rw [e9,e9];simp only [wsz,Ta.size];omega,h⟩,hh,ws,a.d,b.d,q2,n,rfl,hn,hq2,?_⟩
      have hb3 : bs.length + (Ta.nd hh ws a b).dp<=u.dp:=hb2
      simp only [Ta.dp] at hb3
      have hbl : bs.length<=400:=by omega
      simp only [wwD]
      walk_at "ab"
      simp only [dQ,eO]
      walk_at "ab"
      have hsz2 : W'.length + 1 < sizeLine:=g6 (m:=0) (by omega)
      refine ⟨zE (m:=0) (by omega),g6 (m:=0) (by omega),zE (m:=0) (by omega),?_⟩
      refine ⟨hsz2,?_⟩
      refine (iP _ _ _).mpr ⟨W' ++ [⟨bs ++ [1],b,goS hh ws q2⟩,⟨bs ++ [0],a,goF hh ws q2⟩],es,_,_,_,_,_,_,rfl,by simp [Wt.d],?_,?_,?_,rfl⟩
      · intro e he
        rcases List.mem_append.mp he with h | h
        · exact hW' e h
        · rcases List.mem_cons.mp h with rfl | h
          · exact ⟨hu2.2.2,hq2.s,by simp only [List.length_append,List.length_cons,List.length_nil];omega⟩
          · rw [List.mem_singleton.mp h]
            exact ⟨hu2.2.1,hq2.f,by simp only [List.length_append,List.length_cons,List.length_nil];omega⟩
      · rw [← hE];simp [bM,Wt.ends]
      · rw [e9];simp only [wsz,Ta.size] at hS ⊢;omega
end
section
variable {P : Program} {w : World} {K : PySem.W.Frag} {mg : Str->Option Value} {base : Heap} {t : Adr}
def has (q : WW) : Bool:=!q.1.isEmpty && !q.2.isEmpty
def Ec : ASp:=fun xs ω Q=>∃ q : WW,xs = [.d (wwD q)]/\Q (.d (.bl (has q))) ω
theorem HR (T : Txt K mg t) : aJ P w K mg base CX0 1 t.cf t.gH ["words"] (aN Ec):=by
  refine T.xV.okD vE (fun xs ω Q h=>by obtain ⟨q,rfl,_⟩:=h;rfl) (fun cdv A outer s H E hr=>⟨_,_,(al (aD (m7 K rfl (cr j3 (bA (cm K rfl) (by rfl) T.jI (by kernel_rfl) (aa (ar (aj K rfl) (pv 0) ag (fun _ _=>rfl)) af)) ag (aK _)) (pC (cr j3 (bA (cm K rfl) (by rfl) T.jI (by kernel_rfl) (aa (ar (aj K rfl) (pv 0) ag (fun _ _=>rfl)) af)) ag (aK _)))))),(aT (r9 (ap fO (eJ mU (ac (ap aM ae ak) ai)) ak) (ap fO (eJ mU (ac (ap aM ae ak) ai)) ak))),fun xs ω Q h=>?_⟩)
  obtain ⟨q,rfl,k⟩:=h
  simp only [wwD]
  walk_at "ab"
  rw [av]
  have e1 : ∀ ws : List (List Int),(decide (0 < (ws.length : Int))) = !ws.isEmpty:=fun ws=>by cases ws<;>simp<;>omega
  by_cases h : 0 < (q.1.length : Int)
  · rw [if_pos h]
    have e : (!q.1.isEmpty) = true:=by rw [← e1];exact decide_eq_true h
    unfold has at k
    rw [e,Bool.true_and,← e1] at k
    exact k
  · rw [if_neg h]
    have e : (!q.1.isEmpty) = false:=by rw [← e1];exact decide_eq_false h
    unfold has at k
    rw [e,Bool.false_and] at k
    rw [decide_eq_false h]
    exact k
def c5 : Ta->WW->Ta
  | .en i,_=>.en i
  | .nd h ws a b,q=>if has (goF h ws q) then (if has (goS h ws q) then .nd h ws (c5 a (goF h ws q)) (c5 b (goS h ws q)) else c5 a q) else c5 b q
def eT : Ta->WW->List Ta
  | .en i,_=>[.en i]
  | .nd h ws a b,q=>if has (goF h ws q) then (if has (goS h ws q) then .nd h ws a b :: (eT b (goS h ws q) ++ eT a (goF h ws q)) else eT a q) else eT b q
theorem ip : ∀ (u : Ta) (q : WW),(eT u q).length<=u.size
  | .en i,_=>Nat.le_refl _
  | .nd h ws a b,q=>by
    have h1:=ip a q
    have h2:=ip b q
    have h3:=ip a (goF h ws q)
    have h4:=ip b (goS h ws q)
    simp only [eT,Ta.size]
    split
    · split
      · simp;omega
      · omega
    · omega
theorem jt {n : Nat} : ∀ {u : Ta} (q : WW),u.ok n->(c5 u q).ok n/\(c5 u q).dp<=u.dp/\(c5 u q).size<=u.size
  | .en i,_,h=>⟨h,Nat.le_refl _,Nat.le_refl _⟩
  | .nd hh ws a b,q,h=>by
    obtain ⟨a1,a2,a3⟩:=jt (goF hh ws q) h.2.1
    obtain ⟨b1,b2,b3⟩:=jt (goS hh ws q) h.2.2
    obtain ⟨c1,c2,c3⟩:=jt q h.2.1
    obtain ⟨d1,d2,d3⟩:=jt q h.2.2
    simp only [c5,Ta.dp,Ta.size]
    split
    · split
      · exact ⟨⟨h.1,a1,b1⟩,by simp only [Ta.dp];omega,by simp only [Ta.size];omega⟩
      · exact ⟨c1,by omega,by omega⟩
    · exact ⟨d1,by omega,by omega⟩
def mX : List Ta->List Ta->List Ta
  | [],st=>st
  | .en i :: r,st=>mX r (st ++ [.en i])
  | .nd h ws _ _ :: r,st=>match st.reverse with
    | y :: x :: bv=>mX r (bv.reverse ++ [.nd h ws x y])
    | _=>[]
theorem iy : ∀ (u : Ta) (q : WW) (r st : List Ta),mX ((eT u q).reverse ++ r) st = mX r (st ++ [c5 u q])
  | .en i,_,r,st=>by simp [eT,mX,c5]
  | .nd h ws a b,q,r,st=>by
    simp only [eT,c5]
    split
    · split
      · simp only [List.reverse_cons,List.reverse_append,List.append_assoc,List.singleton_append,List.cons_append,List.nil_append]
        rw [iy a,iy b]
        simp [mX]
      · exact iy a q r st
    · exact iy b q r st
structure Wc where
  u : Ta
  q : WW
def Wc.d (e : Wc) : D:=.tup [e.u.d,.tup (e.q.1.map wdD),.tup (e.q.2.map wdD)]
def wcs : List Wc->Nat
  | []=>0
  | e :: r=>e.u.size + wcs r
theorem fb : ∀ a b : List Wc,wcs (a ++ b) = wcs a + wcs b
  | [],b=>by simp [wcs]
  | e :: a,b=>by simp only [List.cons_append,wcs,fb a b];omega
theorem Ap : ∀ a : List Wc,a.length<=wcs a
  | []=>by simp [wcs]
  | e :: a=>by
    have:=Ap a
    have : 1<=e.u.size:=by cases e.u<;>simp only [Ta.size]<;>omega
    simp only [wcs,List.length_cons];omega
def A4 : ASp:=fun xs ω Q=>∃ (n : Nat) (q : WW) (u : Ta),xs = [.d (csD n q.1 q.2),.d u.d]/\n<=5/\Ww n q/\u.ok n/\u.size<=400/\Q (.d (.lst ((eT u q).reverse.map Ta.d))) ω
theorem Fj (T : Txt K mg t) : aJ P w K mg base CX0 2 t.bC t.fv ["case","talk"] (aN A4):=by
  have G_went_on : aJ P w K mg base CX0 1 t.cK t.ie ["turn","yes","no"] (aN vt):=zU T
  have G_has_pairs : aJ P w K mg base CX0 1 t.cf t.gH ["words"] (aN Ec):=HR T
  refine T.tI.okD bR (fun xs ω Q h=>by obtain ⟨n,q,u,rfl,_⟩:=h;rfl) (fun cdv A outer s H E hr=>⟨_,_,(ah (aL (i:=2) bR.nd rfl (Or.inl rfl) (dr af))
      (ah (aL (i:=3) bR.nd rfl (Or.inl rfl) (dr (be (aR (aa (pv 1) (aa (ar (aj K rfl) (pv 0) ag (fun _ _=>rfl)) (aa (ar (aj K rfl) (pv 0) ag (fun _ _=>rfl)) af)))) af)))
      (ah (mY PassesOwn.never (bp K rfl (pv 3) (fun _=>rfl)) (ah (mR (hG PySem.F.plainAttrs_list PySem.F.slot_list_pop PySem.F.type_list_pop hU (pv 3)) (d7 K rfl (n:=3) rfl (a8 (aG (i:=4) bR.nd rfl (Or.inl rfl)) (a8 (aG (i:=5) bR.nd rfl (Or.inl rfl)) (a8 (aG (i:=6) bR.nd rfl (Or.inl rfl)) dU)))))
      (ah (bz (aE (bd hr.u100) (ar (aj K rfl) (pv 4) ag (fun _ _=>rfl)) aP (aK _)) (ah (bZ (eQ PySem.F.plainAttrs_list PySem.F.slot_list_append PySem.F.type_list_append bg (pv 2) (aa (pv 4) af)))
      (al wM)) aY)
      (ah (mR (am G_went_on (hr.mono (by omega)) (by rfl) T.uJ T.uF T.uk .nil aB (aa (pv 4) (aa (pv 5) (aa (pv 6) af)))) (d7 K rfl (n:=2) rfl (a8 (aG (i:=7) bR.nd rfl (Or.inl rfl)) (a8 (aG (i:=8) bR.nd rfl (Or.inl rfl)) dU))))
      (al (bz (gW (bp K rfl (am G_has_pairs (hr.mono (by omega)) (by rfl) T.pI T.pL T.pQ .nil aB (aa (pv 7) af)) (fun _=>rfl))) (al (bZ (eQ PySem.F.plainAttrs_list PySem.F.slot_list_append PySem.F.type_list_append bg (pv 3) (be (aR (aa (ar (aj K rfl) (pv 4) ag (fun _ _=>rfl)) (aa (pv 5) (aa (pv 6) af)))) af)))) (al (bz (gW (bp K rfl (am G_has_pairs (hr.mono (by omega)) (by rfl) T.pI T.pL T.pQ .nil aB (aa (pv 8) af)) (fun _=>rfl))) (al (bZ (eQ PySem.F.plainAttrs_list PySem.F.slot_list_append PySem.F.type_list_append bg (pv 3) (be (aR (aa (ar (aj K rfl) (pv 4) ag (fun _ _=>rfl)) (aa (pv 5) (aa (pv 6) af)))) af)))) (ah (bZ (eQ PySem.F.plainAttrs_list PySem.F.slot_list_append PySem.F.type_list_append bg (pv 2) (aa (pv 4) af)))
      (ah (bZ (eQ PySem.F.plainAttrs_list PySem.F.slot_list_append PySem.F.type_list_append bg (pv 3) (be (aR (aa (ar (aj K rfl) (pv 4) ag (fun _ _=>rfl)) (aa (ar (aj K rfl) (pv 7) ag (fun _ _=>rfl)) (aa (ar (aj K rfl) (pv 7) ag (fun _ _=>rfl)) af)))) af)))
      (al (bZ (eQ PySem.F.plainAttrs_list PySem.F.slot_list_append PySem.F.type_list_append bg (pv 3) (be (aR (aa (ar (aj K rfl) (pv 4) ag (fun _ _=>rfl)) (aa (ar (aj K rfl) (pv 8) ag (fun _ _=>rfl)) (aa (ar (aj K rfl) (pv 8) ag (fun _ _=>rfl)) af)))) af))))))))))))))
      (al (aD (zz K rfl (pv 2) (wZ rC ag))))))),(au (aO (gR ai) ao)
      (au (aO (gR (ac (a9 (ac ae (ac (ap aM ae ak) (ac (ap aM ae ak) ai)))) ai)) ao)
      (au (qF (eY ae) (au (aO (lW ae) (jG (bG ao (bG ao (bG ao jH)))))
      (au (cQ (aQ (ap bj (ap aM ae ak) bc)) (au (cX (bI ae (ac ae ai)))
      Ig) bf)
      (au (aO (aq (ac ae (ac ae (ac ae ai)))) (jG (bG ao (bG ao jH))))
      (cQ (ma (eY (aq (ac ae ai)))) (cX (bI ae (ac (a9 (ac (ap aM ae ak) (ac ae (ac ae ai)))) ai))) (cQ (ma (eY (aq (ac ae ai)))) (cX (bI ae (ac (a9 (ac (ap aM ae ak) (ac ae (ac ae ai)))) ai))) (au (cX (bI ae (ac ae ai)))
      (au (cX (bI ae (ac (a9 (ac (ap aM ae ak) (ac (ap aM ae ak) (ac (ap aM ae ak) ai)))) ai)))
      (cX (bI ae (ac (a9 (ac (ap aM ae ak) (ac (ap aM ae ak) (ac (ap aM ae ak) ai)))) ai)))))))))))
      (aT (GY ae))))),fun xs ω Q h=>?_⟩)
  obtain ⟨n,q,u,rfl,hn,hq,hu,hsz,k⟩:=h
  simp only [csD]
  walk_at "ab"
  intro l1 hl1 l2 hl2
  obtain ⟨n21,hl2⟩:=nP hl2
  have n12:=Ne.symm n21
  obtain ⟨Pv,iP⟩:=Gd fun j ρ ω'=>∃ (W : List Wc) (es : List Ta) (v4 v5 v6 v7 v8 : Option AV),ρ = [some (.d (csD n q.1 q.2)),some (.d u.d),some (.r (.ref l1)),some (.r (.ref l2)),v4,v5,v6,v7,v8]/\ω' = om2 ω l1 l2 (.own ((es.map Ta.d).map AV.d)) (.own ((W.map Wc.d).map AV.d))/\(∀ e∈W,e.u.ok n/\Ww n e.q) /\
    es ++ (W.reverse.flatMap fun e=>eT e.u e.q) = eT u q/\es.length + wcs W<=u.size/\j = wcs W
  refine ⟨Pv,⟨_,(iP _ _ _).mpr ⟨[⟨u,q⟩],[],_,_,_,_,_,rfl,rfl,by simpa using ⟨hu,hq⟩,by simp,by simp [wcs],rfl⟩⟩,fun j ρ ω' h=>?_⟩
  obtain ⟨W,es,v4,v5,v6,v7,v8,rfl,rfl,hW,hE,hS,rfl⟩:=(iP _ _ _).mp h
  clear h
  rcases List.eq_nil_or_concat W with rfl | ⟨W',e,rfl⟩
  · simp only [List.map_nil]
    walk_at "ab"
    simp only [dQ]
    walk_at "ab"
    simp only [List.isEmpty_nil]
    walk_at "ab"
    simp only [l5 n12]
    walk_at "ab"
    simp only [List.reverse_nil,List.flatMap_nil,List.append_nil] at hE
    subst hE
    have eo : ∀ A B,(om2 ω l1 l2 A B).only ω = ω:=fun A B=>jv (((Ex.refl ω).over hl1).over hl2)
    rw [eo,← List.map_reverse]
    exact k
  · rw [List.concat_eq_append] at hW hE hS ⊢
    have hWl:=Ap W'
    rw [fb] at hS
    simp only [List.map_append,List.map_cons,List.map_nil]
    obtain ⟨u2,q2⟩:=e
    obtain ⟨hu2,hq2⟩:=hW _ (List.mem_append_right _ (List.mem_singleton.mpr rfl))
    have hW' : ∀ e∈W',e.u.ok n/\Ww n e.q:=fun e he=>hW e (List.mem_append_left _ he)
    simp only [List.reverse_append,List.reverse_cons,List.reverse_nil,List.nil_append,List.flatMap_append,List.flatMap_cons,List.flatMap_nil,List.append_nil,List.cons_append] at hE
    simp only [Wc.d]
    cases u2 with
    | en i =>
      simp only [Ta.d]
      walk_at "ab"
      simp only [dQ,eO]
      walk_at "ab"
      simp only [l5 n12,jV n12]
      walk_at "ab"
      refine ⟨Pv (wcs W'),fun ρ' ω' h=>⟨_,by rw [fb];simp [wcs,Ta.size],h⟩,g6 (m:=0) (by omega),?_⟩
      refine (iP _ _ _).mpr ⟨W',es ++ [.en i],_,_,_,_,_,rfl,by simp [Ta.d],hW',?_,?_,rfl⟩
      · rw [← hE];simp [eT]
      · simp [wcs,Ta.size] at hS ⊢;omega
    | nd hh ws a b =>
      simp only [Ta.d]
      have hE2 : ¬ (if hh then ("yes" : Str) else ("no" : Str)) = "end":=by cases hh<;>decide +kernel
      walk_at "ab"
      simp only [dQ,eO]
      walk_at "ab"
      simp only [hE2,if_false]
      have lt : ∀ W2 : List Wc,wcs W2<=a.size + b.size->∀ ρ' ω',Pv (wcs (W' ++ W2)) ρ' ω'->∃ m',m' < wcs (W' ++ [⟨.nd hh ws a b,q2⟩])/\Pv m' ρ' ω':=fun W2 h2 ρ' ω' h=>⟨_,by rw [fb,fb];simp only [wcs,Ta.size];omega,h⟩
      refine ⟨fun ρ' ω'=>∃ m',m' < wcs (W' ++ [⟨.nd hh ws a b,q2⟩])/\Pv m' ρ' ω',fun ρ' ω' h=>h,hh,ws,a.d,b.d,q2,n,rfl,hn,hq2,?_⟩
      simp only [eT] at hE
      walk_at "ab"
      refine ⟨_,rfl,?_⟩
      walk_at "ab"
      have up : ∀ (W2 : List Wc) (es2 : List Ta) (v4 v5 v6 v7 v8 : Option AV),wcs W2<=a.size + b.size->es2.length<=es.length + 1->(∀ e∈W2,e.u.ok n/\Ww n e.q)->es2 ++ (W2.reverse.flatMap fun e=>eT e.u e.q) ++ (W'.reverse.flatMap fun e=>eT e.u e.q) = eT u q ->
          ∃ m',m' < wcs (W' ++ [⟨.nd hh ws a b,q2⟩])/\Pv m' [some (.d (csD n q.1 q.2)),some (.d u.d),some (.r (.ref l1)),some (.r (.ref l2)),v4,v5,v6,v7,v8] (om2 ω l1 l2 (.own ((es2.map Ta.d).map AV.d)) (.own (((W' ++ W2).map Wc.d).map AV.d))):=fun W2 es2 v4 v5 v6 v7 v8 h1 h2 h3 h4 =>
        lt W2 h1 _ _ ((iP _ _ _).mpr ⟨W' ++ W2,es2,_,_,_,_,_,rfl,rfl,fun e he=>(List.mem_append.mp he).elim (hW' e) (h3 e),by simpa using h4,by rw [fb];simp only [wcs,Ta.size] at hS;omega,rfl⟩)
      have s1 : W'.length < sizeLine:=g6 (m:=0) (by omega)
      have s2 : W'.length + 1 < sizeLine:=g6 (m:=0) (by simp only [wcs,Ta.size] at hS;have:=Ta.fH a;have:=Ta.fH b;omega)
      have s3 : es.length < sizeLine:=g6 (m:=0) (by omega)
      cases hf : has (goF hh ws q2) with
      | false =>
        simp only [hf,if_false,Bool.false_eq_true] at hE
        walk_at "ab"
        simp only [dQ,eO]
        walk_at "ab"
        refine ⟨s1,?_⟩
        have:=up [⟨b,q2⟩] es (some (AV.d (Ta.nd hh ws a b).d)) (some (.d (.tup (q2.1.map wdD)))) (some (.d (.tup (q2.2.map wdD)))) (some (.d (wwD (goF hh ws q2)))) (some (.d (wwD (goS hh ws q2)))) (by simp [wcs]) (by omega) (by simpa using ⟨hu2.2.2,hq2⟩) (by rw [← hE];simp)
        simpa [Wc.d,Ta.d] using this
      | true =>
        simp only [hf,if_true] at hE
        walk_at "ab"
        refine ⟨_,rfl,?_⟩
        walk_at "ab"
        cases hg : has (goS hh ws q2) with
        | false =>
          simp only [hg,if_false,Bool.false_eq_true] at hE
          walk_at "ab"
          simp only [dQ,eO]
          walk_at "ab"
          refine ⟨s1,?_⟩
          have:=up [⟨a,q2⟩] es (some (AV.d (Ta.nd hh ws a b).d)) (some (.d (.tup (q2.1.map wdD)))) (some (.d (.tup (q2.2.map wdD)))) (some (.d (wwD (goF hh ws q2)))) (some (.d (wwD (goS hh ws q2)))) (by simp [wcs]) (by omega) (by simpa using ⟨hu2.2.1,hq2⟩) (by rw [← hE];simp)
          simpa [Wc.d,Ta.d] using this
        | true =>
          simp only [hg,if_true] at hE
          walk_at "ab"
          simp only [l5 n12,jV n12]
          simp only [wwD]
          walk_at "ab"
          simp only [dQ,eO]
          walk_at "ab"
          refine ⟨s3,s1,s2,?_⟩
          have:=up [⟨a,goF hh ws q2⟩,⟨b,goS hh ws q2⟩] (es ++ [.nd hh ws a b]) (some (AV.d (Ta.nd hh ws a b).d)) (some (.d (.tup (q2.1.map wdD)))) (some (.d (.tup (q2.2.map wdD)))) (some (.d (wwD (goF hh ws q2)))) (some (.d (wwD (goS hh ws q2)))) (by simp [wcs]) (by simp) (by
            intro e he
            rcases List.mem_cons.mp he with rfl | h
            · exact ⟨hu2.2.1,hq2.f⟩
            · rw [List.mem_singleton.mp h];exact ⟨hu2.2.2,hq2.s⟩) (by rw [← hE];simp)
          simpa [Wc.d,Ta.d,wwD] using this
def yM : ASp:=fun xs ω Q=>∃ (n : Nat) (q : WW) (u : Ta),xs = [.d (csD n q.1 q.2),.d u.d]/\n<=5/\Ww n q/\u.ok n/\u.size<=400/\Q (.d (c5 u q).d) ω
theorem Ef (T : Txt K mg t) : aJ P w K mg base CX0 3 t.kK t.ye ["case","talk"] (aN yM):=by
  have G_kept_upward : aJ P w K mg base CX0 2 t.bC t.fv ["case","talk"] (aN A4):=Fj T
  refine T.JH.okD qV (fun xs ω Q h=>by obtain ⟨n,q,u,rfl,_⟩:=h;rfl) (fun cdv A outer s H E hr=>⟨_,_,(ah (aL (i:=2) qV.nd rfl (Or.inl rfl) (dr af))
      (ah (gp PassesOwn.never rfl (bY K rfl (am G_kept_upward (hr.mono (by omega)) (by rfl) T.sX T.tz T.tq .nil aB (aa (pv 0) (aa (pv 1) af)))) (aG (i:=3) qV.nd rfl (Or.inl rfl)) (al (bz (aE (bd hr.u100) (ar (aj K rfl) (pv 3) ag (fun _ _=>rfl)) aP (aK _)) (al (bZ (eQ PySem.F.plainAttrs_list PySem.F.slot_list_append PySem.F.type_list_append bg (pv 2) (aa (pv 3) af)))) (ah (aL (i:=4) qV.nd rfl (Or.inl rfl) (hG PySem.F.plainAttrs_list PySem.F.slot_list_pop PySem.F.type_list_pop hU (pv 2)))
      (ah (aL (i:=5) qV.nd rfl (Or.inl rfl) (hG PySem.F.plainAttrs_list PySem.F.slot_list_pop PySem.F.type_list_pop hU (pv 2)))
      (al (bZ (eQ PySem.F.plainAttrs_list PySem.F.slot_list_append PySem.F.type_list_append bg (pv 2) (be (aR (aa (ar (aj K rfl) (pv 3) ag (fun _ _=>rfl)) (aa (ar (aj K rfl) (pv 3) ag (fun _ _=>rfl)) (aa (pv 5) (aa (pv 4) af))))) af)))))))))
      (al (aD (ar (aj K rfl) (pv 2) ag (fun _ _=>rfl)))))),(au (aO (gR ai) ao)
      (au (j8 (dk (aq (ac ae (ac ae ai)))) ao (cQ (aQ (ap bj (ap aM ae ak) bc)) (cX (bI ae (ac ae ai))) (au (aO (lW ae) ao)
      (au (aO (lW ae) ao)
      (cX (bI ae (ac (a9 (ac (ap aM ae ak) (ac (ap aM ae ak) (ac ae (ac ae ai))))) ai)))))))
      (aT (ap aM ae ak)))),fun xs ω Q h=>?_⟩)
  obtain ⟨n,q,u,rfl,hn,hq,hu,hsz,k⟩:=h
  have hlen:=ip u q
  have hw0 : mX (eT u q).reverse [] = [c5 u q]:=by have:=iy u q [] [];simpa [mX] using this
  generalize hR : (eT u q).reverse = R at hw0
  have hRl : R.length<=400:=by rw [← hR,List.length_reverse];omega
  walk_at "ab"
  intro l hl
  refine ⟨n,q,u,rfl,hn,hq,hu,hsz,?_⟩
  rw [hR]
  walk_at "ab"
  refine pW (fun i ρ ω'=>∃ (st : List Ta) (v3 v4 v5 : Option AV),ρ = [some (.d (csD n q.1 q.2)),some (.d u.d),some (.r (.ref l)),v3,v4,v5]/\ω' = ω.put l (.own ((st.map Ta.d).map AV.d))/\st.length<=i/\mX (R.drop i) st = [c5 u q]) ⟨[],_,_,_,rfl,rfl,Nat.le_refl _,by simpa using hw0⟩ ?_ ?_
  · rintro i d ρ ω' N hd ⟨st,v3,v4,v5,rfl,rfl,hst,hwk⟩ kN
    obtain ⟨v,hv,rfl⟩:=eV hd
    obtain ⟨hi,ev⟩:=List.getElem?_eq_some_iff.mp hv
    rw [List.drop_eq_getElem_cons hi,ev] at hwk
    have hs1 : st.length < sizeLine:=g6 (m:=0) (by omega)
    cases v with
    | en j =>
      simp only [Ta.d]
      walk_at "ab"
      exact ⟨hs1,kN _ _ ⟨st ++ [.en j],_,_,_,rfl,by simp [Ta.d],by simp;omega,by simpa [mX] using hwk⟩⟩
    | nd hh ws a b =>
      have hE2 : ¬ (if hh then ("yes" : Str) else ("no" : Str)) = "end":=by cases hh<;>decide +kernel
      rcases List.eq_nil_or_concat st with rfl | ⟨st1,y,rfl⟩
      · simp [mX] at hwk
      rw [List.concat_eq_append] at *
      rcases List.eq_nil_or_concat st1 with rfl | ⟨st2,x,rfl⟩
      · simp [mX] at hwk
      rw [List.concat_eq_append] at *
      simp only [Ta.d,List.map_append,List.map_cons,List.map_nil]
      walk_at "ab"
      simp only [hE2,if_false]
      simp only [List.length_append,List.length_cons,List.length_nil] at hst
      refine ⟨g6 (m:=0) (by omega),kN _ _ ⟨st2 ++ [.nd hh ws x y],_,_,_,rfl,by simp [Ta.d],by simp;omega,by simpa [mX] using hwk⟩⟩
  · rintro ρ ω' ⟨st,v3,v4,v5,rfl,rfl,hst,hwk⟩
    rw [List.length_map,List.drop_length] at hwk
    simp only [mX] at hwk
    subst hwk
    walk_at "ab"
    rw [jv ((Ex.refl ω).new hl)]
    exact k
end
section
variable {P : Program} {w : World} {K : PySem.W.Frag} {mg : Str->Option Value} {base : Heap} {t : Adr}
theorem d6 {q : WW} : has q = true↔q.1≠[]/\q.2≠[]:=by
  unfold has
  rw [Bool.and_eq_true]
  constructor
  · rintro ⟨a,b⟩
    exact ⟨fun e=>by rw [e] at a;simp at a,fun e=>by rw [e] at b;simp at b⟩
  · rintro ⟨a,b⟩
    exact ⟨by cases h : q.1<;>simp_all,by cases h : q.2<;>simp_all⟩
theorem C2 {h : Bool} {ws : List (List Int)} {q : WW} (hq : has q = true) (hF : has (goF h ws q) = false) : goS h ws q = q:=by
  obtain ⟨h1,h2⟩:=d6.mp hq
  have hn : ¬ (has (goF h ws q) = true):=by rw [hF];simp
  rw [d6] at hn
  cases h with
  | true =>
    simp only [goF,goS,if_true] at hn ⊢
    have : (q.1.filter fun v=>!decide (v∈ws)) = []:=Classical.byContradiction fun z=>hn ⟨z,h2⟩
    have e : (q.1.filter fun v=>decide (v∈ws)) = q.1:=List.filter_eq_self.mpr fun v hv=>by
      have:=List.filter_eq_nil_iff.mp this v hv
      simpa using this
    rw [e]
  | false =>
    simp only [goF,goS,if_false,Bool.false_eq_true] at hn ⊢
    have : (q.2.filter fun v=>!decide (v∈ws)) = []:=Classical.byContradiction fun z=>hn ⟨h1,z⟩
    have e : (q.2.filter fun v=>decide (v∈ws)) = q.2:=List.filter_eq_self.mpr fun v hv=>by
      have:=List.filter_eq_nil_iff.mp this v hv
      simpa using this
    rw [e]
theorem EA {h : Bool} {ws : List (List Int)} {q : WW} (hq : has q = true) (hS : has (goS h ws q) = false) : goF h ws q = q:=by
  obtain ⟨h1,h2⟩:=d6.mp hq
  have hn : ¬ (has (goS h ws q) = true):=by rw [hS];simp
  rw [d6] at hn
  cases h with
  | true =>
    simp only [goF,goS,if_true] at hn ⊢
    have : (q.1.filter fun v=>decide (v∈ws)) = []:=Classical.byContradiction fun z=>hn ⟨z,h2⟩
    have e : (q.1.filter fun v=>!decide (v∈ws)) = q.1:=List.filter_eq_self.mpr fun v hv=>by
      have:=List.filter_eq_nil_iff.mp this v hv
      simpa using this
    rw [e]
  | false =>
    simp only [goF,goS,if_false,Bool.false_eq_true] at hn ⊢
    have : (q.2.filter fun v=>decide (v∈ws)) = []:=Classical.byContradiction fun z=>hn ⟨h1,z⟩
    have e : (q.2.filter fun v=>!decide (v∈ws)) = q.2:=List.filter_eq_self.mpr fun v hv=>by
      have:=List.filter_eq_nil_iff.mp this v hv
      simpa using this
    rw [e]
theorem iG : ∀ (u : Ta) (bs : List Int) (q : WW),has q = true->∀ e∈bM bs q (c5 u q),has e.q = true
  | .en i,bs,q,h,e,he=>by simp only [c5,bM,List.mem_singleton] at he;rw [he];exact h
  | .nd hh ws a b,bs,q,h,e,he=>by
    cases hF : has (goF hh ws q) with
    | false=>simp only [c5,hF,if_false,Bool.false_eq_true] at he;exact iG b bs q h e he
    | true =>
      cases hS : has (goS hh ws q) with
      | false=>simp only [c5,hF,hS,if_true,if_false,Bool.false_eq_true] at he;exact iG a bs q h e he
      | true =>
        simp only [c5,hF,hS,if_true,bM] at he
        rcases List.mem_append.mp he with he | he
        · exact iG a _ _ hF e he
        · exact iG b _ _ hS e he
theorem DQ {h : Bool} {ws : List (List Int)} {q : WW} {y z : List Int} (hy : y∈q.1) (hz : z∈q.2) :
    (Ta.bit y z h ws = true->y∈(goS h ws q).1/\z∈(goS h ws q).2)/\(Ta.bit y z h ws = false->y∈(goF h ws q).1/\z∈(goF h ws q).2):=by
  cases h<;>simp only [Ta.bit,goF,goS,if_true,if_false,Bool.false_eq_true,decide_eq_true_eq,decide_eq_false_iff_not,List.mem_filter,hy,hz,true_and,and_true,Bool.not_eq_true',imp_self,and_self]
theorem nV {y z : List Int} : ∀ (u : Ta) (q : WW),y∈q.1->z∈q.2->Ta.fin y z (c5 u q) = Ta.fin y z u
  | .en i,q,hy,hz=>by simp [c5]
  | .nd hh ws a b,q,hy,hz=>by
    have h : has q = true:=d6.mpr ⟨List.ne_nil_of_mem hy,List.ne_nil_of_mem hz⟩
    obtain ⟨b1,b2⟩:=DQ (h:=hh) (ws:=ws) hy hz
    cases hF : has (goF hh ws q) with
    | false =>
      have hb : Ta.bit y z hh ws = true:=by
        cases e : Ta.bit y z hh ws with
        | true=>rfl
        | false =>
          have:=b2 e
          have : has (goF hh ws q) = true:=d6.mpr ⟨List.ne_nil_of_mem this.1,List.ne_nil_of_mem this.2⟩
          rw [hF] at this;cases this
      simp only [c5,hF,Ta.fin,hb,if_true,if_false,Bool.false_eq_true]
      exact nV b q hy hz
    | true =>
      cases hS : has (goS hh ws q) with
      | false =>
        have hb : Ta.bit y z hh ws = false:=by
          cases e : Ta.bit y z hh ws with
          | false=>rfl
          | true =>
            have:=b1 e
            have : has (goS hh ws q) = true:=d6.mpr ⟨List.ne_nil_of_mem this.1,List.ne_nil_of_mem this.2⟩
            rw [hS] at this;cases this
        simp only [c5,hF,hS,Ta.fin,hb,if_true,if_false,Bool.false_eq_true]
        exact nV a q hy hz
      | true =>
        simp only [c5,hF,hS,if_true,Ta.fin]
        cases e : Ta.bit y z hh ws with
        | true=>simp only [if_true];exact nV b _ (b1 e).1 (b1 e).2
        | false=>simp only [if_false,Bool.false_eq_true];exact nV a _ (b2 e).1 (b2 e).2
end
section
def Fz (b : Bool) (q : WW) (i : Nat) : Bool:=(prl q.1 q.2).all fun p=>ppB b p.1 p.2 i
end
section
variable {P : Program} {w : World} {K : PySem.W.Frag} {mg : Str->Option Value} {base : Heap} {t : Adr}
theorem Io {h : Bool} {ws : List (List Int)} {q : WW} {y z : List Int} :
    (Ta.bit y z h ws = true->¬ (y∈(goF h ws q).1/\z∈(goF h ws q).2))/\(Ta.bit y z h ws = false->¬ (y∈(goS h ws q).1/\z∈(goS h ws q).2)):=by
  cases h<;>simp only [Ta.bit,goF,goS,if_true,if_false,Bool.false_eq_true,decide_eq_true_eq,decide_eq_false_iff_not,List.mem_filter,Bool.not_eq_true']
  · exact ⟨fun h1 h2=>h2.2.2 h1,fun h1 h2=>h1 h2.2.2⟩
  · exact ⟨fun h1 h2=>h2.1.2 h1,fun h1 h2=>h1 h2.1.2⟩
theorem EW {h : Bool} {ws : List (List Int)} {q : WW} : ((∀ v∈(goF h ws q).1,v∈q.1)/\∀ v∈(goF h ws q).2,v∈q.2)/\((∀ v∈(goS h ws q).1,v∈q.1)/\∀ v∈(goS h ws q).2,v∈q.2):=by
  cases h<;>simp only [goF,goS,if_true,if_false,Bool.false_eq_true,List.mem_filter]<;>exact ⟨⟨fun v hv=>by first | exact hv | exact hv.1,fun v hv=>by first | exact hv | exact hv.1⟩,fun v hv=>by first | exact hv | exact hv.1,fun v hv=>by first | exact hv | exact hv.1⟩
theorem nS : ∀ {u : Ta} {bs : List Int} {q : WW} {e : En},e∈bM bs q u->(∀ v∈e.q.1,v∈q.1)/\∀ v∈e.q.2,v∈q.2
  | .en i,bs,q,e,h=>by simp only [bM,List.mem_singleton] at h;subst h;exact ⟨fun _ h=>h,fun _ h=>h⟩
  | .nd hh ws a b,bs,q,e,h=>by
    obtain ⟨⟨f1,f2⟩,s1,s2⟩:=EW (h:=hh) (ws:=ws) (q:=q)
    rcases List.mem_append.mp h with h | h
    · obtain ⟨h1,h2⟩:=nS h
      exact ⟨fun v hv=>f1 v (h1 v hv),fun v hv=>f2 v (h2 v hv)⟩
    · obtain ⟨h1,h2⟩:=nS h
      exact ⟨fun v hv=>s1 v (h1 v hv),fun v hv=>s2 v (h2 v hv)⟩
theorem uZ {n : Nat} : ∀ {u : Ta} {bs : List Int} {q : WW} {e : En},u.ok n->Ww n q->e∈bM bs q u->(0<=e.at_/\e.at_ < n)/\Ww n e.q
  | .en i,bs,q,e,hu,hq,h=>by simp only [bM,List.mem_singleton] at h;subst h;exact ⟨hu,hq⟩
  | .nd hh ws a b,bs,q,e,hu,hq,h=>by
    rcases List.mem_append.mp h with h | h
    · exact uZ hu.2.1 hq.f h
    · exact uZ hu.2.2 hq.s h
def inE (y z : List Int) (e : En) : Bool:=decide (y∈e.q.1) && decide (z∈e.q.2)
theorem m8 {y z : List Int} : ∀ (u : Ta) (bs : List Int) (q : WW),y∈q.1->z∈q.2->∃ e : En,(bM bs q u).filter (inE y z) = [e]/\e.bits = bs ++ Ta.way y z u/\e.at_ = Ta.fin y z u/\inE y z e = true
  | .en i,bs,q,hy,hz=>by
    have : inE y z ⟨bs,i,q⟩ = true:=by simp [inE,hy,hz]
    exact ⟨⟨bs,i,q⟩,by simp [bM,this],by simp [Ta.way],rfl,this⟩
  | .nd hh ws a b,bs,q,hy,hz=>by
    obtain ⟨b1,b2⟩:=DQ (h:=hh) (ws:=ws) hy hz
    obtain ⟨c1,c2⟩:=Io (h:=hh) (ws:=ws) (q:=q) (y:=y) (z:=z)
    have nil : ∀ (v : Ta) (cs : List Int) (q' : WW),¬ (y∈q'.1/\z∈q'.2)->(bM cs q' v).filter (inE y z) = []:=fun v cs q' hn=>List.filter_eq_nil_iff.mpr fun e he=>by
      obtain ⟨h1,h2⟩:=nS he
      simp only [inE,Bool.and_eq_true,decide_eq_true_eq]
      exact fun ⟨g1,g2⟩=>hn ⟨h1 y g1,h2 z g2⟩
    simp only [bM,List.filter_append]
    cases hb : Ta.bit y z hh ws with
    | true =>
      obtain ⟨m1,m2⟩:=b1 hb
      obtain ⟨e,h1,h2,h3,h4⟩:=m8 b (bs ++ [1]) _ m1 m2
      refine ⟨e,by rw [nil a _ _ (c1 hb),h1];rfl,?_,?_,h4⟩
      · rw [h2];simp [Ta.way,hb]
      · rw [h3];simp [Ta.fin,hb]
    | false =>
      obtain ⟨m1,m2⟩:=b2 hb
      obtain ⟨e,h1,h2,h3,h4⟩:=m8 a (bs ++ [0]) _ m1 m2
      refine ⟨e,by rw [nil b _ _ (c2 hb),h1];rfl,?_,?_,h4⟩
      · rw [h2];simp [Ta.way,hb]
      · rw [h3];simp [Ta.fin,hb]
theorem ll {ys zs : List (List Int)} {y z : List Int} : (y,z)∈prl ys zs↔y∈ys/\z∈zs:=by
  constructor
  · intro h;exact uS h
  · rintro ⟨hy,hz⟩
    unfold prl
    exact List.mem_flatMap.mpr ⟨y,hy,List.mem_map.mpr ⟨z,hz,rfl⟩⟩
theorem Cv (b : Bool) (u : Ta) (q : WW) : ((prl q.1 q.2).find? (fau b u)).isNone = ((bM [] q u).filter fun e=>has e.q).all fun e=>Fz b e.q e.at_.toNat:=by
  rw [Bool.eq_iff_iff,Option.isNone_iff_eq_none,List.find?_eq_none,List.all_eq_true]
  constructor
  · intro h e he
    obtain ⟨he,hh⟩:=List.mem_filter.mp he
    unfold Fz
    rw [List.all_eq_true]
    rintro ⟨y,z⟩ hp
    obtain ⟨hy,hz⟩:=ll.mp hp
    obtain ⟨s1,s2⟩:=nS he
    obtain ⟨e',h1,_,h3,_⟩:=m8 u [] q (s1 y hy) (s2 z hz)
    have : e∈(bM [] q u).filter (inE y z):=List.mem_filter.mpr ⟨he,by simp [inE,hy,hz]⟩
    rw [h1,List.mem_singleton] at this
    subst this
    have:=h (y,z) (ll.mpr ⟨s1 y hy,s2 z hz⟩)
    rw [h3]
    simpa [fau] using this
  · rintro h ⟨y,z⟩ hp
    obtain ⟨hy,hz⟩:=ll.mp hp
    obtain ⟨e,h1,_,h3,h4⟩:=m8 u [] q hy hz
    have he : e∈(bM [] q u).filter (inE y z):=by rw [h1];simp
    simp only [inE,Bool.and_eq_true,decide_eq_true_eq] at h4
    have:=h e (List.mem_filter.mpr ⟨(List.mem_filter.mp he).1,d6.mpr ⟨List.ne_nil_of_mem h4.1,List.ne_nil_of_mem h4.2⟩⟩)
    unfold Fz at this
    rw [List.all_eq_true] at this
    have:=this (y,z) (ll.mpr h4)
    rw [h3] at this
    simp [fau,this]
theorem Dc (b : Bool) (u : Ta) (q : WW) : ((prl q.1 q.2).find? (fau b (c5 u q))).isNone = ((prl q.1 q.2).find? (fau b u)).isNone:=by
  rw [Bool.eq_iff_iff,Option.isNone_iff_eq_none,Option.isNone_iff_eq_none,List.find?_eq_none,List.find?_eq_none]
  have : ∀ p∈prl q.1 q.2,fau b (c5 u q) p = fau b u p:=fun p hp=>by
    obtain ⟨hy,hz⟩:=uS hp
    simp only [fau,nV u q hy hz]
  exact ⟨fun h p hp=>by rw [← this p hp];exact h p hp,fun h p hp=>by rw [this p hp];exact h p hp⟩
end
section
variable {P : Program} {w : World} {K : PySem.W.Frag} {mg : Str->Option Value} {base : Heap} {t : Adr}
def fD : WW->Ta->Sy
  | q,.en i=>.is i ((q.1.headD []).getD i.toNat 0)
  | q,.nd h ws l r=>.jn (!h) (fD (goF h ws q) l) (fD (goS h ws q) r)
def Ay (e : En) : Sy:=.is e.at_ ((e.q.1.headD []).getD e.at_.toNat 0)
def sQ : List Ta->List Sy->List Sy->Option (List Sy)
  | [],st,_=>some st
  | .en _ :: r,st,x :: W=>sQ r (x :: st) W
  | .nd h _ _ _ :: r,b :: a :: st,W=>sQ r (.jn (!h) a b :: st) W
  | _,_,_=>none
def Ta.post : Ta->List Ta
  | .en i=>[.en i]
  | .nd h ws l r=>Ta.post l ++ Ta.post r ++ [.nd h ws l r]
theorem vU : ∀ u : Ta,(eI u).post.map Tr.d = (Ta.post u).map Ta.d
  | .en i=>rfl
  | .nd h ws l r=>by
    have e : (eI (.nd h ws l r)).d = (Ta.nd h ws l r).d:=mL _
    simp only [eI,Tr.post,Ta.post,List.map_append,vU l,vU r,List.map_cons,List.map_nil]
    simp only [eI] at e
    rw [e]
theorem kg : ∀ u : Ta,(Ta.post u).length = u.size
  | .en i=>rfl
  | .nd h ws l r=>by simp [Ta.post,Ta.size,kg l,kg r];omega
theorem qO : ∀ (u : Ta) (bs : List Int) (q : WW) (r : List Ta) (st W : List Sy),sQ (Ta.post u ++ r) st ((bM bs q u).map Ay ++ W) = sQ r (fD q u :: st) W
  | .en i,bs,q,r,st,W=>rfl
  | .nd h ws a b,bs,q,r,st,W=>by
    simp only [Ta.post,bM,List.map_append,List.append_assoc]
    rw [qO a,qO b]
    rfl
theorem Au : ∀ u : Ta,u.dp<=u.size
  | .en i=>Nat.zero_le _
  | .nd h ws l r=>by
    have:=Au l
    have:=Au r
    simp only [Ta.dp,Ta.size]
    omega
theorem Fy {n : Nat} {e : En} (hw : Ww n e.q) (h0 : 0<=e.at_) (h1 : e.at_ < n) (hh : has e.q = true) : ∃ y ys,e.q.1 = y :: ys/\atI (((y.map D.int)).map AV.d) e.at_ = some (.d (.int (y.getD e.at_.toNat 0))):=by
  obtain ⟨h2,_⟩:=d6.mp hh
  obtain ⟨y,ys,ey⟩:=List.exists_cons_of_ne_nil h2
  have hl : y.length = n:=(eh (hw.1.2 y (by rw [ey];exact List.mem_cons_self ..))).1
  obtain ⟨z,mz,hz,ez⟩:=vW (f:=AV.d ∘ D.int) (xs:=y) h0 (by omega)
  refine ⟨y,ys,ey,?_⟩
  rw [List.map_map,ez,List.getD_eq_getElem?_getD,hz]
  rfl
def Ar : ASp:=fun xs ω Q=>∃ (n : Nat) (q : WW) (u : Ta),xs = [.d (csD n q.1 q.2),.d u.d]/\n<=5/\Ww n q/\has q = true/\u.ok n/\u.size<=400/\((prl q.1 q.2).find? (fau false u)).isNone = true/\Q (.d (fD q (c5 u q)).d) ω
theorem Fq (T : Txt K mg t) : aJ P t.wo K mg base CX0 4 t.cg t.gz ["case","talk"] (aN Ar):=by
  have G_lets_by : aJ P t.wo K mg base CX0 3 t.cn t.gc ["case","rule","talk"] (aN qA):=vI T
  have G_cut : aJ P t.wo K mg base CX0 3 t.kK t.ye ["case","talk"] (aN yM):=Ef T
  have G_ends_of : aJ P t.wo K mg base CX0 2 t.c8 t.lE ["case","talk"] (aN AN):=Fv T
  have G_upward : aJ P t.wo K mg base CX0 1 t.cY t.iK ["tree","leaf"] (aN jD):=mS T
  refine T.w9.okD cq (fun xs ω Q h=>by obtain ⟨n,q,u,rfl,_⟩:=h;rfl) (fun cdv A outer s H E hr=>⟨_,_,(ah (bz (gW (bp K rfl (am G_lets_by (hr.mono (by omega)) (by rfl) T.kZ T.lh T.lG .nil aB (aa (pv 0) (aA aP (aa (pv 1) af)))) (fun _=>rfl))) (al xq) aY)
      (ah (aL (i:=2) cq.nd rfl (Or.inl rfl) (am G_cut (hr.mono (by omega)) (by rfl) T.DY T.Dr T.CP .nil aB (aa (pv 0) (aa (pv 1) af))))
      (ah (lJ (i:=3) cq.nd rfl (Or.inl rfl) (N:=(["bits","place","yes","no"] : List Str)) (src:=[none,none,none,none]) rfl (by show dn _ (defScope dw) _ _ (["case","talk","kept","leaves","waiting","done","part","other","one"] : List Str) = true;decide +kernel) (by intro g' h;cases h) (bY K rfl (am G_ends_of (hr.mono (by omega)) (by rfl) T.Ca T.BX T.Cd .nil aB (aa (pv 0) (aa (pv 2) af)))) (fun _ _ _ _ _ _=>(d7 K rfl (n:=4) rfl (a8 (aG (i:=0) (show (["bits","place","yes","no"] : List Str).Nodup by decide +kernel) rfl (Or.inl rfl)) (a8 (aG (i:=1) (show (["bits","place","yes","no"] : List Str).Nodup by decide +kernel) rfl (Or.inl rfl)) (a8 (aG (i:=2) (show (["bits","place","yes","no"] : List Str).Nodup by decide +kernel) rfl (Or.inl rfl)) (a8 (aG (i:=3) (show (["bits","place","yes","no"] : List Str).Nodup by decide +kernel) rfl (Or.inl rfl)) dU)))))) (fun _ _ _ _ _ _=>fy) (fun _ _ _ _ _ _=>(bX rfl rfl (aR (aA aP (aa (pv 1) (aa (ar (aj K rfl) (ar (aj K rfl) (pv 2) ag (fun _ _=>rfl)) (pv 1) (fun _ _=>rfl)) af)))))))
      (ah (aL (i:=4) cq.nd rfl (Or.inl rfl) (zz K rfl (pv 3) (wZ rC ag)))
      (ah (aL (i:=5) cq.nd rfl (Or.inl rfl) (dr af))
      (ah (gp PassesOwn.never rfl (bY K rfl (am G_upward (hr.mono (by omega)) (by rfl) T.rM T.su T.qQ .nil aB (aa (pv 2) (aA aP af)))) (aG (i:=6) cq.nd rfl (Or.inl rfl)) (al (bz (aE (bd hr.u100) (ar (aj K rfl) (pv 6) ag (fun _ _=>rfl)) aP (aK _)) (al (bZ (eQ PySem.F.plainAttrs_list PySem.F.slot_list_append PySem.F.type_list_append bg (pv 5) (aa (hG PySem.F.plainAttrs_list PySem.F.slot_list_pop PySem.F.type_list_pop hU (pv 4)) af)))) (ah (aL (i:=7) cq.nd rfl (Or.inl rfl) (hG PySem.F.plainAttrs_list PySem.F.slot_list_pop PySem.F.type_list_pop hU (pv 5)))
      (ah (aL (i:=8) cq.nd rfl (Or.inl rfl) (hG PySem.F.plainAttrs_list PySem.F.slot_list_pop PySem.F.type_list_pop hU (pv 5)))
      (al (bZ (eQ PySem.F.plainAttrs_list PySem.F.slot_list_append PySem.F.type_list_append bg (pv 5) (be (aR (aa (F5 T.si (FW (v:=.ref t.ci) rfl T.sJ rfl) (ar (aj K rfl) (pv 6) ag (fun _ _=>rfl)) (fun _ _=>rfl)) (aa (pv 8) (aa (pv 7) af)))) af)))))))))
      (al (aD (ar (aj K rfl) (pv 5) ag (fun _ _=>rfl)))))))))),(au (cQ (ma (eY (aq (ac ae (ac bc (ac ae ai)))))) Bk bf)
      (au (aO (aq (ac ae (ac ae ai))) ao)
      (au (aO (cW (dk (aq (ac ae (ac ae ai)))) (jG (bG ao (bG ao (bG ao (bG ao jH))))) tw (cT (a9 (ac bc (ac ae (ac (ap aM (ap aM ae ak) ae) ai)))))) ao)
      (au (aO (HK ae) ao)
      (au (aO (gR ai) ao)
      (au (j8 (dk (aq (ac ae (ac bc ai)))) ao (cQ (aQ (ap bj (ap aM ae ak) bc)) (cX (bI ae (ac (lW ae) ai))) (au (aO (lW ae) ao)
      (au (aO (lW ae) ao)
      (cX (bI ae (ac (a9 (ac (Jh (ap aM ae ak)) (ac ae (ac ae ai)))) ai)))))))
      (aT (ap aM ae ak)))))))),fun xs ω Q h=>?_⟩)
  obtain ⟨n,q,u,rfl,hn,hq,hh,hu,hsz,hlet,k⟩:=h
  have hudp:=Au u
  walk_at "s1"
  refine ⟨false,n,q.1,q.2,u,rfl,⟨hn,hu,by omega,hq.1,hq.2⟩,?_⟩
  rw [hlet]
  walk_at "s1"
  refine ⟨n,q,u,rfl,hn,hq,hu,hsz,?_⟩
  obtain ⟨co,cd,cs⟩:=jt q hu
  have ce:=iG u [] q hh
  generalize c5 u q = v at *
  have hvd:=Au v
  walk_at "s1"
  refine ⟨n,q,v,rfl,hn,hq,co,by omega,by omega,?_⟩
  have hel:=oZ v [] q
  have hvl:=Ta.fH v
  walk_at "a1"
  refine rQ (rs:=((bM [] q v).map Ay).map Sy.d) (fun ρ=>∃ v0 v1 v2 v3,ρ = [v0,v1,v2,v3]) ⟨_,_,_,_,rfl⟩ (by simp) (Nat.le_of_lt (bi (by simp;omega))) (fun i a r ρ N h1 h2 hR hN=>?_) (fun ρ hR=>⟨_,bn _,?_⟩)
  · obtain ⟨v0,v1,v2,v3,rfl⟩:=hR
    simp only [List.map_map,List.getElem?_map,Option.map_eq_some_iff] at h1 h2
    obtain ⟨e,he,rfl⟩:=h1
    obtain ⟨e',he',rfl⟩:=h2
    rw [he] at he'
    cases he'
    have hm:=List.mem_of_getElem? he
    obtain ⟨⟨a0,a1⟩,aw⟩:=uZ co hq hm
    obtain ⟨y,ys,ey,ea⟩:=Fy aw a0 a1 (ce e hm)
    simp only [Function.comp_apply,En.d]
    walk_at "a1"
    refine hN _ ⟨_,_,_,_,rfl⟩ fun Q1 q1=>?_
    simp only [Ay,Function.comp_apply] at q1
    rw [ey] at q1 ⊢
    simp only [List.map_cons,wdD]
    walk_at "a1"
    exact ⟨_,ea,_,rfl,q1⟩
  walk_at "s1"
  have hE:=qO v [] q [] [] []
  rw [List.append_nil,List.append_nil] at hE
  generalize hL : (bM [] q v).map Ay = L at hE
  have hLl : L.length = v.lvs:=by rw [← hL,List.length_map,hel]
  have hpo:=kg v
  intro lw hlw
  walk_at "s1"
  intro ld hld
  obtain ⟨hne,hld0⟩:=nP hld
  walk_at "s1"
  refine ⟨eI v,"end",by rw [mL],lL v,by rw [(kH v).1];omega,?_⟩
  rw [vU]
  generalize hR : Ta.post v = R at *
  walk_at "a1"
  have ow0 : ((ω.put lw (OC.own (List.map AV.d (List.map Sy.d L).reverse))).put ld (OC.own [])) = om2 ω lw ld (.own ((L.reverse.map Sy.d).map AV.d)) (.own ((([] : List Sy).reverse.map Sy.d).map AV.d)):=by rw [om2,← List.map_reverse];rfl
  rw [ow0]
  refine pW (fun i ρ ω'=>∃ (st W : List Sy) (v6 v7 v8 : Option AV),ρ = [some (AV.d (csD n q.fst q.snd)),some (AV.d u.d),some (AV.d v.d),some (AV.d (D.lst (List.map Sy.d L))),some (AV.r (V.ref lw)),some (AV.r (V.ref ld)),v6,v7,v8]/\ω' = om2 ω lw ld (.own ((W.reverse.map Sy.d).map AV.d)) (.own ((st.reverse.map Sy.d).map AV.d))/\st.length<=i/\sQ (R.drop i) st W = some [fD q v]) ⟨[],L,_,_,_,rfl,rfl,Nat.le_refl _,by rw [List.drop_zero,hE];rfl⟩ ?_ ?_
  · rintro i d ρ ω' N hd ⟨st,W,v6,v7,v8,rfl,rfl,hst,hwk⟩ kN
    obtain ⟨e,hv,rfl⟩:=eV hd
    obtain ⟨hi,ev⟩:=List.getElem?_eq_some_iff.mp hv
    rw [List.drop_eq_getElem_cons hi,ev] at hwk
    have hs1 : st.length < sizeLine:=kn (by omega)
    cases e with
    | en j =>
      cases W with
      | nil=>simp [sQ] at hwk
      | cons x W =>
        simp only [Ta.d]
        walk_at "a1"
        rw [l5 hne.symm]
        have eW : ((x :: W).reverse.map Sy.d).map AV.d = (W.reverse.map Sy.d).map AV.d ++ [.d x.d]:=by simp
        refine ⟨⟨_,dQ⟩,_,rfl,.d x.d,by rw [eW];simp,(st.reverse.map Sy.d).map AV.d,by rw [jV hne.symm,dQ],by simp;omega,?_⟩
        rw [eW,List.dropLast_concat,jV hne.symm,eO]
        exact kN _ _ ⟨x :: st,W,_,_,_,rfl,by simp,by simp;omega,by simpa [sQ] using hwk⟩
    | nd hh ws a b =>
      have hE2 : ¬ (if hh then ("yes" : Str) else ("no" : Str)) = "end":=by cases hh<;>decide +kernel
      rcases st with _ | ⟨y,_ | ⟨x,st⟩⟩
      · simp [sQ] at hwk
      · simp [sQ] at hwk
      have eS : ((y :: x :: st).reverse.map Sy.d).map AV.d = ((st.reverse.map Sy.d).map AV.d ++ [.d x.d]) ++ [.d y.d]:=by simp
      have eS2 : ((y :: x :: st).reverse.map Sy.d).map AV.d = ((st.reverse.map Sy.d).map AV.d ++ [.d x.d]) ++ [.d y.d]:=eS
      simp only [Ta.d]
      rw [eS]
      walk_at "a1"
      simp only [hE2,if_false]
      refine xJ rfl dQ ?_
      rw [eO]
      refine xJ rfl dQ ?_
      rw [eO]
      simp only [List.set_cons_zero,List.set_cons_succ]
      have hl : ((st.reverse.map Sy.d).map AV.d).length < sizeLine:=kn (by simp at hst ⊢;omega)
      have fin:=kN [some (AV.d (csD n q.fst q.snd)),some (AV.d u.d),some (AV.d v.d),some (AV.d (D.lst (List.map Sy.d L))),some (AV.r (V.ref lw)),some (AV.r (V.ref ld)),some (AV.d (Ta.nd hh ws a b).d),some (.d y.d),some (.d x.d)] _ ⟨.jn (!hh) x y :: st,W,_,_,_,rfl,rfl,by simp at hst ⊢;omega,by simpa [sQ] using hwk⟩
      cases hh
      · walk_at "a1"
        refine ⟨⟨_,dQ⟩,V.str (Str.ofString "and"),by kernel_rfl,D.str (Str.ofString "and"),rfl,_,dQ,hl,?_⟩
        rw [eO]
        simpa [Sy.d,Ta.d] using fin
      · walk_at "a1"
        refine ⟨⟨_,dQ⟩,V.str (Str.ofString "or"),by kernel_rfl,D.str (Str.ofString "or"),rfl,_,dQ,hl,?_⟩
        rw [eO]
        simpa [Sy.d,Ta.d] using fin
  · rintro ρ ω' ⟨st,W,v6,v7,v8,rfl,rfl,hst,hwk⟩
    rw [List.length_map,List.drop_length] at hwk
    simp only [sQ,Option.some.injEq] at hwk
    subst hwk
    dsimp only
    walk_at "a1"
    rw [dQ]
    refine ⟨_,rfl,_,rfl,_,rfl,?_⟩
    rw [om2,jv (((Ex.refl ω).new hlw).new (by rw [Om.put_ne hne];exact hld0))]
    exact k
end
section
theorem ir : ∀ (u : Ta) (bs bs' : List Int) (q : WW),∀ e∈bM bs q u,∃ e'∈bM bs' q u,e'.q = e.q/\e'.at_ = e.at_
  | .en i,bs,bs',q,e,he=>by
    simp only [bM,List.mem_singleton] at he
    subst he
    exact ⟨⟨bs',i,q⟩,by simp [bM],rfl,rfl⟩
  | .nd h ws a b,bs,bs',q,e,he=>by
    simp only [bM] at he ⊢
    rcases List.mem_append.mp he with he | he
    · obtain ⟨e',h1,h2⟩:=ir a _ (bs' ++ [0]) _ e he
      exact ⟨e',List.mem_append_left _ h1,h2⟩
    · obtain ⟨e',h1,h2⟩:=ir b _ (bs' ++ [1]) _ e he
      exact ⟨e',List.mem_append_right _ h1,h2⟩
def ox (b : Bool) (q : WW) (v : Ta) : Prop:=∀ bs,∀ e∈bM bs q v,has e.q = true/\∀ y∈e.q.1,∀ z∈e.q.2,ppB b y z e.at_.toNat = true
theorem ox.nd {b : Bool} {q : WW} {h : Bool} {ws : List (List Int)} {l r : Ta} (x : ox b q (.nd h ws l r)) : ox b (goF h ws q) l/\ox b (goS h ws q) r:=by
  constructor
  · intro bs e he
    have:=ir l bs ([] ++ [0]) (goF h ws q) e he
    obtain ⟨e',he',e1,e2⟩:=this
    obtain ⟨z1,z2⟩:=x [] e' (by simp only [bM];exact List.mem_append_left _ he')
    rw [e1] at z1 z2
    rw [e2] at z2
    exact ⟨z1,z2⟩
  · intro bs e he
    have:=ir r bs ([] ++ [1]) (goS h ws q) e he
    obtain ⟨e',he',e1,e2⟩:=this
    obtain ⟨z1,z2⟩:=x [] e' (by simp only [bM];exact List.mem_append_right _ he')
    rw [e1] at z1 z2
    rw [e2] at z2
    exact ⟨z1,z2⟩
theorem rS {n : Nat} : ∀ (v : Ta) (q : WW),Ww n q->ox false q v->(∀ y∈q.1,(fD q v).val y = true)/\∀ z∈q.2,(fD q v).val z = false
  | .en i,q,hw,ho=>by
    obtain ⟨h1,h2⟩:=ho [] ⟨[],i,q⟩ (by simp [bM])
    obtain ⟨h3,h4⟩:=d6.mp h1
    obtain ⟨y0,ys,ey⟩:=List.exists_cons_of_ne_nil h3
    have ey : q.1 = y0 :: ys:=ey
    obtain ⟨z0,zs,ez⟩:=List.exists_cons_of_ne_nil h4
    have m0 : y0∈q.1:=by rw [ey];exact List.mem_cons_self ..
    have k0 : z0∈q.2:=by rw [ez];exact List.mem_cons_self ..
    have pp : ∀ y∈q.1,∀ z∈q.2,y.getD i.toNat 0≠z.getD i.toNat 0:=fun y hy z hz=>by
      have:=h2 y hy z hz
      simpa [ppB] using this
    simp only [fD,Sy.val,ey,List.headD_cons]
    refine ⟨fun y hy=>?_,fun z hz=>?_⟩
    · rw [← ey] at hy
      have a1:=pp y hy z0 k0
      have a2:=pp y0 m0 z0 k0
      rcases sH (hw.1.2 y hy) i.toNat with b1 | b1<;>rcases sH (hw.1.2 y0 m0) i.toNat with b2 | b2<;>rcases sH (hw.2.2 z0 k0) i.toNat with b3 | b3<;>simp_all
    · have a1:=pp y0 m0 z hz
      simpa using Ne.symm a1
  | .nd h ws l r,q,hw,ho=>by
    obtain ⟨o1,o2⟩:=ho.nd
    obtain ⟨a1,a2⟩:=rS l _ hw.f o1
    obtain ⟨b1,b2⟩:=rS r _ hw.s o2
    cases h with
    | true =>
      simp only [goF,goS,if_true] at a1 a2 b1 b2
      simp only [fD,Bool.not_true,Sy.val,Bool.false_eq_true,if_false]
      simp only [goF,goS,if_true]
      refine ⟨fun y hy=>?_,fun z hz=>by rw [a2 z hz,b2 z hz];rfl⟩
      by_cases hm : y∈ws
      · rw [b1 y (List.mem_filter.mpr ⟨hy,by simpa using hm⟩),Bool.or_true]
      · rw [a1 y (List.mem_filter.mpr ⟨hy,by simpa using hm⟩),Bool.true_or]
    | false =>
      simp only [goF,goS,if_false,Bool.false_eq_true] at a1 a2 b1 b2
      simp only [fD,Bool.not_false,Sy.val,if_true]
      simp only [goF,goS,if_false,Bool.false_eq_true]
      refine ⟨fun y hy=>by rw [a1 y hy,b1 y hy];rfl,fun z hz=>?_⟩
      by_cases hm : z∈ws
      · rw [b2 z (List.mem_filter.mpr ⟨hz,by simpa using hm⟩),Bool.and_false]
      · rw [a2 z (List.mem_filter.mpr ⟨hz,by simpa using hm⟩),Bool.false_and]
theorem vC {n : Nat} : ∀ (v : Ta) (q : WW),Ww n q->v.ok n->(fD q v).ok n/\(fD q v).dp = v.dp/\(fD q v).lvs = v.lvs
  | .en i,q,hw,ho=>by
    refine ⟨⟨ho.1,ho.2,?_⟩,rfl,rfl⟩
    cases e : q.1 with
    | nil=>left;simp
    | cons y ys=>exact sH (hw.1.2 y (by rw [e];exact List.mem_cons_self ..)) i.toNat
  | .nd h ws l r,q,hw,ho=>by
    obtain ⟨a1,a2,a3⟩:=vC l _ hw.f ho.2.1
    obtain ⟨b1,b2,b3⟩:=vC r _ hw.s ho.2.2
    exact ⟨⟨a1,b1⟩,by simp only [fD,Sy.dp,Ta.dp,a2,b2],by simp only [fD,Sy.lvs,Ta.lvs,a3,b3]⟩
theorem zg {b : Bool} {u : Ta} {q : WW} (hh : has q = true) (hl : ((prl q.1 q.2).find? (fau b u)).isNone = true) : ox b q (c5 u q):=by
  intro bs e he
  obtain ⟨e',he',e1,e2⟩:=ir _ bs [] q e he
  have h1:=iG u [] q hh e' he'
  rw [← Dc,Cv,List.all_eq_true] at hl
  have h2:=hl e' (List.mem_filter.mpr ⟨he',h1⟩)
  rw [e1] at h1
  refine ⟨h1,fun y hy z hz=>?_⟩
  rw [e1,e2] at h2
  unfold Fz at h2
  exact List.all_eq_true.mp h2 (y,z) (ll.mpr ⟨hy,hz⟩)
end
section
def fxV (i : Nat) (b : Int) (ws : List (List Int)) : List (List Int):=(ws.filter fun v=>decide (v.getD i 0 = b)).map fun v=>v.eraseIdx i
theorem Bu : ∀ m : Fin 5,∀ i : Fin 5,∀ b : Fin 2,i.val<=m.val->fxV i.val (b.val : Int) (wl (m.val + 1)) = wl m.val:=by decide +kernel
theorem jx {n i : Nat} {b : Int} {ws : List (List Int)} (hn : n<=5) (hi : i < n) (hb : b = 0\/b = 1) (h : ws.Sublist (wl n)) : (fxV i b ws).Sublist (wl (n - 1)):=by
  obtain ⟨m,rfl⟩ : ∃ m,n = m + 1:=⟨n - 1,by omega⟩
  have e : fxV i b (wl (m + 1)) = wl m:=by
    rcases hb with rfl | rfl
    · exact Bu ⟨m,by omega⟩ ⟨i,by omega⟩ ⟨0,by decide⟩ (by simp;omega)
    · exact Bu ⟨m,by omega⟩ ⟨i,by omega⟩ ⟨1,by decide⟩ (by simp;omega)
  show (fxV i b ws).Sublist (wl m)
  rw [← e]
  exact (h.filter _).map _
def sb (n : Nat) : Ta->Prop
  | .en i=>0<=i/\i < n
  | .nd _ ws l r=>ws.Sublist (wl n)/\sb n l/\sb n r
theorem jO {n : Nat} (hn : n<=5) : ∀ {u : Ta},sb n u->u.ok n
  | .en i,h=>h
  | .nd y ws l r,⟨h1,h2,h3⟩=>⟨Wds.sub h1 hn,jO hn h2,jO hn h3⟩
def fxP (i : Nat) (j : Int) : Int:=if j = i then 0 else if j > i then j - 1 else j
def fxT (i : Nat) (b : Int) : Ta->Ta
  | .en j=>.en (fxP i j)
  | .nd y ws l r=>.nd y (fxV i b ws) (fxT i b l) (fxT i b r)
theorem oS {n i : Nat} {b : Int} (hn2 : 2<=n) (hn : n<=5) (hi : i < n) (hb : b = 0\/b = 1) : ∀ {u : Ta},sb n u->sb (n - 1) (fxT i b u)
  | .en j,⟨h1,h2⟩=>by
    simp only [fxT,sb,fxP]
    split
    · omega
    · split<;>omega
  | .nd y ws l r,⟨h1,h2,h3⟩=>⟨jx hn hi hb h1,oS hn2 hn hi hb h2,oS hn2 hn hi hb h3⟩
theorem uC {i : Nat} {b : Int} : ∀ u : Ta,(fxT i b u).dp = u.dp/\(fxT i b u).lvs = u.lvs/\(fxT i b u).size = u.size
  | .en j=>⟨rfl,rfl,rfl⟩
  | .nd y ws l r=>by
    obtain ⟨a1,a2,a3⟩:=uC (i:=i) (b:=b) l
    obtain ⟨b1,b2,b3⟩:=uC (i:=i) (b:=b) r
    simp only [fxT,Ta.dp,Ta.lvs,Ta.size,a1,a2,a3,b1,b2,b3,and_self]
theorem yW : ∀ n : Fin 6,∀ i : Fin 5,∀ v∈wl n.val,i.val < n.val->(gv (v.eraseIdx i.val) none (some (i.val : Int)) ++ [v.getD i.val 0]) ++ gv (v.eraseIdx i.val) (some (i.val : Int)) none = v:=by decide +kernel
theorem Bw : ∀ n : Fin 6,∀ i j : Fin 5,∀ v∈wl n.val,i.val < n.val->j.val < n.val->j.val≠i.val->(v.eraseIdx i.val).getD (if j.val > i.val then j.val - 1 else j.val) 0 = v.getD j.val 0:=by decide +kernel
theorem nw {i : Nat} {b : Int} {ws : List (List Int)} {u : List Int} : u∈fxV i b ws↔∃ v∈ws,v.getD i 0 = b/\v.eraseIdx i = u:=by
  simp only [fxV,List.mem_map,List.mem_filter,decide_eq_true_eq,and_assoc]
theorem Ja {n i : Nat} {v u : List Int} (hn : n<=5) (hi : i < n) (hv : v∈wl n) (hu : u∈wl n) (hb : v.getD i 0 = u.getD i 0) (he : v.eraseIdx i = u.eraseIdx i) : v = u:=by
  rw [← yW ⟨n,by omega⟩ ⟨i,by omega⟩ v hv hi,← yW ⟨n,by omega⟩ ⟨i,by omega⟩ u hu hi]
  simp only [hb,he]
theorem zi {n i : Nat} {b : Int} {ws : List (List Int)} {v : List Int} (hn : n<=5) (hi : i < n) (hv : v∈wl n) (hb : v.getD i 0 = b) (hw : ∀ u∈ws,u∈wl n) : (v.eraseIdx i∈fxV i b ws)↔v∈ws:=by
  rw [nw]
  constructor
  · rintro ⟨u,hu,h1,h2⟩
    rw [Ja hn hi hv (hw u hu) (hb.trans h1.symm) h2.symm]
    exact hu
  · exact fun h=>⟨v,h,hb,rfl⟩
theorem HC {n i : Nat} {b : Int} {ws : List (List Int)} {y z : List Int} {h : Bool} (hn : n<=5) (hi : i < n) (hy : y∈wl n) (hz : z∈wl n) (yb : y.getD i 0 = b) (zb : z.getD i 0 = b) (hw : ∀ u∈ws,u∈wl n) : Ta.bit (y.eraseIdx i) (z.eraseIdx i) h (fxV i b ws) = Ta.bit y z h ws:=by
  cases h<;>simp only [Ta.bit,Bool.false_eq_true,if_false,if_true,decide_eq_decide]
  · exact zi hn hi hz zb hw
  · exact zi hn hi hy yb hw
theorem vP {n i : Nat} {b : Int} {y z : List Int} (hn : n<=5) (hi : i < n) (hy : y∈wl n) (hz : z∈wl n) (yb : y.getD i 0 = b) (zb : z.getD i 0 = b) : ∀ {u : Ta},sb n u->Ta.fin (y.eraseIdx i) (z.eraseIdx i) (fxT i b u) = fxP i (Ta.fin y z u)/\Ta.way (y.eraseIdx i) (z.eraseIdx i) (fxT i b u) = Ta.way y z u
  | .en j,h=>⟨rfl,rfl⟩
  | .nd h ws l r,⟨h1,h2,h3⟩=>by
    obtain ⟨a1,a2⟩:=vP hn hi hy hz yb zb h2
    obtain ⟨b1,b2⟩:=vP hn hi hy hz yb zb h3
    simp only [fxT,Ta.fin,Ta.way,HC hn hi hy hz yb zb (fun u hu=>h1.mem hu),a1,a2,b1,b2]
    cases Ta.bit y z h ws<;>simp
def Lt (r : Bool) (ys zs : List (List Int)) (u : Ta) : Prop:=∀ y∈ys,∀ z∈zs,ppB r y z (Ta.fin y z u).toNat = true
theorem qu {r : Bool} {ys zs : List (List Int)} {u : Ta} (h : Lt r ys zs u) : ((prl ys zs).find? (fau r u)).isNone = true:=by
  rw [Option.isNone_iff_eq_none,List.find?_eq_none]
  rintro ⟨y,z⟩ hm
  obtain ⟨my,mz⟩:=ll.mp hm
  simp [fau,h y my z mz]
theorem yw {n : Nat} {y z : List Int} : ∀ {u : Ta},sb n u->0<=Ta.fin y z u/\Ta.fin y z u < n
  | .en j,h=>h
  | .nd h ws l r,⟨h1,h2,h3⟩=>by
    simp only [Ta.fin]
    split
    · exact yw h3
    · exact yw h2
theorem GO {n i : Nat} {b : Int} {r : Bool} {y z : List Int} {u : Ta} (hn : n<=5) (hi : i < n) (hy : y∈wl n) (hz : z∈wl n) (yb : y.getD i 0 = b) (zb : z.getD i 0 = b) (hu : sb n u) (hp : ppB r y z (Ta.fin y z u).toNat = true) :
    Ta.fin y z u≠i/\ppB r (y.eraseIdx i) (z.eraseIdx i) (fxP i (Ta.fin y z u)).toNat = true/\0<=fxP i (Ta.fin y z u)/\fxP i (Ta.fin y z u) < (n : Int) - 1/\(y.eraseIdx i).getD (fxP i (Ta.fin y z u)).toNat 0 = y.getD (Ta.fin y z u).toNat 0/\(z.eraseIdx i).getD (fxP i (Ta.fin y z u)).toNat 0 = z.getD (Ta.fin y z u).toNat 0:=by
  obtain ⟨f0,f1⟩:=yw (y:=y) (z:=z) hu
  generalize Ta.fin y z u = j at *
  obtain ⟨j,rfl⟩:=Int.eq_ofNat_of_zero_le f0
  have hne : j≠i:=fun e=>by
    subst e
    rw [Int.toNat_natCast] at hp
    cases r
    · simp only [ppB,Bool.false_eq_true,if_false,yb,zb,decide_true,Bool.not_true] at hp
    · simp only [ppB,if_true,yb,zb,Bool.and_eq_true,decide_eq_true_eq] at hp
      omega
  have e1 : (fxP i (j : Int)).toNat = if j > i then j - 1 else j:=by
    simp only [fxP]
    rw [if_neg (by omega)]
    by_cases h : j > i
    · rw [if_pos (by omega),if_pos h];omega
    · rw [if_neg (by omega),if_neg h];omega
  have ey:=Bw ⟨n,by omega⟩ ⟨i,by omega⟩ ⟨j,by omega⟩ y hy hi (by show j < n;omega) hne
  have ez:=Bw ⟨n,by omega⟩ ⟨i,by omega⟩ ⟨j,by omega⟩ z hz hi (by show j < n;omega) hne
  simp only at ey ez
  rw [← e1] at ey ez
  refine ⟨by omega,?_,?_,?_,ey,ez⟩
  · simp only [ppB,ey,ez]
    exact hp
  · simp only [fxP];split
    · omega
    · split<;>omega
  · simp only [fxP];split
    · omega
    · split<;>omega
theorem Bt {n i : Nat} {b : Int} {r : Bool} {ys zs : List (List Int)} {u : Ta} (hn : n<=5) (hi : i < n) (hy : ys.Sublist (wl n)) (hz : zs.Sublist (wl n)) (hu : sb n u) (h : Lt r ys zs u) : Lt r (fxV i b ys) (fxV i b zs) (fxT i b u):=by
  intro y' my z' mz
  obtain ⟨y,hy1,yb,rfl⟩:=nw.mp my
  obtain ⟨z,hz1,zb,rfl⟩:=nw.mp mz
  obtain ⟨p1,p2,_⟩:=GO hn hi (hy.mem hy1) (hz.mem hz1) yb zb hu (h y hy1 z hz1)
  rw [(vP hn hi (hy.mem hy1) (hz.mem hz1) yb zb hu).1]
  exact p2
theorem sB {i : Nat} {b : Int} {x : List Int} {ws : List (List Int)} : fxV i b (x :: ws) = if x.getD i 0 = b then x.eraseIdx i :: fxV i b ws else fxV i b ws:=by
  unfold fxV
  by_cases h : x.getD i 0 = b
  · rw [if_pos h,List.filter_cons_of_pos (by rw [h];simp)]
    rfl
  · rw [if_neg h,List.filter_cons_of_neg (by simpa using h)]
theorem sg {n i : Nat} {b : Int} {ws : List (List Int)} (g : Bool->Bool) (hn : n<=5) (hi : i < n) (hw : ∀ u∈ws,u∈wl n) : ∀ {l : List (List Int)},(∀ v∈l,v∈wl n)->fxV i b (l.filter fun v=>g (decide (v∈ws))) = (fxV i b l).filter fun v=>g (decide (v∈fxV i b ws))
  | [],_=>rfl
  | x :: l,h=>by
    have ih:=sg (b:=b) g hn hi hw fun v hv=>h v (List.mem_cons_of_mem _ hv)
    have hx:=h x List.mem_cons_self
    rw [List.filter_cons,sB]
    by_cases hb : x.getD i 0 = b
    · have hm:=zi (b:=b) hn hi hx hb hw
      rw [if_pos hb,List.filter_cons,show decide (x.eraseIdx i∈fxV i b ws) = decide (x∈ws) from decide_eq_decide.mpr hm]
      cases g (decide (x∈ws))
      · simpa using ih
      · rw [if_pos rfl,if_pos rfl,sB,if_pos hb,ih]
    · rw [if_neg hb]
      cases g (decide (x∈ws))
      · simpa using ih
      · rw [if_pos rfl,sB,if_neg hb,ih]
def fxq (i : Nat) (b : Int) (q : WW) : WW:=(fxV i b q.1,fxV i b q.2)
theorem Jy {n i : Nat} {b : Int} {h : Bool} {ws : List (List Int)} {q : WW} (hn : n<=5) (hi : i < n) (hw : ∀ u∈ws,u∈wl n) (h1 : ∀ v∈q.1,v∈wl n) (h2 : ∀ v∈q.2,v∈wl n) : goF h (fxV i b ws) (fxq i b q) = fxq i b (goF h ws q)/\goS h (fxV i b ws) (fxq i b q) = fxq i b (goS h ws q):=by
  cases h<;>simp only [goF,goS,fxq,if_true,if_false,Bool.false_eq_true,Prod.mk.injEq,and_true,true_and]
  · exact ⟨(sg (fun c=>!c) hn hi hw h2).symm,(sg id hn hi hw h2).symm⟩
  · exact ⟨(sg (fun c=>!c) hn hi hw h1).symm,(sg id hn hi hw h1).symm⟩
theorem wa {i : Nat} {b : Int} {q : WW} (h : has (fxq i b q) = true) : has q = true:=by
  rw [d6] at h ⊢
  refine ⟨fun e=>h.1 ?_,fun e=>h.2 ?_⟩
  · simp [fxq,e,fxV]
  · simp [fxq,e,fxV]
theorem wb {n i : Nat} {b : Int} (hn : n<=5) (hi : i < n) : ∀ {u : Ta} {q : WW},sb n u->(∀ v∈q.1,v∈wl n)->(∀ v∈q.2,v∈wl n)->has (fxq i b q) = true->(c5 (fxT i b u) (fxq i b q)).lvs<=(c5 u q).lvs/\(c5 (fxT i b u) (fxq i b q)).dp<=(c5 u q).dp
  | .en j,q,_,_,_,_=>⟨Nat.le_refl _,Nat.le_refl _⟩
  | .nd h ws l r,q,⟨s1,s2,s3⟩,h1,h2,hh=>by
    obtain ⟨eF,eS⟩:=Jy (b:=b) (h:=h) (ws:=ws) (q:=q) hn hi (fun u hu=>s1.mem hu) h1 h2
    obtain ⟨⟨gF1,gF2⟩,gS1,gS2⟩:=EW (h:=h) (ws:=ws) (q:=q)
    have F1 : ∀ v∈(goF h ws q).1,v∈wl n:=fun v hv=>h1 v (gF1 v hv)
    have F2 : ∀ v∈(goF h ws q).2,v∈wl n:=fun v hv=>h2 v (gF2 v hv)
    have S1 : ∀ v∈(goS h ws q).1,v∈wl n:=fun v hv=>h1 v (gS1 v hv)
    have S2 : ∀ v∈(goS h ws q).2,v∈wl n:=fun v hv=>h2 v (gS2 v hv)
    have hq:=wa hh
    simp only [fxT,c5]
    rw [eF,eS]
    cases aF : has (fxq i b (goF h ws q)) with
    | true =>
      have bF:=wa aF
      rw [if_pos rfl,if_pos bF]
      obtain ⟨i1,i2⟩:=wb hn hi s2 F1 F2 aF
      cases aS : has (fxq i b (goS h ws q)) with
      | true =>
        have bS:=wa aS
        obtain ⟨j1,j2⟩:=wb hn hi s3 S1 S2 aS
        rw [if_pos rfl,if_pos bS]
        simp only [Ta.lvs,Ta.dp]
        omega
      | false =>
        rw [if_neg (by decide)]
        have e:=EA (h:=h) (ws:=fxV i b ws) hh (by rw [eS];exact aS)
        rw [eF] at e
        rw [e] at i1 i2
        cases bS : has (goS h ws q) with
        | true =>
          rw [if_pos rfl]
          simp only [Ta.lvs,Ta.dp]
          omega
        | false =>
          rw [if_neg (by decide)]
          rw [EA hq bS] at i1 i2
          exact ⟨i1,i2⟩
    | false =>
      rw [if_neg (by decide)]
      have e:=C2 (h:=h) (ws:=fxV i b ws) hh (by rw [eF];exact aF)
      rw [eS] at e
      have aS : has (fxq i b (goS h ws q)) = true:=by rw [e];exact hh
      have bS:=wa aS
      obtain ⟨j1,j2⟩:=wb hn hi s3 S1 S2 aS
      rw [e] at j1 j2
      cases bF : has (goF h ws q) with
      | true =>
        rw [if_pos rfl,if_pos bS]
        simp only [Ta.lvs,Ta.dp]
        omega
      | false =>
        rw [if_neg (by decide)]
        rw [C2 hq bF] at j1 j2
        exact ⟨j1,j2⟩
end
section
variable {P : Program} {w : World} {K : PySem.W.Frag} {mg : Str->Option Value} {base : Heap} {t : Adr}
theorem Ga : ∀ n : Fin 6,∀ i : Fin 5,∀ v∈wl n.val,i.val < n.val->gv v none (some (i.val : Int)) ++ gv v (some ((i.val : Int) + 1)) none = v.eraseIdx i.val:=by decide +kernel
def D2 : ASp:=fun xs ω Q=>∃ (n i : Nat) (b : Int) (ws : List (List Int)),xs = [.d (.tup (ws.map wdD)),.d (.int i),.d (.int b)]/\1<=n/\n<=5/\i < n/\(∀ v∈ws,v∈wl n)/\ws.length<=32/\Q (.d (.tup ((fxV i b ws).map wdD))) ω
theorem Ha (T : Txt K mg t) : aJ P w K mg base CX0 1 t.bq t.dP ["words","place","bit"] (aN D2):=by
  refine T.sW.okD sM (fun xs ω Q h=>by obtain ⟨n,i,b,ws,rfl,_⟩:=h;rfl) (fun cdv A outer s H E hr=>⟨_,_,(al (aD (da (cN K rfl) (by rfl) T.li (by kernel_rfl) (aa (dC (N:=(["word","place","bit"] : List Str)) (src:=[none,some 1,some 2]) rfl (by show dn _ (defScope cz) _ _ (["words","place","bit"] : List Str) = true;decide +kernel) (by intro g' h;cases h) (bY K rfl (pv 0)) (fun _ _ _ _ _ _=>(aG (i:=0) (show (["word","place","bit"] : List Str).Nodup by decide +kernel) rfl (Or.inl rfl))) (fun _ _ _ _ _ _=>(fC (aE (bd hr.u100) (ar (aj K rfl) (pv 0) (pv 1) (fun _ _=>rfl)) (pv 2) (aK _)))) (fun _ _ _ _ _ _=>(bX rfl rfl (bb (aW cH (aW bU cI)) (ko (rX K rfl) (pv 0) nJ (nv (pv 1))) (ko (rX K rfl) (pv 0) (nv (bb (aW cH (aW bU cI)) (pv 1) ag)) nJ))))) af)))),(aT (eJ lq (ac (cW (dk ae) ao (aQ (ap bj (ap aM ae ae) ae)) (cT (ap eD (CF ae rJ (rE ae)) (CF ae (rE (ap eD ae ak)) rJ)))) ai))),fun xs ω Q h=>?_⟩)
  obtain ⟨n,i,b,ws,rfl,hn1,hn,hi,hws,hwl,k⟩:=h
  walk_at "a1"
  refine qv wdD (fun v=>decide (v.getD i 0 = b)) (fun v=>wdD (v.eraseIdx i)) (Nat.le_of_lt (bi (by omega))) (fun v hv Q q=>?_) (fun v hv _ Q q=>?_) (fun ρ=>⟨_,bn _,?_⟩)
  · have hl:=(eh (hws v hv)).1
    walk_at "a1"
    refine ⟨_,t5 (by omega) (by omega),_,rfl,by simp [dep],?_⟩
    rw [eU,Int.toNat_natCast]
    exact q
  · have hl:=(eh (hws v hv)).1
    walk_at "a1"
    rw [Ga ⟨n,by omega⟩ ⟨i,by omega⟩ v (hws v hv) hi]
    refine ⟨?_,q⟩
    have h1:=(nU v none (some (i : Int))).length_le
    have h2:=(nU v (some ((i : Int) + 1)) none).length_le
    exact Nat.le_of_lt (bi (by omega))
  · rw [av,show ((ws.filter fun v=>decide (v.getD i 0 = b)).map fun v=>wdD (v.eraseIdx i)) = (fxV i b ws).map wdD from by simp [fxV]]
    exact k
def GN : ASp:=fun xs ω Q=>∃ (i : Nat) (j : Int),xs = [.d (.int j),.d (.int i)]/\Q (.d (.int (fxP i j))) ω
theorem Kw (T : Txt K mg t) : aJ P w K mg base CX0 1 t.bD t.fA ["old","place"] (aN GN):=by
  refine T.sV.okD sD (fun xs ω Q h=>by obtain ⟨i,j,rfl,_⟩:=h;rfl) (fun cdv A outer s H E hr=>⟨_,_,(ah (bz (aE (bd hr.u100) (pv 0) (pv 1) (aK _)) (al (aD ag)) aY)
      (al (aD (im (aE j3 (pv 0) (pv 1) (aK _)) (bb kJ (pv 0) ag) (pv 0))))),(au (cQ (aQ (ap bj ae ae)) (aT ak) bf)
      (aT (B8 (aQ (ap fO ae ae)) (ap ni ae ak) ae))),fun xs ω Q h=>?_⟩)
  obtain ⟨i,j,rfl,k⟩:=h
  unfold fxP at k
  walk_at "s1"
  refine gr (fun h=>?_) (fun h=>?_)
  · rw [if_pos h] at k
    rw [av]
    exact k
  · rw [if_neg h] at k
    refine gr (fun h2=>?_) (fun h2=>?_)
    · rw [if_pos h2] at k
      rw [av]
      exact k
    · rw [if_neg h2] at k
      rw [av]
      exact k
def unI : D->Int
  | .int i=>i
  | _=>0
def unW : D->List Int
  | .tup es=>es.map unI
  | _=>[]
def rD : Tr->Ta
  | .lf [_,.int i]=>.en i
  | .lf _=>.en 0
  | .nd [.str z,.tup ds] l r=>.nd (z == "yes") (ds.map unW) (rD l) (rD r)
  | .nd _ l r=>.nd true [] (rD l) (rD r)
theorem tT : ∀ u : Ta,rD (eI u) = u
  | .en i=>rfl
  | .nd y ws l r=>by
    simp only [eI,rD,tT l,tT r,Ta.nd.injEq,and_true,List.map_map]
    refine ⟨?_,?_⟩
    · cases y<;>simp<;>decide +kernel
    · conv=>rhs;rw [← List.map_id ws]
      refine List.map_congr_left fun v _=>?_
      simp [wdD,unW,unI,Function.comp_def]
theorem qm {n : Nat} : ∀ {u : Ta} {e : Tr},sb n u->e∈(eI u).post->∃ v : Ta,e = eI v/\sb n v
  | .en i,e,h,he=>by simp [eI,Tr.post] at he;exact ⟨.en i,he,h⟩
  | .nd y ws l r,e,h,he=>by
    simp only [eI,Tr.post,List.mem_append,List.mem_singleton] at he
    rcases he with (he | he) | he
    · exact qm h.2.1 he
    · exact qm h.2.2 he
    · exact ⟨.nd y ws l r,he,h⟩
def D6 : ASp:=fun xs ω Q=>∃ (u : Ta) (n i : Nat) (b : Int),xs = [.d u.d,.d (.int i),.d (.int b)]/\1<=n/\n<=5/\i < n/\sb n u/\u.size<=100000/\Q (.d (fxT i b u).d) ω
def pB (cA : List AV) : ASp:=fun xs ω Q=>∃ (i : Nat) (j : Int),cA = [.d (.int i)]/\xs = [.d (.tup [.str "end",.int j])]/\Q (.d (.tup [.str "end",.int (fxP i j)])) ω
def iw (cA : List AV) : ASp:=fun xs ω Q=>∃ (n i : Nat) (b : Int) (y : Bool) (ws : List (List Int)) (l r x z : D),cA = [.d (.int i),.d (.int b)]/\xs = [.d (.tup [.str (if y then "yes" else "no"),.tup (ws.map wdD),l,r]),.d x,.d z]/\1<=n/\n<=5/\i < n/\ws.Sublist (wl n)/\Q (.d (.tup [.str (if y then "yes" else "no"),.tup ((fxV i b ws).map wdD),x,z])) ω
theorem Hj (T : Txt K mg t) : aJ P w K mg base CX0 8 t.bw t.dB ["talk","place","bit"] (aN D6):=by
  have G_folded : ∀ b',aJ P w K mg b' CX0 6 t.cL t.gi ["tree","leaf","of_leaf","of_fork"] (la 3 P w K mg b'):=fun b'=>qE 3 T
  refine T.dE.okD tG (fun xs ω Q h=>by obtain ⟨u,n,i,b,rfl,_⟩:=h;rfl) (fun A outer s H E hr=>?_)
  refine ⟨_,_,(al (aD (nL G_folded (hr.mono (by omega)) (by rfl) T.nk T.nZ T.nR (aa (pv 0) (aA aP (aa (ky (x:="fixed_talk") rfl rfl T.dE.tab T.dE.hd rfl) (aa (ky (x:="fixed_talk") rfl rfl T.dE.tab T.dE.hd rfl) af))))))),(aT (vV (j1:=[1]) (j2:=[1,2]) (s1:=pB) (s2:=iw) ?F0 ?F1 ae bc)),fun xs ω Q h=>?main⟩
  case F0 =>
    intro b' H f σ caps cA L cb hc hl
    have G_fixed_place : aJ P w K mg b' CX0 1 t.bD t.fA ["old","place"] (aN GN):=Kw T
    obtain ⟨v,rfl⟩ : ∃ v,caps = [v]:=List.length_eq_one_iff.mp hc.1
    obtain ⟨wc,wu,hwc,hcell,hrel⟩:=cb 1 "place" v rfl (hc.2 0 1 v rfl rfl) rfl rfl
    obtain rfl : s.heap.objs.size + 1 = wc:=Option.some.inj hwc
    refine gx (ps:=["end"]) (cs:=["place"]) L ⟨rfl,rfl,rfl,by decide +kernel,by decide +kernel,by decide +kernel,by decide +kernel⟩ (vQ hcell hrel) (fun pm c ctv us hl=>match us,hl with | [_],_=>rfl) (fun xs ω Q h=>by obtain ⟨i,j,_,rfl,_⟩:=h;rfl) (fun cd A outer s H hr=>⟨_,_,(aR (aA aP (aa (am G_fixed_place (hr.mono (by omega)) (by rfl) T.tj T.s9 T.tB .nil aB (aa (ar (aj K rfl) (pv 0) ag (fun _ _=>rfl)) (aa (pv 1) af))) af))),(a9 (ac bc (ac (aq (ac (ap aM ae ak) (ac ae ai))) ai))),fun xs ω Q h=>?_⟩)
    obtain ⟨i,j,rfl,rfl,q⟩:=h
    walk_at "a1"
    refine ⟨i,j,rfl,?_⟩
    walk_at "a1"
    exact q
  case F1 =>
    intro b' H f σ caps cA L cb hc hl
    have G_fixed_words : aJ P w K mg b' CX0 1 t.bq t.dP ["words","place","bit"] (aN D2):=Ha T
    obtain ⟨v,v',rfl⟩ : ∃ v v',caps = [v,v']:=match caps,hc.1 with | [v,v'],_=>⟨v,v',rfl⟩
    obtain ⟨wc,wu,hwc,hcell,hrel⟩:=cb 1 "place" v rfl (hc.2 0 1 v rfl rfl) rfl rfl
    obtain ⟨zc,zu,hzc,zcell,zrel⟩:=cb 2 "bit" v' rfl (hc.2 1 2 v' rfl rfl) rfl rfl
    obtain rfl : s.heap.objs.size + 1 = wc:=Option.some.inj hwc
    obtain rfl : s.heap.objs.size + 2 = zc:=Option.some.inj hzc
    refine gx (ps:=["turn","first","second"]) (cs:=["place","bit"]) L ⟨rfl,rfl,rfl,by decide +kernel,by decide +kernel,by decide +kernel,by decide +kernel⟩ (IR (x:="place") (y:="bit") (c:=s.heap.objs.size + 1) (d:=s.heap.objs.size + 2) (by decide +kernel) (Nat.ne_of_lt (Nat.lt_succ_self _)) hcell hrel zcell zrel) (fun pm c ctv us hl=>match us,hl with | [_,_,_],_=>rfl) (fun xs ω Q h=>by obtain ⟨n,i,b,y,ws,l,r,x,z,_,rfl,_⟩:=h;rfl) (fun cd A outer s H hr=>⟨_,_,(aR (aa (ar (aj K rfl) (pv 0) ag (fun _ _=>rfl)) (aa (am G_fixed_words (hr.mono (by omega)) (by rfl) T.hJ T.g7 T.gS .nil aB (aa (ar (aj K rfl) (pv 0) ag (fun _ _=>rfl)) (aa (pv 3) (aa (pv 4) af)))) (aa (pv 1) (aa (pv 2) af))))),(a9 (ac (ap aM ae ak) (ac (aq (ac (ap aM ae ak) (ac ae (ac ae ai)))) (ac ae (ac ae ai))))),fun xs ω Q h=>?_⟩)
    obtain ⟨n,i,b,y,ws,l,r,x,z,rfl,rfl,hn1,hn,hi,hw,q⟩:=h
    walk_at "a1"
    refine ⟨n,i,b,ws,rfl,hn1,hn,hi,fun v hv=>hw.mem hv,Nat.le_trans hw.length_le (me hn),?_⟩
    walk_at "a1"
    exact q
  case main =>
    obtain ⟨u,n,i,b,rfl,hn1,hn,hi,hu,hd,k⟩:=h
    obtain ⟨e1,_,_⟩:=kH u
    walk_at "a1"
    refine ⟨eI u,(mL u).symm,lL u,by omega,fun e=>(fxT i b (rD e)).d,_,rfl,_,rfl,fun q he ω1 Q1 h=>?_,fun q l r he ω1 Q1 h=>?_,?_⟩
    · obtain ⟨v,e,hv⟩:=qm hu he
      cases v with
      | en j=>cases e;exact ⟨i,j,rfl,rfl,h⟩
      | nd y ws l r=>cases e
    · obtain ⟨v,e,hv⟩:=qm hu he
      cases v with
      | en j=>cases e
      | nd y ws l' r' =>
        simp only [eI,Tr.nd.injEq] at e
        obtain ⟨rfl,rfl,rfl⟩:=e
        have h : Q1 (.d (fxT i b (rD (eI (.nd y ws l' r')))).d) ω1:=h
        rw [tT] at h
        show iw _ [_,.d (fxT i b (rD (eI l'))).d,.d (fxT i b (rD (eI r'))).d] ω1 Q1
        rw [tT,tT]
        exact ⟨n,i,b,y,ws,(eI l').d,(eI r').d,_,_,rfl,rfl,hn1,hn,hi,hv.1,h⟩
    · rw [av]
      show Q (.d (fxT i b (rD (eI u))).d) ω
      rw [tT]
      exact k
end
section
variable {P : Program} {w : World} {K : PySem.W.Frag} {mg : Str->Option Value} {base : Heap} {t : Adr}
def bad (n i : Nat) (b : Int) (ys zs : List (List Int)) : Prop:=n = 1\/fxV i b ys = []\/fxV i b zs = []
noncomputable instance (n i : Nat) (b : Int) (ys zs : List (List Int)) : Decidable (bad n i b ys zs):=by unfold bad;infer_instance
structure Fx (n i : Nat) (b : Int) (ys zs : List (List Int)) : Prop where
  n1 : 1<=n
  n5 : n<=5
  i : i < n
  b : b = 0\/b = 1
  y : ys.Sublist (wl n)
  z : zs.Sublist (wl n)
def Hv (t : Adr) : xY:=fun xs ω Q Ex=>∃ (n i : Nat) (b : Int) (ys zs : List (List Int)),xs = [.d (csD n ys zs),.d (.int i),.d (.int b)]/\Fx n i b ys zs/\if bad n i b ys zs then Ex t.dm ω else Q (.d (csD (n - 1 : Nat) (fxV i b ys) (fxV i b zs))) ω
theorem Kq (T : Txt K mg t) : aJ P w K mg base (CXx P w) 3 t.bO t.fX ["case","place","bit"] (AZ (Hv t)):=by
  have G_fixed_words : aJ P w K mg base CX0 1 t.bq t.dP ["words","place","bit"] (aN D2):=Ha T
  refine T.uL.okX gN (fun xs ω Q Ex h=>by obtain ⟨n,i,b,ys,zs,rfl,_⟩:=h;rfl) (fun cdv A outer s H E hr=>⟨_,_,(ah (bz (PT.nox (aE (bd hr.u100) (ar (aj K rfl) (pv 0) ag (fun _ _=>rfl)) ag (aK _))) (al (yg hr.hd (by rfl) T.r8 (Ei T.iC) (aA aP af))) aY)
      (ah (PS.nox (aL (i:=3) gN.nd rfl (Or.inl rfl) (am G_fixed_words (hr.mono (by omega)) (by rfl) T.hJ T.g7 T.gS .nil aB (aa (ar (aj K rfl) (pv 0) ag (fun _ _=>rfl)) (aa (pv 1) (aa (pv 2) af))))))
      (ah (PS.nox (aL (i:=4) gN.nd rfl (Or.inl rfl) (am G_fixed_words (hr.mono (by omega)) (by rfl) T.hJ T.g7 T.gS .nil aB (aa (ar (aj K rfl) (pv 0) ag (fun _ _=>rfl)) (aa (pv 1) (aa (pv 2) af))))))
      (ah (bz (PT.nox (PW.pt (ri (aE (bd hr.u100) (bA (cm K rfl) (by rfl) T.jI (by kernel_rfl) (aa (pv 3) af)) ag (aK _)) (mB (aE (bd hr.u100) (bA (cm K rfl) (by rfl) T.jI (by kernel_rfl) (aa (pv 4) af)) ag (aK _)))))) (al (yg hr.hd (by rfl) T.r8 (Ei T.iC) (aA aP af))) aY)
      (al (PS.nox (aD (aR (aa (bb kJ (ar (aj K rfl) (pv 0) ag (fun _ _=>rfl)) ag) (aa (pv 3) (aa (pv 4) af))))))))))),(zQ (Kb (aQ (ap bj (ap aM ae ak) ak)) (AH (ac bc ai)) (E4 bf))
      (zQ (E4 (aO (aq (ac (ap aM ae ak) (ac ae (ac ae ai)))) ao))
      (zQ (E4 (aO (aq (ac (ap aM ae ak) (ac ae (ac ae ai)))) ao))
      (zQ (Kb (yT (aQ (ap bj (eJ mU (ac ae ai)) ak)) (aQ (ap bj (eJ mU (ac ae ai)) ak))) (AH (ac bc ai)) (E4 bf))
      (E4 (aT (a9 (ac (ap ni (ap aM ae ak) ak) (ac ae (ac ae ai)))))))))),fun xs ω Q Ex h=>?_⟩)
  obtain ⟨n,i,b,ys,zs,rfl,hF,k⟩:=h
  have hn5:=hF.n5
  have hyl:=Nat.le_trans hF.y.length_le (me hF.n5)
  have hzl:=Nat.le_trans hF.z.length_le (me hF.n5)
  simp only [csD] at k ⊢
  walk_at "s1"
  refine gr (fun h=>?_) (fun h=>?_)
  · rw [if_pos (.inl (by omega))] at k
    rw [av]
    exact k
  · walk_at "s1"
    refine ⟨n,i,b,ys,rfl,hF.n1,hF.n5,hF.i,fun v hv=>hF.y.mem hv,hyl,?_⟩
    walk_at "s1"
    refine ⟨n,i,b,zs,rfl,hF.n1,hF.n5,hF.i,fun v hv=>hF.z.mem hv,hzl,?_⟩
    walk_at "s1"
    simp only [av]
    have e0 : ∀ l : List (List Int),((l.length : Int) = 0)↔l = []:=fun l=>by rw [← List.length_eq_zero_iff];omega
    refine gr (fun h1=>?_) (fun h1=>gr (fun h2=>?_) (fun h2=>?_))
    · rw [if_pos (.inr (.inl ((e0 _).mp h1)))] at k
      exact k
    · rw [if_pos (.inr (.inr ((e0 _).mp h2)))] at k
      exact k
    · rw [if_neg (fun z=>by
        rcases z with z | z | z
        · omega
        · exact h1 ((e0 _).mpr z)
        · exact h2 ((e0 _).mpr z))] at k
      rw [show (n : Int) - 1 = ((n - 1 : Nat) : Int) from by have:=hF.n1;omega]
      exact k
end
section
variable {P : Program} {w : World} {K : PySem.W.Frag} {mg : Str->Option Value} {base : Heap} {t : Adr}
def FL (n i : Nat) (b : Int) (ys zs : List (List Int)) : D:=if bad n i b ys zs then .tup [.bl false,.non] else .tup [.bl true,csD (n - 1 : Nat) (fxV i b ys) (fxV i b zs)]
def we : ASp:=fun xs ω Q=>∃ (n i : Nat) (b : Int) (ys zs : List (List Int)),xs = [.d (csD n ys zs),.d (.int i),.d (.int b)]/\Fx n i b ys zs/\Q (.d (FL n i b ys zs)) ω
theorem Bs (T : Txt K mg t) : aJ P w K mg base CX0 4 t.cJ t.iM ["_law_case","_law_place","_law_bit"] (aN we):=by
  have GX_fixed_case : aJ P w K mg base (CXx P w) 3 t.bO t.fX ["case","place","bit"] (AZ (Hv t)):=Kq T
  refine T.Ch.okD jp (fun xs ω Q h=>by obtain ⟨n,i,b,ys,zs,rfl,_⟩:=h;rfl) (fun cdv A outer s H E hr=>⟨_,_,(ah (aL (i:=3) jp.nd rfl (Or.inl rfl) (aR (aA eM (aA o9 af))))
      (ah (Gk rfl rfl rfl (Fo (i:=3) jp.nd rfl (Or.inl rfl) (DJ eM (EN GX_fixed_case (hr.mono (by omega)) (by rfl) T.vT T.vk T.vK (aa (pv 0) (aa (pv 1) (aa (pv 2) af)))))) (by rfl) T.r8 (fun e=>(aL (i:=3) jp.nd rfl (Or.inl rfl) (aR (aA eM (aA o9 af))))))
      (al (aD (pv 3))))),(au (aO (a9 (ac jL (ac uc ai))) ao)
      (au (HU (ac ae (ac ae (ac ae ai))) (aO (a9 (ac jL (ac uc ai))) ao))
      (aT ae))),fun xs ω Q h=>?_⟩)
  obtain ⟨n,i,b,ys,zs,rfl,hF,k⟩:=h
  walk_at "s1"
  walk_at "s1"
  refine ⟨n,i,b,ys,zs,rfl,hF,?_⟩
  unfold FL at k
  by_cases hb : bad n i b ys zs
  · rw [if_pos hb] at k ⊢
    refine ⟨T.cZ,?_⟩
    rw [av]
    exact k
  · rw [if_neg hb] at k ⊢
    refine ⟨_,rfl,?_⟩
    rw [av]
    exact k
def xN : ASp:=fun xs ω Q=>∃ (n i : Nat) (b : Int) (ys zs : List (List Int)),xs = [.d (csD n ys zs),.d (.int i),.d (.int b)]/\Fx n i b ys zs/\Q (.d (.bl (!decide (bad n i b ys zs)))) ω
theorem EO (T : Txt K mg t) : aJ P w K mg base CX0 1 t.dg t.lB ["_law_case","_law_place","_law_bit"] (aN xN):=by
  refine T.Cj.okD rK (fun xs ω Q h=>by obtain ⟨n,i,b,ys,zs,rfl,_⟩:=h;rfl) (fun cdv A outer s H E hr=>⟨_,_,(ah (lJ (i:=3) rK.nd rfl (Or.inl rfl) (N:=(["_law_sort","_law_place","_law_bit"] : List Str)) (src:=[none,some 1,some 2]) rfl (by show dn _ (defScope fc) _ _ (["_law_case","_law_place","_law_bit","_law_with_it"] : List Str) = true;decide +kernel) (by intro g' h;cases h) (bY K rfl (ko (rX K rfl) (pv 0) (nv ag) nJ)) (fun _ _ _ _ _ _=>(aG (i:=0) (show (["_law_sort","_law_place","_law_bit"] : List Str).Nodup by decide +kernel) rfl (Or.inl rfl))) (fun _ _ _ _ _ _=>fy) (fun _ _ _ _ _ _=>(bX rfl rfl (bA (cm K rfl) (by rfl) T.jI (by kernel_rfl) (aa (dC (N:=(["_law_word","_law_place","_law_bit"] : List Str)) (src:=[none,some 1,some 2]) rfl (by with_unfolding_all rfl) (by intro g' h;cases h) (bY K rfl (pv 0)) (fun _ _ _ _ _ _=>(aG (i:=0) (show (["_law_word","_law_place","_law_bit"] : List Str).Nodup by decide +kernel) rfl (Or.inl rfl))) (fun _ _ _ _ _ _=>(fC (aE (bd hr.u100) (ar (aj K rfl) (pv 0) (pv 1) (fun _ _=>rfl)) (pv 2) (aK _)))) (fun _ _ _ _ _ _=>(bX rfl rfl (pv 0)))) af)))))
      (al (aD (m7 K rfl (cr j3 (ar (aj K rfl) (pv 0) ag (fun _ _=>rfl)) ag (aK _)) (pC (cr (kX hr.u100) ag (pv 3) (by with_unfolding_all rfl))))))),(au (aO (cW (dk (CF ae (rE ak) rJ)) ao tw (cT (eJ mU (ac (cW (dk ae) ao (aQ (ap bj (ap aM ae ae) ae)) (cT ae)) ai)))) ao)
      (aT (r9 (ap fO (ap aM ae ak) ak) (ap yy ak ae)))),fun xs ω Q h=>?_⟩)
  obtain ⟨n,i,b,ys,zs,rfl,hF,k⟩:=h
  have hn5:=hF.n5
  have hi:=hF.i
  have hyl:=Nat.le_trans hF.y.length_le (me hF.n5)
  have hzl:=Nat.le_trans hF.z.length_le (me hF.n5)
  have inner : ∀ (ws : List (List Int)) (ω : Om),ws.Sublist (wl n)->∀ {v0 : Option AV} {KK : List AV->SA->Om->Prop},(∀ ρ,KK (((ws.filter fun v=>decide (v.getD i 0 = b)).map wdD).map AV.d) ρ ω)->dj (eK 0) (ux (aOp (Dl false) (aOp aIx (cV 0) (cV 1)) (cV 2))) (ig (cV 0)) ((ws.map wdD).map AV.d) [] [v0,some (.d (.int i)),some (.d (.int b))] ω KK:=fun ws ω hw v0 KK hk=>by
    have hl:=Nat.le_trans hw.length_le (me hF.n5)
    refine qv wdD (fun v=>decide (v.getD i 0 = b)) wdD (Nat.le_of_lt (bi (by omega))) (fun v hv Q q=>?_) (fun v hv _ Q q=>?_) hk
    · have hvl:=(eh (hw.mem hv)).1
      walk_at "a1"
      refine ⟨_,t5 (by omega) (by omega),_,rfl,by simp [dep],?_⟩
      rw [eU,Int.toNat_natCast]
      exact q
    · walk_at "a1"
      exact q
  simp only [csD]
  walk_at "s1"
  rw [show gv [D.int (n : Int),D.tup (List.map wdD ys),D.tup (List.map wdD zs)] (some 1) none = [D.tup (List.map wdD ys),D.tup (List.map wdD zs)] from rfl]
  refine nu (rs:=[D.int ((fxV i b ys).length : Int),D.int ((fxV i b zs).length : Int)]) rfl (Nat.le_of_lt (bi (by simp))) (fun j e r h1 h2 Q q=>?_) (fun ρ=>⟨_,bn _,?_⟩)
  · have el : ∀ ws : List (List Int),(fxV i b ws).length = (ws.filter fun v=>decide (v.getD i 0 = b)).length:=fun ws=>by simp [fxV]
    rw [el,el] at h2
    have hj : j < 2:=by have:=(List.getElem?_eq_some_iff.mp h2).1;simpa using this
    rcases (by omega : j = 0\/j = 1) with rfl | rfl
    · cases h1
      cases h2
      walk_at "a1"
      refine inner ys ω hF.y fun ρ=>⟨_,bn _,?_⟩
      simpa using q
    · cases h1
      cases h2
      walk_at "a1"
      refine inner zs ω hF.z fun ρ=>⟨_,bn _,?_⟩
      simpa using q
  · rw [av]
    refine gr (fun h1=>⟨by simp [gq,dep],?_⟩) (fun h1=>?_)
    · rw [show (!inD (D.int 0) [D.int ((fxV i b ys).length : Int),D.int ((fxV i b zs).length : Int)]) = !decide (bad n i b ys zs) from by
        congr 1
        simp only [inD,eU,List.any_cons,List.any_nil,Bool.or_false]
        rw [Bool.eq_iff_iff,Bool.or_eq_true,decide_eq_true_eq,beq_iff_eq,beq_iff_eq]
        have e0 : ∀ l : List (List Int),((l.length : Int) = 0)↔l = []:=fun l=>by rw [← List.length_eq_zero_iff];omega
        rw [e0,e0]
        constructor
        · exact fun h=>.inr h
        · rintro (h | h)
          · omega
          · exact h]
      exact k
    · rw [show decide (1 < (n : Int)) = !decide (bad n i b ys zs) from by
        rw [decide_eq_false h1,decide_eq_true (show bad n i b ys zs from .inl (by have:=hF.n1;omega))];rfl]
      exact k
def Ep : ASp:=fun xs ω Q=>∃ (n i : Nat) (v : List Int),xs = [.d (wdD (v.eraseIdx i)),.d (.int i),.d (.int (v.getD i 0))]/\n<=5/\i < n/\v∈wl n/\Q (.d (wdD v)) ω
theorem Jj (T : Txt K mg t) : aJ P w K mg base CX0 1 t.cC t.jb ["_law_word","_law_place","_law_bit"] (aN Ep):=by
  refine T.yX.okD yd (fun xs ω Q h=>by obtain ⟨n,i,v,rfl,_⟩:=h;rfl) (fun cdv A outer s H E hr=>⟨_,_,(al (aD (bb (aW cH (aW bU cI)) (bb (aW cH (aW bU cI)) (ko (rX K rfl) (pv 0) nJ (nv (pv 1))) (aR (aa (pv 2) af))) (ko (rX K rfl) (pv 0) (nv (pv 1)) nJ)))),(aT (ap eD (ap eD (CF ae rJ (rE ae)) (a9 (ac ae ai))) (CF ae (rE ae) rJ))),fun xs ω Q h=>?_⟩)
  obtain ⟨n,i,v,rfl,hn,hi,hv,k⟩:=h
  have e:=yW ⟨n,by omega⟩ ⟨i,by omega⟩ v hv hi
  walk_at "a1"
  have h1:=(nU (v.eraseIdx i) none (some (i : Int))).length_le
  have h2:=(nU (v.eraseIdx i) (some (i : Int)) none).length_le
  have h3:=List.length_eraseIdx_le v i
  have h4:=(eh hv).1
  refine ⟨Nat.le_of_lt (bi (by omega)),Nat.le_of_lt (bi (by omega)),?_⟩
  simp only at e
  rw [e,av]
  exact k
end
section
variable {P : Program} {w : World} {K : PySem.W.Frag} {mg : Str->Option Value} {base : Heap} {t : Adr}
structure Sx (n i : Nat) (b : Int) (r : Bool) (ys zs : List (List Int)) (u : Ta) : Prop where
  n2 : 2<=n
  n5 : n<=5
  i : i < n
  b : b = 0\/b = 1
  y : ys.Sublist (wl n)
  z : zs.Sublist (wl n)
  hu : sb n u
  lt : Lt false ys zs u
  lr : r = true->Lt true ys zs u
  dp : u.dp<=12
  sz : u.size<=200
def Es : ASp:=fun xs ω Q=>∃ (n i : Nat) (b : Int) (r : Bool) (ys zs : List (List Int)) (u : Ta),xs = [.d (csD n ys zs),.d u.d,.d (.int i),.d (.int b),.d (csD (n - 1 : Nat) (fxV i b ys) (fxV i b zs)),.d (fxT i b u).d,.d (.bl r)]/\Sx n i b r ys zs u/\Q (.d (.bl true)) ω
theorem Kt (T : Txt K mg t) : aJ P w K mg base CX0 2 t.bh t.d0 ["_law_case","_law_talk","_law_place","_law_bit","_law_small","_law_short","_law_is_rising"] (aN Es):=by
  have G_l_put_in : aJ P w K mg base CX0 1 t.cC t.jb ["_law_word","_law_place","_law_bit"] (aN Ep):=Jj T
  have G_spoken : aJ P w K mg base CX0 1 t.du t.kw ["talk","yes","no"] (aN oI):=t6 T
  refine T.qb.okD bL (fun xs ω Q h=>by obtain ⟨n,i,b,r,ys,zs,u,rfl,_⟩:=h;rfl) (fun cdv A outer s H E hr=>⟨_,_,(ah (gp PassesOwn.never rfl (bY K rfl (ar (aj K rfl) (pv 4) ag (fun _ _=>rfl))) (aG (i:=7) bL.nd rfl (Or.inl rfl)) (al (gp PassesOwn.never rfl (bY K rfl (ar (aj K rfl) (pv 4) ag (fun _ _=>rfl))) (aG (i:=8) bL.nd rfl (Or.inl rfl)) (ah (aL (i:=9) bL.nd rfl (Or.inl rfl) (aR (aa (am G_l_put_in (hr.mono (by omega)) (by rfl) T.rW T.rF T.rV .nil aB (aa (pv 7) (aa (pv 2) (aa (pv 3) af)))) (aa (am G_l_put_in (hr.mono (by omega)) (by rfl) T.rW T.rF T.rV .nil aB (aa (pv 8) (aa (pv 2) (aa (pv 3) af)))) af))))
      (ah (bz (PW.pt (ri (aE (kX hr.u100) (ar (aj K rfl) (pv 9) ag (fun _ _=>rfl)) (ar (aj K rfl) (pv 0) ag (fun _ _=>rfl)) (by with_unfolding_all rfl)) (mB (aE (kX hr.u100) (ar (aj K rfl) (pv 9) ag (fun _ _=>rfl)) (ar (aj K rfl) (pv 0) ag (fun _ _=>rfl)) (by with_unfolding_all rfl))))) (al (aD eM)) aY)
      (ah (mR (am G_spoken (hr.mono (by omega)) (by rfl) T.re T.sI T.rR .nil aB (aa (pv 1) (aa (ar (aj K rfl) (pv 9) ag (fun _ _=>rfl)) (aa (ar (aj K rfl) (pv 9) ag (fun _ _=>rfl)) af)))) (d7 K rfl (n:=2) rfl (a8 (aG (i:=10) bL.nd rfl (Or.inl rfl)) (a8 (aG (i:=11) bL.nd rfl (Or.inl rfl)) dU))))
      (ah (bz (PW.pt (ri (aE (mm hr.u100) (am G_spoken (hr.mono (by omega)) (by rfl) T.re T.sI T.rR .nil aB (aa (pv 5) (aa (pv 7) (aa (pv 8) af)))) (aR (aa (pv 10) (aa (bb kJ (pv 11) (da lu (by rfl) T.Bj (by kernel_rfl) (aa (cr j3 (pv 11) (pv 2) (aK _)) af))) af))) (aK _)) (mB (aE (bd hr.u100) (pv 11) (pv 2) (aK _))))) (al (aD eM)) aY)
      (ah (aL (i:=12) bL.nd rfl (Or.inl rfl) (bb kJ (pv 11) (da lu (by rfl) T.Bj (by kernel_rfl) (aa (cr j3 (pv 11) (pv 2) (aK _)) af))))
      (al (bz (PW.pt (ri (aE (bd hr.u100) (ar (aj K rfl) (pv 7) (pv 12) (fun _ _=>rfl)) (ar (aj K rfl) (pv 8) (pv 12) (fun _ _=>rfl)) (aK _)) (mB (PW.pt (wn (bp K rfl (pv 6) (fun _=>rfl)) (qx (aE (bd hr.u100) (ar (aj K rfl) (pv 7) (pv 12) (fun _ _=>rfl)) ag (aK _)))))))) (al (aD eM)) aY))))))))))
      (al (aD eM))),(au (j8 (dk (ap aM ae ak)) ao (j8 (dk (ap aM ae ak)) ao (au (aO (a9 (ac (aq (ac ae (ac ae (ac ae ai)))) (ac (aq (ac ae (ac ae (ac ae ai)))) ai))) ao)
      (au (cQ (yT (aQ (ap yy (ap aM ae ak) (ap aM ae ak))) (aQ (ap yy (ap aM ae ak) (ap aM ae ak)))) (aT jL) bf)
      (au (aO (aq (ac ae (ac (ap aM ae ak) (ac (ap aM ae ak) ai)))) (jG (bG ao (bG ao jH))))
      (au (cQ (yT (aQ (ap bj (aq (ac ae (ac ae (ac ae ai)))) (a9 (ac ae (ac (ap ni ae (eJ As (ac (ap fO ae ae) ai))) ai))))) (aQ (ap bj ae ae))) (aT jL) bf)
      (au (aO (ap ni ae (eJ As (ac (ap fO ae ae) ai))) ao)
      (cQ (yT (aQ (ap bj (ap aM ae ae) (ap aM ae ae))) (Ba (eY ae) (aQ (ap bj (ap aM ae ae) ak)))) (aT jL) bf))))))))
      (aT jL)),fun xs ω Q h=>?_⟩)
  obtain ⟨n,i,b,r,ys,zs,u,rfl,S,k⟩:=h
  have hn5:=S.n5
  have hi:=S.i
  have hyl:=Nat.le_trans S.y.length_le (me S.n5)
  have hzl:=Nat.le_trans S.z.length_le (me S.n5)
  simp only [csD]
  walk_at "s1"
  refine pW (fun j ρ ω'=>ω' = ω/\∃ v7 v8 v9 v10 v11 v12,ρ = [some (.d (csD n ys zs)),some (.d u.d),some (.d (.int i)),some (.d (.int b)),some (.d (csD (n - 1 : Nat) (fxV i b ys) (fxV i b zs))),some (.d (fxT i b u).d),some (.d (.bl r)),v7,v8,v9,v10,v11,v12]) ⟨rfl,_,_,_,_,_,_,rfl⟩ ?_ ?_
  · rintro j d ρ ω' N hd ⟨rfl,v7,v8,v9,v10,v11,v12,rfl⟩ kN
    obtain ⟨y',hy',rfl⟩:=eV hd
    obtain ⟨y,hy,yb,rfl⟩:=nw.mp (List.mem_of_getElem? hy')
    have hyw:=S.y.mem hy
    simp only [csD]
    walk_at "a1"
    refine pW (fun j ρ ω2=>ω2 = ω'/\∃ v8 v9 v10 v11 v12,ρ = [some (.d (csD n ys zs)),some (.d u.d),some (.d (.int i)),some (.d (.int b)),some (.d (csD (n - 1 : Nat) (fxV i b ys) (fxV i b zs))),some (.d (fxT i b u).d),some (.d (.bl r)),some (.d (wdD (y.eraseIdx i))),v8,v9,v10,v11,v12]) ⟨rfl,_,_,_,_,_,rfl⟩ ?_ ?_
    · rintro j2 d ρ ω' N2 hd2 ⟨rfl,v8,v9,v10,v11,v12,rfl⟩ kN2
      obtain ⟨z',hz',rfl⟩:=eV hd2
      obtain ⟨z,hz,zb,rfl⟩:=nw.mp (List.mem_of_getElem? hz')
      have hzw:=S.z.mem hz
      obtain ⟨p1,p2,p3,p4,p5,p6⟩:=GO hn5 hi hyw hzw yb zb S.hu (S.lt y hy z hz)
      obtain ⟨f1,f2⟩:=vP hn5 hi hyw hzw yb zb S.hu
      simp only [csD]
      walk_at "s1"
      refine ⟨n,i,y,by rw [yb],hn5,hi,hyw,n,i,z,by rw [zb],hn5,hi,hzw,_,rfl,?_⟩
      have dY:=jZ ys
      have dZ:=jZ zs
      walk_at "s1"
      rw [rg,rg,decide_eq_true hy,decide_eq_true hz]
      refine ⟨by omega,by omega,?_⟩
      rw [if_neg (by decide)]
      walk_at "s1"
      refine ⟨u,y,z,n,rfl,jO hn5 S.hu,by have:=S.dp;omega,?_⟩
      simp only [yF]
      have hfx : fxP i (Ta.fin y z u) = Ta.fin y z u - (if (i : Int) < Ta.fin y z u then 1 else 0):=by
        simp only [fxP]
        rw [if_neg p1]
        by_cases h : (i : Int) < Ta.fin y z u
        · rw [if_pos h,if_pos h]
        · rw [if_neg h,if_neg h];omega
      walk_at "a1"
      have hu':=jO (n:=n - 1) (by omega) (oS S.n2 hn5 hi S.b S.hu)
      walk_at "s1"
      refine ⟨fxT i b u,y.eraseIdx i,z.eraseIdx i,n - 1,rfl,hu',by rw [(uC u).1];have:=S.dp;omega,?_⟩
      rw [← hfx]
      refine ⟨_,rfl,by simp only [yF,dep,gq,ug];omega,?_⟩
      rw [show yF (y.eraseIdx i) (z.eraseIdx i) (fxT i b u) = D.tup [D.lst ((Ta.way y z u).map D.int),D.int (fxP i (Ta.fin y z u))] from by simp only [yF,f1,f2],nA]
      rw [if_neg (by decide),if_neg p1]
      walk_at "s1"
      rw [← hfx]
      have ly : (y.eraseIdx i).length = n - 1:=by rw [List.length_eraseIdx,(eh hyw).1,if_pos hi]
      have lz : (z.eraseIdx i).length = n - 1:=by rw [List.length_eraseIdx,(eh hzw).1,if_pos hi]
      have ay:=t5 (w:=y.eraseIdx i) (i:=fxP i (Ta.fin y z u)) p3 (by omega)
      have az:=t5 (w:=z.eraseIdx i) (i:=fxP i (Ta.fin y z u)) p3 (by omega)
      rw [p5] at ay
      rw [p6] at az
      have hlt:=S.lt y hy z hz
      simp only [ppB,Bool.false_eq_true,if_false,Bool.not_eq_true',decide_eq_false_iff_not] at hlt
      refine ⟨_,ay,_,az,_,rfl,_,rfl,by simp [dep],?_⟩
      rw [eU,if_neg (by simpa using hlt)]
      refine gr (fun hr=>?_) (fun hr=>kN2 _ _ ⟨rfl,_,_,_,_,_,rfl⟩)
      have hlr:=S.lr hr y hy z hz
      simp only [ppB,if_true,Bool.and_eq_true,decide_eq_true_eq] at hlr
      refine ⟨_,ay,_,rfl,by simp [dep],?_⟩
      rw [eU,hlr.1,if_neg (by decide)]
      exact kN2 _ _ ⟨rfl,_,_,_,_,_,rfl⟩
    · rintro ρ ω2 ⟨rfl,v8,v9,v10,v11,v12,rfl⟩
      exact kN _ _ ⟨rfl,_,_,_,_,_,_,rfl⟩
  · rintro ρ ω2 ⟨rfl,v7,v8,v9,v10,v11,v12,rfl⟩
    dsimp only
    walk_at "a1"
    rw [av]
    exact k
end
section
variable {P : Program} {w : World} {K : PySem.W.Frag} {mg : Str->Option Value} {base : Heap} {t : Adr}
def vY : ASp:=fun xs ω Q=>∃ (n i : Nat) (b : Int) (r : Bool) (ys zs : List (List Int)) (u : Ta),xs = [.d (csD n ys zs),.d u.d,.d (csD (n - 1 : Nat) (fxV i b ys) (fxV i b zs)),.d (fxT i b u).d]/\Sx n i b r ys zs u/\fxV i b ys≠[]/\fxV i b zs≠[]/\Q (.d (.bl true)) ω
theorem Fn (T : Txt K mg t) : aJ P t.wo K mg base CX0 9 t.cc t.gJ ["_law_case","_law_talk","_law_small","_law_short"] (aN vY):=by
  have G_cut : aJ P t.wo K mg base CX0 3 t.kK t.ye ["case","talk"] (aN yM):=Ef T
  have G_saying_of : aJ P t.wo K mg base CX0 4 t.cg t.gz ["case","talk"] (aN Ar):=Fq T
  have G_parts : aJ P t.wo K mg base CX0 8 t.eX t.nh ["case","saying"] (aN qX):=wC T
  have G_leaves : aJ P t.wo K mg base CX0 3 t.dO t.ny ["saying"] (aN t7):=Cg T
  have G_deep : aJ P t.wo K mg base CX0 7 t.gL t.vd ["saying"] (aN Av):=FO T
  have G_talk_leaves : aJ P t.wo K mg base CX0 3 t.bu t.dR ["talk"] (aN gl):=j7 T
  have G_talk_deep : aJ P t.wo K mg base CX0 7 t.bT t.fK ["talk"] (aN jc):=nI T
  refine T.xT.okD fY (fun xs ω Q h=>by obtain ⟨n,i,b,r,ys,zs,u,rfl,_⟩:=h;rfl) (fun cdv A outer s H E hr=>⟨_,_,(ah (aL (i:=4) fY.nd rfl (Or.inl rfl) (am G_cut (hr.mono (by omega)) (by rfl) T.DY T.Dr T.CP .nil aB (aa (pv 0) (aa (pv 1) af))))
      (ah (aL (i:=5) fY.nd rfl (Or.inl rfl) (am G_cut (hr.mono (by omega)) (by rfl) T.DY T.Dr T.CP .nil aB (aa (pv 2) (aa (pv 3) af))))
      (ah (aL (i:=6) fY.nd rfl (Or.inl rfl) (am G_saying_of (hr.mono (by omega)) (by rfl) T.xR T.xC T.wU .nil aB (aa (pv 2) (aa (pv 3) af))))
      (ah (bz (PW.pt (ri (gW (bp K rfl (am G_parts (hr.mono (by omega)) (by rfl) T.AB T.zZ T.AY .nil aB (aa (pv 2) (aa (pv 6) af))) (fun _=>rfl))) (mB (aE (mm hr.u100) (aR (aa (am G_leaves (hr.mono (by omega)) (by rfl) T.Dy T.DH T.CW .nil aB (aa (pv 6) af)) (aa (am G_deep (hr.mono (by omega)) (by rfl) T.Jk T.ID T.IZ .nil aB (aa (pv 6) af)) af))) (aR (aa (am G_talk_leaves (hr.mono (by omega)) (by rfl) T.dH T.dJ T.dM .nil aB (aa (pv 5) af)) (aa (am G_talk_deep (hr.mono (by omega)) (by rfl) T.fJ T.fF T.fG .nil aB (aa (pv 5) af)) af))) (aK _))))) (al (aD eM)) aY)
      (al (aD (m7 K rfl (cr Hg (am G_talk_leaves (hr.mono (by omega)) (by rfl) T.dH T.dJ T.dM .nil aB (aa (pv 5) af)) (am G_talk_leaves (hr.mono (by omega)) (by rfl) T.dH T.dJ T.dM .nil aB (aa (pv 4) af)) (aK _)) (pC (cr Hg (am G_talk_deep (hr.mono (by omega)) (by rfl) T.fJ T.fF T.fG .nil aB (aa (pv 5) af)) (am G_talk_deep (hr.mono (by omega)) (by rfl) T.fJ T.fF T.fG .nil aB (aa (pv 4) af)) (aK _)))))))))),(au (aO (aq (ac ae (ac ae ai))) ao)
      (au (aO (aq (ac ae (ac ae ai))) ao)
      (au (aO (aq (ac ae (ac ae ai))) ao)
      (au (cQ (yT (ma (eY (aq (ac ae (ac ae ai))))) (aQ (ap bj (a9 (ac (aq (ac ae ai)) (ac (aq (ac ae ai)) ai))) (a9 (ac (aq (ac ae ai)) (ac (aq (ac ae ai)) ai)))))) (aT jL) bf)
      (aT (r9 (ap fO (aq (ac ae ai)) (aq (ac ae ai))) (ap fO (aq (ac ae ai)) (aq (ac ae ai))))))))),fun xs ω Q h=>?_⟩)
  obtain ⟨n,i,b,r,ys,zs,u,rfl,S,hy1,hz1,k⟩:=h
  have hn5:=S.n5
  have hi:=S.i
  have sdp:=S.dp
  have ssz:=S.sz
  have hsb:=oS S.n2 hn5 hi S.b S.hu
  obtain ⟨q1,q2,q3⟩:=uC (i:=i) (b:=b) u
  have hyw : Wds (n - 1) (fxV i b ys):=Wds.sub (jx hn5 hi S.b S.y) (by omega)
  have hzw : Wds (n - 1) (fxV i b zs):=Wds.sub (jx hn5 hi S.b S.z) (by omega)
  have hW : Ww (n - 1) (fxV i b ys,fxV i b zs):=⟨hyw,hzw⟩
  have hh : has (fxq i b (ys,zs)) = true:=d6.mpr ⟨hy1,hz1⟩
  have hlt:=qu (Bt (b:=b) hn5 hi S.y S.z S.hu S.lt)
  obtain ⟨c1,c2⟩:=wb hn5 hi S.hu (q:=(ys,zs)) (fun v hv=>S.y.mem hv) (fun v hv=>S.z.mem hv) hh
  obtain ⟨co,cd,cs⟩:=jt (fxV i b ys,fxV i b zs) (jO (by omega) hsb)
  obtain ⟨do_,dd,ds⟩:=jt (ys,zs) (jO hn5 S.hu)
  obtain ⟨m1,m2,m3⟩:=vC _ _ hW co
  obtain ⟨v1,v2⟩:=rS _ _ hW (zg hh hlt)
  have PA' : rd (n - 1) (fD (fxV i b ys,fxV i b zs) (c5 (fxT i b u) (fxV i b ys,fxV i b zs))) (fxV i b ys) (fxV i b zs):=⟨hyw,hzw,v1,v2,hy1,hz1⟩
  walk_at "s1"
  refine ⟨n,(ys,zs),u,rfl,hn5,⟨Wds.sub S.y hn5,Wds.sub S.z hn5⟩,jO hn5 S.hu,by omega,?_⟩
  walk_at "s1"
  refine ⟨n - 1,(fxV i b ys,fxV i b zs),fxT i b u,rfl,by omega,hW,jO (by omega) hsb,by omega,?_⟩
  walk_at "s1"
  refine ⟨n - 1,(fxV i b ys,fxV i b zs),fxT i b u,rfl,by omega,hW,hh,jO (by omega) hsb,by omega,hlt,?_⟩
  simp only [fxq] at c1 c2
  generalize fD (fxV i b ys,fxV i b zs) (c5 (fxT i b u) (fxV i b ys,fxV i b zs)) = m at *
  generalize c5 (fxT i b u) (fxV i b ys,fxV i b zs) = v at *
  generalize c5 u (ys,zs) = v0 at *
  walk_at "s1"
  refine ⟨n - 1,fxV i b ys,fxV i b zs,m,rfl,PA',m1,by omega,_,rfl,?_⟩
  rw [if_neg (by decide)]
  refine ⟨m,rfl,by omega,m,rfl,by omega,_,rfl,v,rfl,by omega,v,rfl,by omega,_,rfl,by simp [dep,gq],?_⟩
  rw [m2,m3,nA,if_neg (by decide)]
  refine ⟨v,rfl,by omega,v0,rfl,by omega,_,rfl,_,rfl,?_⟩
  rw [if_pos (Int.ofNat_le.mpr c1)]
  refine ⟨v,rfl,by omega,v0,rfl,by omega,_,rfl,_,rfl,?_⟩
  rw [av,decide_eq_true (Int.ofNat_le.mpr c2)]
  exact k
def GQ : ASp:=fun xs ω Q=>∃ (n i : Nat) (b : Int) (r : Bool) (ys zs : List (List Int)) (u : Ta),xs = [.d (csD n ys zs),.d u.d,.d (.int i),.d (.int b),.d (.bl r)]/\Sx n i b r ys zs u/\Q (.d (.bl true)) ω
theorem Ka (T : Txt K mg t) : aJ P t.wo K mg base CX0 10 t.db t.lC ["_law_case","_law_talk","_law_place","_law_bit","_law_is_rising"] (aN GQ):=by
  have G_l_fixed : aJ P t.wo K mg base CX0 4 t.cJ t.iM ["_law_case","_law_place","_law_bit"] (aN we):=Bs T
  have G_l_stays : aJ P t.wo K mg base CX0 1 t.dg t.lB ["_law_case","_law_place","_law_bit"] (aN xN):=EO T
  have G_fixed_talk : aJ P t.wo K mg base CX0 8 t.bw t.dB ["talk","place","bit"] (aN D6):=Hj T
  have G_talk_leaves : aJ P t.wo K mg base CX0 3 t.bu t.dR ["talk"] (aN gl):=j7 T
  have G_talk_deep : aJ P t.wo K mg base CX0 7 t.bT t.fK ["talk"] (aN jc):=nI T
  have G_lets_by : aJ P t.wo K mg base CX0 3 t.cn t.gc ["case","rule","talk"] (aN qA):=vI T
  have G_l_pairs_right : aJ P t.wo K mg base CX0 2 t.bh t.d0 ["_law_case","_law_talk","_law_place","_law_bit","_law_small","_law_short","_law_is_rising"] (aN Es):=Kt T
  have G_l_no_more : aJ P t.wo K mg base CX0 9 t.cc t.gJ ["_law_case","_law_talk","_law_small","_law_short"] (aN vY):=Fn T
  refine T.BR.okD iZ (fun xs ω Q h=>by obtain ⟨n,i,b,r,ys,zs,u,rfl,_⟩:=h;rfl) (fun cdv A outer s H E hr=>⟨_,_,(ah (mR (am G_l_fixed (hr.mono (by omega)) (by rfl) T.tO T.uK T.t9 .nil aB (aa (pv 0) (aa (pv 2) (aa (pv 3) af)))) (d7 K rfl (n:=2) rfl (a8 (aG (i:=5) iZ.nd rfl (Or.inl rfl)) (a8 (aG (i:=6) iZ.nd rfl (Or.inl rfl)) dU))))
      (ah (bz (aE (mm hr.u100) (pv 5) (am G_l_stays (hr.mono (by omega)) (by rfl) T.BM T.BE T.BV .nil aB (aa (pv 0) (aa (pv 2) (aa (pv 3) af)))) (aK _)) (al (aD eM)) aY)
      (ah (bz (gW (bp K rfl (pv 5) (fun _=>rfl))) (al (aD eM)) aY)
      (ah (aL (i:=7) iZ.nd rfl (Or.inl rfl) (am G_fixed_talk (hr.mono (by omega)) (by rfl) T.mW T.m9 T.fP .nil aB (aa (pv 1) (aa (pv 2) (aa (pv 3) af)))))
      (ah (bz (aE (mm hr.u100) (aR (aa (am G_talk_leaves (hr.mono (by omega)) (by rfl) T.dH T.dJ T.dM .nil aB (aa (pv 7) af)) (aa (am G_talk_deep (hr.mono (by omega)) (by rfl) T.fJ T.fF T.fG .nil aB (aa (pv 7) af)) af))) (aR (aa (am G_talk_leaves (hr.mono (by omega)) (by rfl) T.dH T.dJ T.dM .nil aB (aa (pv 1) af)) (aa (am G_talk_deep (hr.mono (by omega)) (by rfl) T.fJ T.fF T.fG .nil aB (aa (pv 1) af)) af))) (aK _)) (al (aD eM)) aY)
      (ah (bz (PW.pt (ri (aE vg (am G_lets_by (hr.mono (by omega)) (by rfl) T.kZ T.lh T.lG .nil aB (aa (pv 6) (aA aP (aa (pv 7) af)))) eM (aK _)) (mB (PW.pt (wn (bp K rfl (pv 4) (fun _=>rfl)) (qx (aE vg (am G_lets_by (hr.mono (by omega)) (by rfl) T.kZ T.lh T.lG .nil aB (aa (pv 6) (aA aP (aa (pv 7) af)))) eM (aK _)))))))) (al (aD eM)) aY)
      (ah (bz (gW (bp K rfl (am G_l_pairs_right (hr.mono (by omega)) (by rfl) T.qj T.qc T.p9 .nil aB (aa (pv 0) (aa (pv 1) (aa (pv 2) (aa (pv 3) (aa (pv 6) (aa (pv 7) (aa (pv 4) af)))))))) (fun _=>rfl))) (al (aD eM)) aY)
      (al (aD (am G_l_no_more (hr.mono (by omega)) (by rfl) T.xA T.xi T.xP .nil aB (aa (pv 0) (aa (pv 1) (aa (pv 6) (aa (pv 7) af)))))))))))))),(au (aO (aq (ac ae (ac ae (ac ae ai)))) (jG (bG ao (bG ao jH))))
      (au (cQ (aQ (ap bj ae (aq (ac ae (ac ae (ac ae ai)))))) (aT jL) bf)
      (au (cQ (ma (eY ae)) (aT jL) bf)
      (au (aO (aq (ac ae (ac ae (ac ae ai)))) ao)
      (au (cQ (aQ (ap bj (a9 (ac (aq (ac ae ai)) (ac (aq (ac ae ai)) ai))) (a9 (ac (aq (ac ae ai)) (ac (aq (ac ae ai)) ai))))) (aT jL) bf)
      (au (cQ (yT (aQ (ap EJ (aq (ac ae (ac bc (ac ae ai)))) jL)) (Ba (eY ae) (aQ (ap EJ (aq (ac ae (ac bc (ac ae ai)))) jL)))) (aT jL) bf)
      (au (cQ (ma (eY (aq (ac ae (ac ae (ac ae (ac ae (ac ae (ac ae (ac ae ai)))))))))) (aT jL) bf)
      (aT (aq (ac ae (ac ae (ac ae (ac ae ai))))))))))))),fun xs ω Q h=>?_⟩)
  obtain ⟨n,i,b,r,ys,zs,u,rfl,S,k⟩:=h
  have hn5:=S.n5
  have hn2:=S.n2
  have hi:=S.i
  have sdp:=S.dp
  have ssz:=S.sz
  have hF : Fx n i b ys zs:=⟨by omega,hn5,hi,S.b,S.y,S.z⟩
  walk_at "s1"
  refine ⟨n,i,b,ys,zs,rfl,hF,?_⟩
  unfold FL
  by_cases hb : bad n i b ys zs
  · rw [if_pos hb]
    walk_at "s1"
    refine ⟨n,i,b,ys,zs,rfl,hF,_,rfl,?_⟩
    rw [decide_eq_true hb]
    walk_at "s1"
    rw [if_neg (by decide),av]
    exact k
  rw [if_neg hb]
  have hyw : Wds (n - 1) (fxV i b ys):=Wds.sub (jx hn5 hi S.b S.y) (by omega)
  have hzw : Wds (n - 1) (fxV i b zs):=Wds.sub (jx hn5 hi S.b S.z) (by omega)
  have hsb:=oS S.n2 hn5 hi S.b S.hu
  obtain ⟨q1,q2,q3⟩:=uC (i:=i) (b:=b) u
  have pre : IH (n - 1) (fxV i b ys) (fxV i b zs) (fxT i b u):=⟨by omega,jO (by omega) hsb,by omega,hyw,hzw⟩
  walk_at "s1"
  refine ⟨n,i,b,ys,zs,rfl,hF,_,rfl,?_⟩
  rw [decide_eq_false hb]
  walk_at "s1"
  rw [if_neg (by decide)]
  have hy1 : fxV i b ys≠[]:=fun e=>hb (.inr (.inl e))
  have hz1 : fxV i b zs≠[]:=fun e=>hb (.inr (.inr e))
  walk_at "s1"
  refine ⟨u,n,i,b,rfl,by omega,hn5,hi,S.hu,by omega,?_⟩
  walk_at "s1"
  refine ⟨fxT i b u,rfl,by omega,fxT i b u,rfl,by omega,_,rfl,u,rfl,by omega,u,rfl,by omega,_,rfl,by simp [dep,gq],?_⟩
  rw [q1,q2,nA,if_neg (by decide)]
  walk_at "s1"
  refine ⟨false,n - 1,fxV i b ys,fxV i b zs,fxT i b u,rfl,pre,_,rfl,?_⟩
  rw [qu (Bt (b:=b) hn5 hi S.y S.z S.hu S.lt),if_neg (by decide)]
  have bv : ∀ {ω' : Om},ω' = ω->Cn (EM (HN (EL (xk Es (dt (cV 0) (dt (cV 1) (dt (cV 2) (dt (cV 3) (dt (cV 6) (dt (cV 7) (dt (cV 4) ss)))))))))) (Gp (aC (D.bl false))) Ew) (Gp (xk vY (dt (cV 0) (dt (cV 1) (dt (cV 6) (dt (cV 7) ss))))))
      { nx:=fun x ω'=>Q (AV.d D.non) (ω'.only ω),rt:=fun a ω'=>∃ d,a = AV.d d/\Q (AV.d d) (ω'.only ω) } [some (AV.d (csD n ys zs)),some (AV.d u.d),some (AV.d (D.int ↑i)),some (AV.d (D.int b)),some (AV.d (D.bl r)),some (AV.d (D.bl true)),some (AV.d (csD (n - 1 : Nat) (fxV i b ys) (fxV i b zs))),some (AV.d (fxT i b u).d)] ω':=fun {ω'} e=>by
    subst e
    walk_at "s1"
    refine ⟨n,i,b,r,ys,zs,u,rfl,S,_,rfl,?_⟩
    rw [if_neg (by decide)]
    refine ⟨n,i,b,r,ys,zs,u,rfl,S,hy1,hz1,_,rfl,?_⟩
    rw [av]
    exact k
  refine gr (fun hr=>?_) (fun hr=>bv rfl)
  refine ⟨true,n - 1,fxV i b ys,fxV i b zs,fxT i b u,rfl,pre,_,rfl,?_⟩
  rw [qu (Bt (b:=b) hn5 hi S.y S.z S.hu (S.lr hr)),if_neg (by decide)]
  exact bv rfl
structure Sd (n : Nat) (ys zs : List (List Int)) (u : Ta) : Prop where
  n1 : 1<=n
  n5 : n<=5
  y : ys.Sublist (wl n)
  z : zs.Sublist (wl n)
  hu : sb n u
  lt : Lt false ys zs u
  dp : u.dp<=12
  sz : u.size<=200
def Az (K : PySem.W.Frag) : ASp:=fun xs ω Q=>∃ (p : Addr) (n : Nat) (ys zs : List (List Int)) (u : Ta),xs = [.r (.ref p),.d (csD n ys zs),.d u.d]/\xz K ω p/\Sd n ys zs u/\∀ c : Pq,Q (.d (.bl true)) (ω.put p (pdO K c))
theorem Gc (T : Txt K mg t) : aJ P t.wo K mg base CX0 10 t.dG t.m4 ["_law_mine_here","_law_case","_law_talk"] (aN (Az K)):=by
  have G_l_dig : aJ P t.wo K mg base CX0 1 t.dy t.jq ["_law_mine_here","_law_many"] (aN (n9 K)):=qt T
  have G_l_fixed : aJ P t.wo K mg base CX0 4 t.cJ t.iM ["_law_case","_law_place","_law_bit"] (aN we):=Bs T
  have G_fixed_talk : aJ P t.wo K mg base CX0 8 t.bw t.dB ["talk","place","bit"] (aN D6):=Hj T
  have G_lets_by : aJ P t.wo K mg base CX0 3 t.cn t.gc ["case","rule","talk"] (aN qA):=vI T
  refine T.Db.okD fh (fun xs ω Q h=>by obtain ⟨p,n,ys,zs,u,rfl,_⟩:=h;rfl) (fun cdv A outer s H E hr=>⟨_,_,(ah (gp PassesOwn.never rfl (oW rfl T.ql (aa (bb kJ (ar (aj K rfl) (pv 1) ag (fun _ _=>rfl)) ag) af)) (aG (i:=3) fh.nd rfl (Or.inl rfl)) (ah (aL (i:=4) fh.nd rfl (Or.inl rfl) (am G_l_dig (hr.mono (by omega)) (by rfl) T.cD T.cF T.cE .nil aB (aa (pv 0) (aa (ar (aj K rfl) (pv 1) ag (fun _ _=>rfl)) af))))
      (ah (aL (i:=5) fh.nd rfl (Or.inl rfl) (am G_l_dig (hr.mono (by omega)) (by rfl) T.cD T.cF T.cE .nil aB (aa (pv 0) (aA ag af))))
      (ah (mR (am G_l_fixed (hr.mono (by omega)) (by rfl) T.tO T.uK T.t9 .nil aB (aa (pv 1) (aa (pv 4) (aa (pv 5) af)))) (d7 K rfl (n:=2) rfl (a8 (aG (i:=6) fh.nd rfl (Or.inl rfl)) (a8 (aG (i:=7) fh.nd rfl (Or.inl rfl)) dU))))
      (al (bz (bp K rfl (pv 6) (fun _=>rfl)) (ah (HE (i:=1) (j:=2) rfl fh.nd rfl rfl (by decide) rfl rfl (aa (pv 7) (aa (am G_fixed_talk (hr.mono (by omega)) (by rfl) T.mW T.m9 T.fP .nil aB (aa (pv 2) (aa (pv 4) (aa (pv 5) af)))) af)) (by rfl))
      (al (bz (aE vg (am G_lets_by (hr.mono (by omega)) (by rfl) T.kZ T.lh T.lG .nil aB (aa (pv 1) (aA aP (aa (pv 2) af)))) eM (aK _)) (al (aD eM)) aY))) aY))))))
      (al (aD eM))),(au (j8 (yC (ac (ap ni (ap aM ae ak) ak) ai)) ao (au (aO (aq (ac ae (ac (ap aM ae ak) ai))) ao)
      (au (aO (aq (ac ae (ac ak ai))) ao)
      (au (aO (aq (ac ae (ac ae (ac ae ai)))) (jG (bG ao (bG ao jH))))
      (cQ (eY ae) (au (JD (ac ae (ac (aq (ac ae (ac ae (ac ae ai)))) ai)))
      (cQ (aQ (ap EJ (aq (ac ae (ac bc (ac ae ai)))) jL)) (aT jL) bf)) bf)))))
      (aT jL)),fun xs ω Q h=>?_⟩)
  obtain ⟨p,n,ys,zs,u,rfl,hp,S,k⟩:=h
  obtain ⟨c0,hp0⟩:=id hp
  have e0 : ω.put p (pdO K c0) = ω:=by funext b;by_cases hb : b = p<;>simp [Om.put,hb,hp0]
  have hn1:=S.n1
  have hn5:=S.n5
  simp only [csD]
  walk_at "s1"
  refine ⟨by omega,by omega,Bd (fun j ρ ω'=>∃ (c : Pq) (n : Nat) (ys zs : List (List Int)) (u : Ta) (v3 v4 v5 v6 v7 : Option AV),ω' = ω.put p (pdO K c)/\Sd n ys zs u/\ρ = [some (.r (.ref p)),some (.d (csD n ys zs)),some (.d u.d),v3,v4,v5,v6,v7]) ⟨c0,n,ys,zs,u,_,_,_,_,_,e0.symm,S,rfl⟩ ?_ ?_⟩
  · clear S hn1 hn5
    rintro j ρ ω' N hj ⟨c,n,ys,zs,u,v3,v4,v5,v6,v7,rfl,S,rfl⟩ kN
    have hn1:=S.n1
    have hn5:=S.n5
    have sdp:=S.dp
    have ssz:=S.sz
    simp only [csD]
    walk_at "s1"
    refine ⟨p,n,rfl,bH,by omega,by omega,fun i c i0 i1=>?_⟩
    rw [Om.put_put]
    obtain ⟨i,rfl⟩:=Int.eq_ofNat_of_zero_le i0
    walk_at "s1"
    refine ⟨p,2,rfl,bH,by decide,by decide,fun b c b0 b1=>?_⟩
    rw [Om.put_put]
    have hF : Fx n i b ys zs:=⟨hn1,hn5,by omega,by omega,S.y,S.z⟩
    walk_at "s1"
    refine ⟨n,i,b,ys,zs,rfl,hF,?_⟩
    unfold FL
    by_cases hb : bad n i b ys zs
    · rw [if_pos hb]
      walk_at "a1"
      exact kN _ _ ⟨c,n,ys,zs,u,_,_,_,_,_,rfl,S,rfl⟩
    · rw [if_neg hb]
      have hn2 : 2<=n:=by
        have : n≠1:=fun e=>hb (.inl e)
        omega
      have hi : i < n:=hF.i
      have hyw:=jx hn5 hi hF.b S.y
      have hzw:=jx hn5 hi hF.b S.z
      have hsb:=oS hn2 hn5 hi hF.b S.hu
      obtain ⟨q1,q2,q3⟩:=uC (i:=i) (b:=b) u
      have hlt:=Bt (b:=b) hn5 hi S.y S.z S.hu S.lt
      walk_at "s1"
      refine ⟨u,n,i,b,rfl,by omega,hn5,hi,S.hu,by omega,false,n - 1,fxV i b ys,fxV i b zs,fxT i b u,rfl,⟨by omega,jO (by omega) hsb,by omega,Wds.sub hyw (by omega),Wds.sub hzw (by omega)⟩,_,rfl,?_⟩
      rw [qu hlt,if_neg (by decide)]
      exact kN _ _ ⟨c,n - 1,fxV i b ys,fxV i b zs,fxT i b u,_,_,_,_,_,rfl,⟨by omega,by omega,hyw,hzw,hsb,hlt,by omega,by omega⟩,rfl⟩
  · rintro ρ ω' ⟨c,n,ys,zs,u,v3,v4,v5,v6,v7,rfl,S,rfl⟩
    dsimp only
    walk_at "a1"
    rw [kR hp]
    exact k c
end
section
variable {P : Program} {w : World} {K : PySem.W.Frag} {mg : Str->Option Value} {base : Heap} {t : Adr}
theorem F9 : ∀ n : Fin 6,∀ i : Fin 5,i.val < n.val->((wl n.val).any fun v=>decide (v.getD i.val 0 = 1)) = true/\((wl n.val).any fun v=>decide (v.getD i.val 0 = 0)) = true:=by decide +kernel
def Ct (n : Nat) (x : Sy) : Prop:=(∃ v∈wl n,x.val v = true)/\∃ v∈wl n,x.val v = false
theorem BZ {n : Nat} {i : Int} (hn : n<=5) (h0 : 0<=i) (h1 : i < n) : Ct n (.is i 1):=by
  obtain ⟨a,b⟩:=F9 ⟨n,by omega⟩ ⟨i.toNat,by omega⟩ (by show i.toNat < n;omega)
  rw [List.any_eq_true] at a b
  obtain ⟨v,hv,ev⟩:=a
  obtain ⟨w,hw,ew⟩:=b
  refine ⟨⟨v,hv,ev⟩,w,hw,?_⟩
  rw [decide_eq_true_eq] at ew
  simp only [Sy.val,decide_eq_false_iff_not]
  exact fun h=>absurd (ew.symm.trans h) (by decide)
theorem xw {n : Nat} {ys zs : List (List Int)} (hy : ys.Sublist (wl n)) (hz : zs.Sublist (wl n)) : ∀ {x : Sy},x.ok n->sb n (bE ys zs x)
  | .is i b,h=>⟨h.1,h.2.1⟩
  | .jn a l r,h=>by
    cases a<;>simp only [bE,if_true,if_false,Bool.false_eq_true,sb]
    · exact ⟨List.filter_sublist.trans hy,xw hy hz h.1,xw hy hz h.2⟩
    · exact ⟨List.filter_sublist.trans hz,xw hy hz h.1,xw hy hz h.2⟩
theorem HI (T : Txt K mg t) : aJ P t.wo K mg base CX0 40 t.l6 t.yf ["_law_script"] (wx K):=by
  have G_l_mine : aJ P t.wo K mg base CX0 1 t.dI t.nQ ["_law_script"] (aN (DM K)):=IK T
  have G_l_dig : aJ P t.wo K mg base CX0 1 t.dy t.jq ["_law_mine_here","_law_many"] (aN (n9 K)):=qt T
  have G_l_saying : aJ P t.wo K mg base CX0 10 t.bV t.fm ["_law_mine_here","_law_places","_law_many","_law_kinds"] (aN (uW K 8)):=Dq T 8
  have G_l_field : aJ P t.wo K mg base CX0 1 t.di t.lI ["_law_places"] (aN yj):=EC T
  have G_l_is_one : aJ P t.wo K mg base CX0 11 t.bW t.fg ["_law_saying_here","_law_word"] (aN (qS 10)):=DC T 10
  have G_l_thinned : aJ P t.wo K mg base CX0 2 t.ca t.gB ["_law_mine_here","_law_words"] (aN (A6 K)):=Gv T
  have G_talk_of : aJ P t.wo K mg base CX0 13 t.cG t.ii ["case","saying"] (aN EZ):=I0 T
  have G_l_right : aJ P t.wo K mg base CX0 10 t.db t.lC ["_law_case","_law_talk","_law_place","_law_bit","_law_is_rising"] (aN GQ):=Ka T
  have G_l_down : aJ P t.wo K mg base CX0 10 t.dG t.m4 ["_law_mine_here","_law_case","_law_talk"] (aN (Az K)):=Gc T
  refine T.JV.okA eR (fun xs ω Q h=>by obtain ⟨a,ns,rfl,_⟩:=h;rfl) (fun cdv A outer s H E hr=>⟨_,_,(ah (aL (i:=1) eR.nd rfl (Or.inl rfl) (am G_l_mine (hr.mono (by omega)) (by rfl) T.Ej T.DE T.EK .nil aB (aa (pv 0) af)))
      (ah (aL (i:=2) eR.nd rfl (Or.inl rfl) (bb (aW cH (aW bU cI)) ag (am G_l_dig (hr.mono (by omega)) (by rfl) T.cD T.cF T.cE .nil aB (aa (pv 1) (aA ag af)))))
      (ah (aL (i:=3) eR.nd rfl (Or.inl rfl) (bb (aW cH (aW bU cI)) ag (am G_l_dig (hr.mono (by omega)) (by rfl) T.cD T.cF T.cE .nil aB (aa (pv 1) (aA ag af)))))
      (ah (aL (i:=4) eR.nd rfl (Or.inr rfl) (am G_l_saying (hr.mono (by omega)) (by rfl) T.mw T.mt T.mf .nil aB (aa (pv 1) (aa (pv 2) (aa (bb (aW cH (aW bU cI)) ag (am G_l_dig (hr.mono (by omega)) (by rfl) T.cD T.cF T.cE .nil aB (aa (pv 1) (aA ag af)))) (aa (pv 3) af))))))
      (ah (lJ (i:=5) eR.nd rfl (Or.inl rfl) (N:=(["_law_word","_law_saying_here"] : List Str)) (src:=[none,some 4]) rfl (by show dn _ (defScope nE) _ _ (["_law_script","_law_mine_here","_law_places","_law_kinds","_law_saying_here","_law_yes","_law_no","_law_case","_law_talk","_law_place","_law_bit"] : List Str) = true;decide +kernel) (by intro g' h;cases h) (bY K rfl (am G_l_field (hr.mono (by omega)) (by rfl) T.oq T.oU T.oM .nil aB (aa (pv 2) af))) (fun _ _ _ _ _ _=>(aG (i:=0) (show (["_law_word","_law_saying_here"] : List Str).Nodup by decide +kernel) rfl (Or.inl rfl))) (fun _ _ _ _ _ _=>(fC (bp K rfl (am G_l_is_one (hr.mono (by omega)) (by rfl) T.d9 T.ee T.d8 .nil aB (aa (pv 1) (aa (pv 0) af))) (fun _=>rfl)))) (fun _ _ _ _ _ _=>(bX rfl rfl (pv 0))))
      (ah (bz (aE (zk hr.u100) (bA (cm K rfl) (by rfl) T.jI (by kernel_rfl) (aa (pv 5) af)) (aR (aA ag (aa (bb zK ag (pv 2)) af))) (by with_unfolding_all rfl)) (al (aL (i:=4) eR.nd rfl (Or.inr rfl) (aR (aa (ar (aj K rfl) (dr (aA aP (aA aP af))) (da lu (by rfl) T.Bj (by kernel_rfl) (aa (cr j3 (bA (cm K rfl) (by rfl) T.jI (by kernel_rfl) (aa (pv 5) af)) ag (aK _)) af)) (fun _ _=>rfl)) (aa (pv 4) (be (aR (aA aP (aa (am G_l_dig (hr.mono (by omega)) (by rfl) T.cD T.cF T.cE .nil aB (aa (pv 1) (aa (pv 2) af))) (aA ag af)))) af)))))) aY)
      (ah (lJ (i:=5) eR.nd rfl (Or.inl rfl) (N:=(["_law_word","_law_saying_here"] : List Str)) (src:=[none,some 4]) rfl (by show dn _ (defScope nE) _ _ (["_law_script","_law_mine_here","_law_places","_law_kinds","_law_saying_here","_law_yes","_law_no","_law_case","_law_talk","_law_place","_law_bit"] : List Str) = true;decide +kernel) (by intro g' h;cases h) (bY K rfl (am G_l_field (hr.mono (by omega)) (by rfl) T.oq T.oU T.oM .nil aB (aa (pv 2) af))) (fun _ _ _ _ _ _=>(aG (i:=0) (show (["_law_word","_law_saying_here"] : List Str).Nodup by decide +kernel) rfl (Or.inl rfl))) (fun _ _ _ _ _ _=>(fC (bp K rfl (am G_l_is_one (hr.mono (by omega)) (by rfl) T.d9 T.ee T.d8 .nil aB (aa (pv 1) (aa (pv 0) af))) (fun _=>rfl)))) (fun _ _ _ _ _ _=>(bX rfl rfl (pv 0))))
      (ah (lJ (i:=6) eR.nd rfl (Or.inl rfl) (N:=(["_law_word","_law_saying_here"] : List Str)) (src:=[none,some 4]) rfl (by show dn _ (defScope nE) _ _ (["_law_script","_law_mine_here","_law_places","_law_kinds","_law_saying_here","_law_yes","_law_no","_law_case","_law_talk","_law_place","_law_bit"] : List Str) = true;decide +kernel) (by intro g' h;cases h) (bY K rfl (am G_l_field (hr.mono (by omega)) (by rfl) T.oq T.oU T.oM .nil aB (aa (pv 2) af))) (fun _ _ _ _ _ _=>(aG (i:=0) (show (["_law_word","_law_saying_here"] : List Str).Nodup by decide +kernel) rfl (Or.inl rfl))) (fun _ _ _ _ _ _=>(fC (gW (bp K rfl (am G_l_is_one (hr.mono (by omega)) (by rfl) T.d9 T.ee T.d8 .nil aB (aa (pv 1) (aa (pv 0) af))) (fun _=>rfl))))) (fun _ _ _ _ _ _=>(bX rfl rfl (pv 0))))
      (ah (aL (i:=7) eR.nd rfl (Or.inl rfl) (aR (aa (pv 2) (aa (am G_l_thinned (hr.mono (by omega)) (by rfl) T.pX T.pY T.pP .nil aB (aa (pv 1) (aa (pv 5) af))) (aa (am G_l_thinned (hr.mono (by omega)) (by rfl) T.pX T.pY T.pP .nil aB (aa (pv 1) (aa (pv 6) af))) af)))))
      (ah (aL (i:=8) eR.nd rfl (Or.inl rfl) (am G_talk_of (hr.mono (by omega)) (by rfl) T.BG T.Cq T.oA .nil aB (aa (pv 7) (aa (pv 4) af))))
      (ah (bz (aE (bd hr.u100) (am G_l_dig (hr.mono (by omega)) (by rfl) T.cD T.cF T.cE .nil aB (aa (pv 1) (aA ag af))) ag (aK _)) (al (aL (i:=8) eR.nd rfl (Or.inl rfl) (ar (aj K rfl) (dr (be (aR (aA aP (be (aR af) (aa (pv 8) (be (aR (aA aP (aa (bb kJ (pv 2) ag) af))) af))))) (be (aR (aA aP (aa (ar (aj K rfl) (pv 7) ag (fun _ _=>rfl)) (be (aR (aA aP (aA ag af))) (aa (pv 8) af))))) af))) (am G_l_dig (hr.mono (by omega)) (by rfl) T.cD T.cF T.cE .nil aB (aa (pv 1) (aA ag af))) (fun _ _=>rfl)))) aY)
      (ah (gp PassesOwn.never rfl (oW rfl T.ql (aa (pv 2) af)) (aG (i:=9) eR.nd rfl (Or.inl rfl)) (al (gp PassesOwn.never rfl (bY K rfl (aR (aA ag (aA ag af)))) (aG (i:=10) eR.nd rfl (Or.inl rfl)) (al (bz (gW (bp K rfl (am G_l_right (hr.mono (by omega)) (by rfl) T.B4 T.Cb T.BY .nil aB (aa (pv 7) (aa (pv 8) (aa (pv 9) (aa (pv 10) (aa (cr (bd hr.u100) (pv 3) ag (aK _)) af)))))) (fun _=>rfl))) (al (aD eM)) aY)))))
      (al (aD (am G_l_down (hr.mono (by omega)) (by rfl) T.DR T.Dt T.E7 .nil aB (aa (pv 1) (aa (pv 7) (aa (pv 8) af)))))))))))))))))),(au (aO (aq (ac ae ai)) ao)
      (au (aO (ap eD ak (aq (ac ae (ac ak ai)))) ao)
      (au (aO (ap eD ak (aq (ac ae (ac ak ai)))) ao)
      (au (aO (aq (ac ae (ac ae (ac (ap eD ak (aq (ac ae (ac ak ai)))) (ac ae ai))))) ao)
      (au (aO (cW (dk (aq (ac ae ai))) ao (eY (aq (ac ae (ac ae ai)))) (cT ae)) ao)
      (au (cQ (aQ (ap yy (eJ mU (ac ae ai)) (a9 (ac ak (ac (ap iW ak ae) ai))))) (aO (a9 (ac (ap aM (sR (ac bc (ac bc ai))) (eJ As (ac (ap fO (eJ mU (ac ae ai)) ak) ai))) (ac ae (ac (a9 (ac bc (ac (aq (ac ae (ac ae ai))) (ac ak ai)))) ai)))) ao) bf)
      (au (aO (cW (dk (aq (ac ae ai))) ao (eY (aq (ac ae (ac ae ai)))) (cT ae)) ao)
      (au (aO (cW (dk (aq (ac ae ai))) ao (ma (eY (aq (ac ae (ac ae ai))))) (cT ae)) ao)
      (au (aO (a9 (ac ae (ac (aq (ac ae (ac ae ai))) (ac (aq (ac ae (ac ae ai))) ai)))) ao)
      (au (aO (aq (ac ae (ac ae ai))) ao)
      (au (cQ (aQ (ap bj (aq (ac ae (ac ak ai))) ak)) (aO (ap aM (sR (ac (a9 (ac bc (ac (a9 ai) (ac ae (ac (a9 (ac bc (ac (ap ni ae ak) ai))) ai))))) (ac (a9 (ac bc (ac (ap aM ae ak) (ac (a9 (ac bc (ac ak ai))) (ac ae ai))))) ai))) (aq (ac ae (ac ak ai)))) ao) bf)
      (au (j8 (yC (ac ae ai)) ao (j8 (dk (a9 (ac ak (ac ak ai)))) ao (cQ (ma (eY (aq (ac ae (ac ae (ac ae (ac ae (ac (ap bj ae ak) ai)))))))) (aT jL) bf)))
      (aT (aq (ac ae (ac ae (ac ae ai))))))))))))))))),fun xs ω Q h=>?_⟩)
  obtain ⟨a,ns,rfl,hl,rfl,k⟩:=h
  walk_at "s1"
  refine ⟨a,ns,rfl,hl,fun p c hp0=>?_⟩
  walk_at "s1"
  refine ⟨p,4,rfl,bH,by decide,by decide,fun r c r0 r1=>⟨r,rfl,?_⟩⟩
  rw [Om.put_put]
  obtain ⟨n,hn⟩ : ∃ n : Nat,2 + r = (n : Int):=⟨(2 + r).toNat,by omega⟩
  have hn2 : 2<=n:=by omega
  have hn5 : n<=5:=by omega
  have hwl:=me hn5
  have hwp:=zv n
  rw [hn]
  walk_at "s1"
  refine ⟨p,2,rfl,bH,by decide,by decide,fun j c j0 j1=>⟨j,rfl,?_⟩⟩
  rw [Om.put_put]
  obtain ⟨b,hb⟩ : ∃ b : Bool,1 + j = 1 + b01 b:=by
    rcases (by omega : j = 0\/j = 1) with rfl | rfl
    · exact ⟨false,rfl⟩
    · exact ⟨true,rfl⟩
  rw [hb]
  walk_at "s1"
  refine ⟨p,36,rfl,bH,by decide,by decide,fun m c m0 m1=>⟨m,rfl,?_⟩⟩
  rw [Om.put_put]
  obtain ⟨m',hm'⟩ : ∃ m' : Nat,1 + m = (m' : Int):=⟨(1 + m).toNat,by omega⟩
  rw [hm']
  refine ⟨p,n,m',b,rfl,bH,by omega,hn5,by omega,by simp only [cap];show m'<=46;omega,by decide,fun x c hx hxd hxl hxu=>?_⟩
  rw [Om.put_put]
  have yes : ∀ (x : Sy) (ω : Om),x.ok n->x.dp<=10->∀ {v0 : Option AV} {KK : List AV->SA->Om->Prop},(∀ ρ,KK ((((wl n).filter fun v=>x.val v).map wdD).map AV.d) ρ ω)->dj (eK 0) (EL (xk (qS 10) (dt (cV 1) (dt (cV 0) ss)))) (ig (cV 0)) (((wl n).map wdD).map AV.d) [] [v0,some (.d x.d)] ω KK:=fun x ω hx hd v0 KK hk=>by
    refine qv wdD (fun v=>x.val v) wdD (Nat.le_of_lt (bi (by omega))) (fun v hv Q q=>?_) (fun v hv _ Q q=>?_) hk
    · walk_at "a1"
      exact ⟨x,v,rfl,by rw [(eh hv).1];exact hx,hd,_,rfl,q⟩
    · walk_at "a1"
      exact q
  walk_at "s1"
  refine ⟨n,rfl,hn5,?_⟩
  walk_at "a1"
  refine yes x _ hx (by omega) fun ρ=>⟨_,bn _,?_⟩
  refine nn (fun ρ' ω'=>∃ (x' : Sy) (c : Pq) (v5 : Option AV),ω' = Om.put (fun _=>none) p (pdO K c)/\x'.ok n/\x'.dp<=9/\x'.lvs<=40/\(b = false->x'.up)/\Ct n x'/\ρ' = [some (kz K a ns),some (AV.r (V.ref p)),some (AV.d (D.int n)),some (AV.d (D.int (1 + b01 b))),some (AV.d x'.d),v5,none,none,none,none,none]) (fun M kM=>?_) ?_
  · walk_at "a1"
    refine ⟨⟨by omega,by omega,by decide⟩,by simp [gq,dep],?_⟩
    rw [pw5,← hwp,show inD (D.int ↑(List.filter (fun v=>Sy.val v x) (wl n)).length) [D.int 0,D.int ((wl n).length : Nat)] = (decide ((List.filter (fun v=>Sy.val v x) (wl n)).length = 0) || decide ((List.filter (fun v=>Sy.val v x) (wl n)).length = (wl n).length)) from by
      simp only [inD,eU,List.any_cons,List.any_nil,Bool.or_false]
      congr 1
      · rw [Bool.eq_iff_iff];simp only [beq_iff_eq,decide_eq_true_eq];omega
      · rw [Bool.eq_iff_iff];simp only [beq_iff_eq,decide_eq_true_eq];omega]
    refine gr (fun h=>?_) (fun h=>kM _ _ ⟨x,c,_,rfl,hx,by omega,by omega,hxu,?_,rfl⟩)
    · obtain ⟨e,he,e2⟩ : ∃ e : Bool,(∀ v∈wl n,x.val v = e)/\atI [AV.d (D.str (Str.ofString "or")),AV.d (D.str (Str.ofString "and"))] (if 0 < ((List.filter (fun v=>Sy.val v x) (wl n)).length : Int) then 1 else 0) = some (.d (.str (if e then ("and" : Str) else ("or" : Str)))):=by
        rw [Bool.or_eq_true,decide_eq_true_eq,decide_eq_true_eq] at h
        by_cases h0 : (List.filter (fun v=>Sy.val v x) (wl n)).length = 0
        · refine ⟨false,fun v hv=>?_,by rw [if_neg (by omega)];rfl⟩
          have:=List.filter_eq_nil_iff.mp (List.eq_nil_of_length_eq_zero h0) v hv
          simpa using this
        · refine ⟨true,fun v hv=>?_,by rw [if_pos (by omega)];rfl⟩
          exact List.length_filter_eq_length_iff.mp (h.resolve_left h0) v hv
      refine ⟨_,e2,p,n,rfl,bH,by omega,by omega,fun i c2 i0 i1=>⟨_,rfl,_,rfl,?_⟩⟩
      rw [Om.put_put]
      obtain ⟨⟨v1,m1,e1⟩,⟨v2,m2,e3⟩⟩:=BZ hn5 i0 i1
      refine kM _ _ ⟨.jn e x (.is i 1),c2,_,rfl,⟨hx,i0,i1,.inr rfl⟩,by simp only [Sy.dp];omega,by simp only [Sy.lvs];omega,fun hb=>⟨hxu hb,rfl⟩,⟨⟨v1,m1,?_⟩,v2,m2,?_⟩,rfl⟩
      · have:=he v1 m1
        cases e<;>simp_all [Sy.val]
      · have:=he v2 m2
        cases e<;>simp_all [Sy.val]
    · simp only [Bool.or_eq_true,decide_eq_true_eq,not_or] at h
      obtain ⟨h1,h2⟩:=h
      refine ⟨?_,?_⟩
      · obtain ⟨v,hv⟩:=List.exists_mem_of_length_pos (Nat.pos_of_ne_zero h1)
        exact ⟨v,(List.mem_filter.mp hv).1,(List.mem_filter.mp hv).2⟩
      · by_cases q : ∀ v∈wl n,x.val v = true
        · exact absurd (List.length_filter_eq_length_iff.mpr q) h2
        · obtain ⟨v,hv⟩:=Classical.not_forall.mp q
          obtain ⟨hv,e⟩:=Classical.not_imp.mp hv
          exact ⟨v,hv,by simpa using e⟩
  rintro ρ ω' ⟨x',c',v5,rfl,ho,hdp,hlv,hup,⟨⟨y1,my1,ey1⟩,⟨z1,mz1,ez1⟩⟩,rfl⟩
  clear hxu hxl hxd hx
  walk_at "s1"
  refine ⟨n,rfl,hn5,?_⟩
  walk_at "a1"
  refine yes x' _ ho (by omega) fun ρ=>⟨_,bn _,?_⟩
  walk_at "s1"
  refine ⟨n,rfl,hn5,?_⟩
  walk_at "a1"
  refine qv wdD (fun v=>!x'.val v) wdD (Nat.le_of_lt (bi (by omega))) (fun v hv Q q=>?_) (fun v hv hf Q q=>?_) (fun ρ=>⟨_,bn _,?_⟩)
  · walk_at "a1"
    refine ⟨x',v,rfl,by rw [(eh hv).1];exact ho,by omega,_,rfl,q⟩
  · walk_at "a1"
    exact q
  have sy : ((wl n).filter fun v=>x'.val v).Sublist (wl n):=List.filter_sublist
  have sz : ((wl n).filter fun v=>!x'.val v).Sublist (wl n):=List.filter_sublist
  have hy1 : y1∈(wl n).filter fun v=>x'.val v:=List.mem_filter.mpr ⟨my1,ey1⟩
  have hz1 : z1∈(wl n).filter fun v=>!x'.val v:=List.mem_filter.mpr ⟨mz1,by rw [ez1];rfl⟩
  have vy : ∀ v∈(wl n).filter fun v=>x'.val v,x'.val v = true:=fun v hv=>(List.mem_filter.mp hv).2
  have vz : ∀ v∈(wl n).filter fun v=>!x'.val v,x'.val v = false:=fun v hv=>by simpa using (List.mem_filter.mp hv).2
  generalize ((wl n).filter fun v=>x'.val v) = Y at *
  generalize ((wl n).filter fun v=>!x'.val v) = Z at *
  have lY:=sy.length_le
  have lZ:=sz.length_le
  walk_at "s1"
  refine ⟨p,Y,rfl,bH,by omega,List.ne_nil_of_mem hy1,fun ys c hys hy0=>?_⟩
  refine ⟨p,Z,rfl,bH,by omega,List.ne_nil_of_mem hz1,fun zs c2 hzs hz0=>⟨_,rfl,?_⟩⟩
  rw [Om.put_put,Om.put_put]
  have hyS:=hys.trans sy
  have hzS:=hzs.trans sz
  have hyW:=Wds.sub hyS hn5
  have hzW:=Wds.sub hzS hn5
  have PA' : rd n x' ys zs:=⟨hyW,hzW,fun v hv=>vy v (hys.mem hv),fun v hv=>vz v (hzs.mem hv),hy0,hz0⟩
  show Cn _ _ _ [_,_,_,_,_,_,_,some (.d (csD n ys zs)),_,_,_] _
  walk_at "s1"
  refine ⟨n,ys,zs,x',rfl,hn5,PA',ho,by omega,?_⟩
  obtain ⟨o1,o2,o3⟩:=oY hyW hzW ho
  have osb:=xw hyS hzS ho
  have olt : ∀ r : Bool,(r = true->x'.up)->Lt r ys zs (bE ys zs x'):=fun r hr y hy z hz=>by
    obtain ⟨t1,t2⟩:=gm hy hz (hzW.2 z hz) ho (PA'.vy y hy) (PA'.vz z hz)
    cases r
    · simpa [ppB] using t1
    · obtain ⟨t3,t4⟩:=t2 (hr rfl)
      simp only [ppB,if_true,t3,t4,decide_true,Bool.and_true]
  refine nn (fun ρ' ω'=>∃ (u : Ta) (c : Pq),ω' = Om.put (fun _=>none) p (pdO K c)/\sb n u/\(∀ r : Bool,(r = true->x'.up)->Lt r ys zs u)/\u.dp<=12/\u.size<=200/\ρ' = [some (kz K a ns),some (AV.r (V.ref p)),some (AV.d (D.int n)),some (AV.d (D.int (1 + b01 b))),some (AV.d x'.d),some (.d (.lst (Y.map wdD))),some (.d (.lst (Z.map wdD))),some (.d (csD n ys zs)),some (.d u.d),none,none]) (fun M kM=>?_) ?_
  · simp only [csD]
    walk_at "a1"
    refine ⟨p,2,rfl,bH,by decide,by decide,fun v c v0 v1=>⟨_,rfl,by simp [dep],?_⟩⟩
    rw [Om.put_put]
    refine gr (fun h1=>?_) (fun h1=>kM _ _ ⟨bE ys zs x',c,rfl,osb,olt,by omega,by omega,rfl⟩)
    refine ⟨p,2,rfl,bH,by decide,by decide,fun v c v0 v1=>⟨_,rfl,?_⟩⟩
    rw [Om.put_put]
    rcases (by omega : v = 0\/v = 1) with rfl | rfl
    · refine ⟨_,rfl,kM _ _ ⟨.nd false [] (bE ys zs x') (.en ((n : Int) - 1)),c,rfl,⟨List.nil_sublist _,osb,by omega,by omega⟩,fun r hr y hy z hz=>?_,by simp only [Ta.dp];omega,by simp only [Ta.size];omega,rfl⟩⟩
      rw [show Ta.fin y z (.nd false [] (bE ys zs x') (.en ((n : Int) - 1))) = Ta.fin y z (bE ys zs x') from by simp [Ta.fin,Ta.bit]]
      exact olt r hr y hy z hz
    · refine ⟨_,rfl,kM _ _ ⟨.nd true ys (.en 0) (bE ys zs x'),c,rfl,⟨hyS,⟨by omega,by omega⟩,osb⟩,fun r hr y hy z hz=>?_,by simp only [Ta.dp];omega,by simp only [Ta.size];omega,rfl⟩⟩
      rw [show Ta.fin y z (.nd true ys (.en 0) (bE ys zs x')) = Ta.fin y z (bE ys zs x') from by simp [Ta.fin,Ta.bit,hy]]
      exact olt r hr y hy z hz
  rintro ρ ω' ⟨u,c,rfl,usb,ult,udp,usz,rfl⟩
  have eb : (1 + b01 b == 1) = !b:=by cases b<;>rfl
  walk_at "s1"
  refine ⟨by omega,by omega,Bd (fun i ρ ω'=>ω' = Om.put (fun _=>none) p (pdO K c)/\∃ v9 v10,ρ = [some (kz K a ns),some (AV.r (V.ref p)),some (AV.d (D.int n)),some (AV.d (D.int (1 + b01 b))),some (AV.d x'.d),some (.d (.lst (Y.map wdD))),some (.d (.lst (Z.map wdD))),some (.d (csD n ys zs)),some (.d u.d),v9,v10]) ⟨rfl,_,_,rfl⟩ ?_ ?_⟩
  · rintro i ρ ω1 N hi ⟨rfl,v9,v10,rfl⟩ kN
    have hi' : i < n:=hi
    walk_at "ab"
    rw [eb,Int.zero_add]
    have S : ∀ b' : Int,b' = 0\/b' = 1->Sx n i b' (!b) ys zs u:=fun b' hb'=>⟨hn2,hn5,hi',hb',hyS,hzS,usb,ult false (fun h=>by cases h),fun h=>ult true (fun _=>hup (by simpa using h)),udp,usz⟩
    refine ⟨n,i,0,!b,ys,zs,u,rfl,S 0 (.inl rfl),_,rfl,?_⟩
    rw [if_neg (by decide)]
    refine ⟨n,i,1,!b,ys,zs,u,rfl,S 1 (.inr rfl),_,rfl,?_⟩
    rw [if_neg (by decide)]
    exact kN _ _ ⟨rfl,_,_,rfl⟩
  · rintro ρ ω1 ⟨rfl,v9,v10,rfl⟩
    dsimp only
    walk_at "a1"
    refine ⟨p,n,ys,zs,u,rfl,bH,⟨by omega,hn5,hyS,hzS,usb,ult false (fun h=>by cases h),udp,usz⟩,fun c=>?_⟩
    exact k _
end
theorem Gb {P : Program} {w : World} {K : PySem.W.Frag} {mg : Str->Option Value} {base : Heap} {t : Adr} (hw : t.wo = w) (T : Txt K mg t) : aJ P w K mg base CX0 40 t.l6 t.yf ["_law_script"] (wx K):=by
  subst hw;exact HI T
theorem HS (w : World) {K : PySem.W.Frag} {h : Heap} {mg : Str->Option Value} (X : K.In h) (G : h.Ns mainGlobals mg)
    {cY : Addr} {od_upward an_upward : Option Addr} {sl_upward : Array (Option Value)} {oc_upward kV_upward dc_upward pm_upward cd_upward ct_upward : Value}
    {cL : Addr} {od_folded an_folded : Option Addr} {sl_folded : Array (Option Value)} {oc_folded kV_folded dc_folded pm_folded cd_folded ct_folded : Value}
    {bJ : Addr} {od_tree_deep an_tree_deep : Option Addr} {sl_tree_deep : Array (Option Value)} {oc_tree_deep kV_tree_deep dc_tree_deep pm_tree_deep cd_tree_deep ct_tree_deep : Value}
    {bt : Addr} {od_tree_leaves an_tree_leaves : Option Addr} {sl_tree_leaves : Array (Option Value)} {oc_tree_leaves kV_tree_leaves dc_tree_leaves pm_tree_leaves cd_tree_leaves ct_tree_leaves : Value}
    {bq : Addr} {od_fixed_words an_fixed_words : Option Addr} {sl_fixed_words : Array (Option Value)} {oc_fixed_words kV_fixed_words dc_fixed_words pm_fixed_words cd_fixed_words ct_fixed_words : Value}
    {bO : Addr} {od_fixed_case an_fixed_case : Option Addr} {sl_fixed_case : Array (Option Value)} {oc_fixed_case kV_fixed_case dc_fixed_case pm_fixed_case cd_fixed_case ct_fixed_case : Value}
    {bw : Addr} {od_fixed_talk an_fixed_talk : Option Addr} {sl_fixed_talk : Array (Option Value)} {oc_fixed_talk kV_fixed_talk dc_fixed_talk pm_fixed_talk cd_fixed_talk ct_fixed_talk : Value}
    {bD : Addr} {od_fixed_place an_fixed_place : Option Addr} {sl_fixed_place : Array (Option Value)} {oc_fixed_place kV_fixed_place dc_fixed_place pm_fixed_place cd_fixed_place ct_fixed_place : Value}
    {cK : Addr} {od_went_on an_went_on : Option Addr} {sl_went_on : Array (Option Value)} {oc_went_on kV_went_on dc_went_on pm_went_on cd_went_on ct_went_on : Value}
    {c8 : Addr} {od_ends_of an_ends_of : Option Addr} {sl_ends_of : Array (Option Value)} {oc_ends_of kV_ends_of dc_ends_of pm_ends_of cd_ends_of ct_ends_of : Value}
    {cf : Addr} {od_has_pairs an_has_pairs : Option Addr} {sl_has_pairs : Array (Option Value)} {oc_has_pairs kV_has_pairs dc_has_pairs pm_has_pairs cd_has_pairs ct_has_pairs : Value}
    {bC : Addr} {od_kept_upward an_kept_upward : Option Addr} {sl_kept_upward : Array (Option Value)} {oc_kept_upward kV_kept_upward dc_kept_upward pm_kept_upward cd_kept_upward ct_kept_upward : Value}
    {kK : Addr} {od_cut an_cut : Option Addr} {sl_cut : Array (Option Value)} {oc_cut kV_cut dc_cut pm_cut cd_cut ct_cut : Value}
    {dX : Addr} {od_value an_value : Option Addr} {sl_value : Array (Option Value)} {oc_value kV_value dc_value pm_value cd_value ct_value : Value}
    {gL : Addr} {od_deep an_deep : Option Addr} {sl_deep : Array (Option Value)} {oc_deep kV_deep dc_deep pm_deep cd_deep ct_deep : Value}
    {dO : Addr} {od_leaves an_leaves : Option Addr} {sl_leaves : Array (Option Value)} {oc_leaves kV_leaves dc_leaves pm_leaves cd_leaves ct_leaves : Value}
    {dS : Addr} {od_missed an_missed : Option Addr} {sl_missed : Array (Option Value)} {oc_missed kV_missed dc_missed pm_missed cd_missed ct_missed : Value}
    {eX : Addr} {od_parts an_parts : Option Addr} {sl_parts : Array (Option Value)} {oc_parts kV_parts dc_parts pm_parts cd_parts ct_parts : Value}
    {cw : Addr} {od_pairs_in an_pairs_in : Option Addr} {sl_pairs_in : Array (Option Value)} {oc_pairs_in kV_pairs_in dc_pairs_in pm_pairs_in cd_pairs_in ct_pairs_in : Value}
    {du : Addr} {od_spoken an_spoken : Option Addr} {sl_spoken : Array (Option Value)} {oc_spoken kV_spoken dc_spoken pm_spoken cd_spoken ct_spoken : Value}
    {bT : Addr} {od_talk_deep an_talk_deep : Option Addr} {sl_talk_deep : Array (Option Value)} {oc_talk_deep kV_talk_deep dc_talk_deep pm_talk_deep cd_talk_deep ct_talk_deep : Value}
    {bu : Addr} {od_talk_leaves an_talk_leaves : Option Addr} {sl_talk_leaves : Array (Option Value)} {oc_talk_leaves kV_talk_leaves dc_talk_leaves pm_talk_leaves cd_talk_leaves ct_talk_leaves : Value}
    {bP : Addr} {od_parts_pair an_parts_pair : Option Addr} {sl_parts_pair : Array (Option Value)} {oc_parts_pair kV_parts_pair dc_parts_pair pm_parts_pair cd_parts_pair ct_parts_pair : Value}
    {fx : Addr} {od_fault an_fault : Option Addr} {sl_fault : Array (Option Value)} {oc_fault kV_fault dc_fault pm_fault cd_fault ct_fault : Value}
    {cn : Addr} {od_lets_by an_lets_by : Option Addr} {sl_lets_by : Array (Option Value)} {oc_lets_by kV_lets_by dc_lets_by pm_lets_by cd_lets_by ct_lets_by : Value}
    {cG : Addr} {od_talk_of an_talk_of : Option Addr} {sl_talk_of : Array (Option Value)} {oc_talk_of kV_talk_of dc_talk_of pm_talk_of cd_talk_of ct_talk_of : Value}
    {cx : Addr} {od_led_leaf an_led_leaf : Option Addr} {sl_led_leaf : Array (Option Value)} {oc_led_leaf kV_led_leaf dc_led_leaf pm_led_leaf cd_led_leaf ct_led_leaf : Value}
    {cB : Addr} {od_led_join an_led_join : Option Addr} {sl_led_join : Array (Option Value)} {oc_led_join kV_led_join dc_led_join pm_led_join cd_led_join ct_led_join : Value}
    {bN : Addr} {od_words_with an_words_with : Option Addr} {sl_words_with : Array (Option Value)} {oc_words_with kV_words_with dc_words_with pm_words_with cd_words_with ct_words_with : Value}
    {de : Addr} {od_greater an_greater : Option Addr} {sl_greater : Array (Option Value)} {oc_greater kV_greater dc_greater pm_greater cd_greater ct_greater : Value}
    {dc : Addr} {od_smaller an_smaller : Option Addr} {sl_smaller : Array (Option Value)} {oc_smaller kV_smaller dc_smaller pm_smaller cd_smaller ct_smaller : Value}
    {cg : Addr} {od_saying_of an_saying_of : Option Addr} {sl_saying_of : Array (Option Value)} {oc_saying_of kV_saying_of dc_saying_of pm_saying_of cd_saying_of ct_saying_of : Value}
    {dI : Addr} {od_l_mine an_l_mine : Option Addr} {sl_l_mine : Array (Option Value)} {oc_l_mine kV_l_mine dc_l_mine pm_l_mine cd_l_mine ct_l_mine : Value}
    {dy : Addr} {od_l_dig an_l_dig : Option Addr} {sl_l_dig : Array (Option Value)} {oc_l_dig kV_l_dig dc_l_dig pm_l_dig cd_l_dig ct_l_dig : Value}
    {di : Addr} {od_l_field an_l_field : Option Addr} {sl_l_field : Array (Option Value)} {oc_l_field kV_l_field dc_l_field pm_l_field cd_l_field ct_l_field : Value}
    {bV : Addr} {od_l_saying an_l_saying : Option Addr} {sl_l_saying : Array (Option Value)} {oc_l_saying kV_l_saying dc_l_saying pm_l_saying cd_l_saying ct_l_saying : Value}
    {bW : Addr} {od_l_is_one an_l_is_one : Option Addr} {sl_l_is_one : Array (Option Value)} {oc_l_is_one kV_l_is_one dc_l_is_one pm_l_is_one cd_l_is_one ct_l_is_one : Value}
    {ca : Addr} {od_l_thinned an_l_thinned : Option Addr} {sl_l_thinned : Array (Option Value)} {oc_l_thinned kV_l_thinned dc_l_thinned pm_l_thinned cd_l_thinned ct_l_thinned : Value}
    {cJ : Addr} {od_l_fixed an_l_fixed : Option Addr} {sl_l_fixed : Array (Option Value)} {oc_l_fixed kV_l_fixed dc_l_fixed pm_l_fixed cd_l_fixed ct_l_fixed : Value}
    {dg : Addr} {od_l_stays an_l_stays : Option Addr} {sl_l_stays : Array (Option Value)} {oc_l_stays kV_l_stays dc_l_stays pm_l_stays cd_l_stays ct_l_stays : Value}
    {cC : Addr} {od_l_put_in an_l_put_in : Option Addr} {sl_l_put_in : Array (Option Value)} {oc_l_put_in kV_l_put_in dc_l_put_in pm_l_put_in cd_l_put_in ct_l_put_in : Value}
    {bh : Addr} {od_l_pairs_right an_l_pairs_right : Option Addr} {sl_l_pairs_right : Array (Option Value)} {oc_l_pairs_right kV_l_pairs_right dc_l_pairs_right pm_l_pairs_right cd_l_pairs_right ct_l_pairs_right : Value}
    {cc : Addr} {od_l_no_more an_l_no_more : Option Addr} {sl_l_no_more : Array (Option Value)} {oc_l_no_more kV_l_no_more dc_l_no_more pm_l_no_more cd_l_no_more ct_l_no_more : Value}
    {db : Addr} {od_l_right an_l_right : Option Addr} {sl_l_right : Array (Option Value)} {oc_l_right kV_l_right dc_l_right pm_l_right cd_l_right ct_l_right : Value}
    {dG : Addr} {od_l_down an_l_down : Option Addr} {sl_l_down : Array (Option Value)} {oc_l_down kV_l_down dc_l_down pm_l_down cd_l_down ct_l_down : Value}
    {l6 : Addr} {od_law an_law : Option Addr} {sl_law : Array (Option Value)} {oc_law kV_law dc_law pm_law cd_law ct_law : Value}
    {ci : Addr} {ep_JOIN_OF_HAND : Nat} {u_JOIN_OF_HAND_0 v_JOIN_OF_HAND_0 u_JOIN_OF_HAND_1 v_JOIN_OF_HAND_1 : Tok}
    {cc_tree_deep pp_tree_deep : Addr} {ko_tree_deep : Value} {kd_tree_deep : Option Addr} {kf_tree_deep : Array Value} {ks_tree_deep : Array (Option Value)}
    {cc_fixed_talk pp_fixed_talk : Addr} {ko_fixed_talk : Value} {kd_fixed_talk : Option Addr} {kf_fixed_talk : Array Value} {ks_fixed_talk : Array (Option Value)}
    {cc_value pp_value : Addr} {ko_value : Value} {kd_value : Option Addr} {kf_value : Array Value} {ks_value : Array (Option Value)}
    {cc_talk_of pp_talk_of : Addr} {ko_talk_of : Value} {kd_talk_of : Option Addr} {kf_talk_of : Array Value} {ks_talk_of : Array (Option Value)}
    {dm : Addr}
    {jA : Addr}
    {nW : Addr}
    (qR : PySem.W.nsIn K mainGlobals "upward" = some (some (.ref cY))) (rY : K.lookup cY = some ⟨oc_upward,od_upward,.func (PySem.W.fnOf "upward" "upward" (defArgs ik) (defBody ik) (defScope ik) .none kV_upward dc_upward pm_upward an_upward cd_upward ct_upward),sl_upward⟩) (rB : PySem.W.codeIn K cd_upward "upward" = true) (nl : PySem.W.keepIn K (.ref cY) = true)
    (rA : PySem.W.nsIn K mainGlobals "folded" = some (some (.ref cL))) (qT : K.lookup cL = some ⟨oc_folded,od_folded,.func (PySem.W.fnOf "folded" "folded" (defArgs iE) (defBody iE) (defScope iE) .none kV_folded dc_folded pm_folded an_folded cd_folded ct_folded),sl_folded⟩) (qU : PySem.W.codeIn K cd_folded "folded" = true) (nH : PySem.W.keepIn K (.ref cL) = true)
    (kG : PySem.W.nsIn K mainGlobals "tree_deep" = some (some (.ref bJ))) (gy : K.lookup bJ = some ⟨oc_tree_deep,od_tree_deep,.func (PySem.W.fnOf "tree_deep" "tree_deep" (defArgs cR) (defBody cR) (defScope cR) .none kV_tree_deep dc_tree_deep pm_tree_deep an_tree_deep cd_tree_deep ct_tree_deep),sl_tree_deep⟩) (eB : PySem.W.codeIn K cd_tree_deep "tree_deep" = true) (gA : PySem.W.keepIn K (.ref bJ) = true)
    (gX : PySem.W.nsIn K mainGlobals "tree_leaves" = some (some (.ref bt))) (gM : K.lookup bt = some ⟨oc_tree_leaves,od_tree_leaves,.func (PySem.W.fnOf "tree_leaves" "tree_leaves" (defArgs cy) (defBody cy) (defScope cy) .none kV_tree_leaves dc_tree_leaves pm_tree_leaves an_tree_leaves cd_tree_leaves ct_tree_leaves),sl_tree_leaves⟩) (gT : PySem.W.codeIn K cd_tree_leaves "tree_leaves" = true) (fq : PySem.W.keepIn K (.ref bt) = true)
    (hV : PySem.W.nsIn K mainGlobals "fixed_words" = some (some (.ref bq))) (h8 : K.lookup bq = some ⟨oc_fixed_words,od_fixed_words,.func (PySem.W.fnOf "fixed_words" "fixed_words" (defArgs cz) (defBody cz) (defScope cz) .none kV_fixed_words dc_fixed_words pm_fixed_words an_fixed_words cd_fixed_words ct_fixed_words),sl_fixed_words⟩) (gU : PySem.W.codeIn K cd_fixed_words "fixed_words" = true) (fz : PySem.W.keepIn K (.ref bq) = true)
    (jr : PySem.W.nsIn K mainGlobals "fixed_case" = some (some (.ref bO))) (i7 : K.lookup bO = some ⟨oc_fixed_case,od_fixed_case,.func (PySem.W.fnOf "fixed_case" "fixed_case" (defArgs dA) (defBody dA) (defScope dA) .none kV_fixed_case dc_fixed_case pm_fixed_case an_fixed_case cd_fixed_case ct_fixed_case),sl_fixed_case⟩) (iO : PySem.W.codeIn K cd_fixed_case "fixed_case" = true) (fQ : PySem.W.keepIn K (.ref bO) = true)
    (iY : PySem.W.nsIn K mainGlobals "fixed_talk" = some (some (.ref bw))) (fT : K.lookup bw = some ⟨oc_fixed_talk,od_fixed_talk,.func (PySem.W.fnOf "fixed_talk" "fixed_talk" (defArgs cu) (defBody cu) (defScope cu) .none kV_fixed_talk dc_fixed_talk pm_fixed_talk an_fixed_talk cd_fixed_talk ct_fixed_talk),sl_fixed_talk⟩) (dz : PySem.W.codeIn K cd_fixed_talk "fixed_talk" = true) (fU : PySem.W.keepIn K (.ref bw) = true)
    (g8 : PySem.W.nsIn K mainGlobals "fixed_place" = some (some (.ref bD))) (ib : K.lookup bD = some ⟨oc_fixed_place,od_fixed_place,.func (PySem.W.fnOf "fixed_place" "fixed_place" (defArgs c9) (defBody c9) (defScope c9) .none kV_fixed_place dc_fixed_place pm_fixed_place an_fixed_place cd_fixed_place ct_fixed_place),sl_fixed_place⟩) (gO : PySem.W.codeIn K cd_fixed_place "fixed_place" = true) (ft : PySem.W.keepIn K (.ref bD) = true)
    (pc : PySem.W.nsIn K mainGlobals "went_on" = some (some (.ref cK))) (oX : K.lookup cK = some ⟨oc_went_on,od_went_on,.func (PySem.W.fnOf "went_on" "went_on" (defArgs er) (defBody er) (defScope er) .none kV_went_on dc_went_on pm_went_on an_went_on cd_went_on ct_went_on),sl_went_on⟩) (oP : PySem.W.codeIn K cd_went_on "went_on" = true) (lg : PySem.W.keepIn K (.ref cK) = true)
    (oB : PySem.W.nsIn K mainGlobals "ends_of" = some (some (.ref c8))) (oT : K.lookup c8 = some ⟨oc_ends_of,od_ends_of,.func (PySem.W.fnOf "ends_of" "ends_of" (defArgs gb) (defBody gb) (defScope gb) .none kV_ends_of dc_ends_of pm_ends_of an_ends_of cd_ends_of ct_ends_of),sl_ends_of⟩) (pk : PySem.W.codeIn K cd_ends_of "ends_of" = true) (lp : PySem.W.keepIn K (.ref c8) = true)
    (kj : PySem.W.nsIn K mainGlobals "has_pairs" = some (some (.ref cf))) (kb : K.lookup cf = some ⟨oc_has_pairs,od_has_pairs,.func (PySem.W.fnOf "has_pairs" "has_pairs" (defArgs eG) (defBody eG) (defScope eG) .none kV_has_pairs dc_has_pairs pm_has_pairs an_has_pairs cd_has_pairs ct_has_pairs),sl_has_pairs⟩) (kB : PySem.W.codeIn K cd_has_pairs "has_pairs" = true) (gG : PySem.W.keepIn K (.ref cf) = true)
    (g9 : PySem.W.nsIn K mainGlobals "kept_upward" = some (some (.ref bC))) (hZ : K.lookup bC = some ⟨oc_kept_upward,od_kept_upward,.func (PySem.W.fnOf "kept_upward" "kept_upward" (defArgs df) (defBody df) (defScope df) .none kV_kept_upward dc_kept_upward pm_kept_upward an_kept_upward cd_kept_upward ct_kept_upward),sl_kept_upward⟩) (gP : PySem.W.codeIn K cd_kept_upward "kept_upward" = true) (fw : PySem.W.keepIn K (.ref bC) = true)
    (Ed : PySem.W.nsIn K mainGlobals "cut" = some (some (.ref kK))) (EV : K.lookup kK = some ⟨oc_cut,od_cut,.func (PySem.W.fnOf "cut" "cut" (defArgs uH) (defBody uH) (defScope uH) .none kV_cut dc_cut pm_cut an_cut cd_cut ct_cut),sl_cut⟩) (EG : PySem.W.codeIn K cd_cut "cut" = true) (Ag : PySem.W.keepIn K (.ref kK) = true)
    (vA : PySem.W.nsIn K mainGlobals "value" = some (some (.ref dX))) (qk : K.lookup dX = some ⟨oc_value,od_value,.func (PySem.W.fnOf "value" "value" (defArgs gw) (defBody gw) (defScope gw) .none kV_value dc_value pm_value an_value cd_value ct_value),sl_value⟩) (lb : PySem.W.codeIn K cd_value "value" = true) (qB : PySem.W.keepIn K (.ref dX) = true)
    (zx : PySem.W.nsIn K mainGlobals "deep" = some (some (.ref gL))) (yQ : K.lookup gL = some ⟨oc_deep,od_deep,.func (PySem.W.fnOf "deep" "deep" (defArgs pE) (defBody pE) (defScope pE) .none kV_deep dc_deep pm_deep an_deep cd_deep ct_deep),sl_deep⟩) (zd : PySem.W.codeIn K cd_deep "deep" = true) (va : PySem.W.keepIn K (.ref gL) = true)
    (qZ : PySem.W.nsIn K mainGlobals "leaves" = some (some (.ref dO))) (rZ : K.lookup dO = some ⟨oc_leaves,od_leaves,.func (PySem.W.fnOf "leaves" "leaves" (defArgs iH) (defBody iH) (defScope iH) .none kV_leaves dc_leaves pm_leaves an_leaves cd_leaves ct_leaves),sl_leaves⟩) (sL : PySem.W.codeIn K cd_leaves "leaves" = true) (nG : PySem.W.keepIn K (.ref dO) = true)
    (qW : PySem.W.nsIn K mainGlobals "missed" = some (some (.ref dS))) (qL : K.lookup dS = some ⟨oc_missed,od_missed,.func (PySem.W.fnOf "missed" "missed" (defArgs iB) (defBody iB) (defScope iB) .none kV_missed dc_missed pm_missed an_missed cd_missed ct_missed),sl_missed⟩) (sC : PySem.W.codeIn K cd_missed "missed" = true) (n8 : PySem.W.keepIn K (.ref dS) = true)
    (wt : PySem.W.nsIn K mainGlobals "parts" = some (some (.ref eX))) (wg : K.lookup eX = some ⟨oc_parts,od_parts,.func (PySem.W.fnOf "parts" "parts" (defArgs lM) (defBody lM) (defScope lM) .none kV_parts dc_parts pm_parts an_parts cd_parts ct_parts),sl_parts⟩) (vB : PySem.W.codeIn K cd_parts "parts" = true) (qr : PySem.W.keepIn K (.ref eX) = true)
    (mM : PySem.W.nsIn K mainGlobals "pairs_in" = some (some (.ref cw))) (mT : K.lookup cw = some ⟨oc_pairs_in,od_pairs_in,.func (PySem.W.fnOf "pairs_in" "pairs_in" (defArgs ei) (defBody ei) (defScope ei) .none kV_pairs_in dc_pairs_in pm_pairs_in an_pairs_in cd_pairs_in ct_pairs_in),sl_pairs_in⟩) (mG : PySem.W.codeIn K cd_pairs_in "pairs_in" = true) (ju : PySem.W.keepIn K (.ref cw) = true)
    (sP : PySem.W.nsIn K mainGlobals "spoken" = some (some (.ref du))) (sE : K.lookup du = some ⟨oc_spoken,od_spoken,.func (PySem.W.fnOf "spoken" "spoken" (defArgs iN) (defBody iN) (defScope iN) .none kV_spoken dc_spoken pm_spoken an_spoken cd_spoken ct_spoken),sl_spoken⟩) (rT : PySem.W.codeIn K cd_spoken "spoken" = true) (nY : PySem.W.keepIn K (.ref du) = true)
    (kA : PySem.W.nsIn K mainGlobals "talk_deep" = some (some (.ref bT))) (kC : K.lookup bT = some ⟨oc_talk_deep,od_talk_deep,.func (PySem.W.fnOf "talk_deep" "talk_deep" (defArgs eC) (defBody eC) (defScope eC) .none kV_talk_deep dc_talk_deep pm_talk_deep an_talk_deep cd_talk_deep ct_talk_deep),sl_talk_deep⟩) (kF : PySem.W.codeIn K cd_talk_deep "talk_deep" = true) (gF : PySem.W.keepIn K (.ref bT) = true)
    (gQ : PySem.W.nsIn K mainGlobals "talk_leaves" = some (some (.ref bu))) (ia : K.lookup bu = some ⟨oc_talk_leaves,od_talk_leaves,.func (PySem.W.fnOf "talk_leaves" "talk_leaves" (defArgs dh) (defBody dh) (defScope dh) .none kV_talk_leaves dc_talk_leaves pm_talk_leaves an_talk_leaves cd_talk_leaves ct_talk_leaves),sl_talk_leaves⟩) (ic : PySem.W.codeIn K cd_talk_leaves "talk_leaves" = true) (fu : PySem.W.keepIn K (.ref bu) = true)
    (jg : PySem.W.nsIn K mainGlobals "parts_pair" = some (some (.ref bP))) (jd : K.lookup bP = some ⟨oc_parts_pair,od_parts_pair,.func (PySem.W.fnOf "parts_pair" "parts_pair" (defArgs dD) (defBody dD) (defScope dD) .none kV_parts_pair dc_parts_pair pm_parts_pair an_parts_pair cd_parts_pair ct_parts_pair),sl_parts_pair⟩) (ji : PySem.W.codeIn K cd_parts_pair "parts_pair" = true) (fW : PySem.W.keepIn K (.ref bP) = true)
    (uX : PySem.W.nsIn K mainGlobals "fault" = some (some (.ref fx))) (u7 : K.lookup fx = some ⟨oc_fault,od_fault,.func (PySem.W.fnOf "fault" "fault" (defArgs kQ) (defBody kQ) (defScope kQ) .none kV_fault dc_fault pm_fault an_fault cd_fault ct_fault),sl_fault⟩) (vH : PySem.W.codeIn K cd_fault "fault" = true) (qG : PySem.W.keepIn K (.ref fx) = true)
    (pj : PySem.W.nsIn K mainGlobals "lets_by" = some (some (.ref cn))) (oo : K.lookup cn = some ⟨oc_lets_by,od_lets_by,.func (PySem.W.fnOf "lets_by" "lets_by" (defArgs f7) (defBody f7) (defScope f7) .none kV_lets_by dc_lets_by pm_lets_by an_lets_by cd_lets_by ct_lets_by),sl_lets_by⟩) (ou : PySem.W.codeIn K cd_lets_by "lets_by" = true) (lc : PySem.W.keepIn K (.ref cn) = true)
    (o7 : PySem.W.nsIn K mainGlobals "talk_of" = some (some (.ref cG))) (kS : K.lookup cG = some ⟨oc_talk_of,od_talk_of,.func (PySem.W.fnOf "talk_of" "talk_of" (defArgs eE) (defBody eE) (defScope eE) .none kV_talk_of dc_talk_of pm_talk_of an_talk_of cd_talk_of ct_talk_of),sl_talk_of⟩) (ga : PySem.W.codeIn K cd_talk_of "talk_of" = true) (kW : PySem.W.keepIn K (.ref cG) = true)
    (mJ : PySem.W.nsIn K mainGlobals "led_leaf" = some (some (.ref cx))) (mo : K.lookup cx = some ⟨oc_led_leaf,od_led_leaf,.func (PySem.W.fnOf "led_leaf" "led_leaf" (defArgs dq) (defBody dq) (defScope dq) .none kV_led_leaf dc_led_leaf pm_led_leaf an_led_leaf cd_led_leaf ct_led_leaf),sl_led_leaf⟩) (mF : PySem.W.codeIn K cd_led_leaf "led_leaf" = true) (jm : PySem.W.keepIn K (.ref cx) = true)
    (ml : PySem.W.nsIn K mainGlobals "led_join" = some (some (.ref cB))) (mr : K.lookup cB = some ⟨oc_led_join,od_led_join,.func (PySem.W.fnOf "led_join" "led_join" (defArgs eZ) (defBody eZ) (defScope eZ) .none kV_led_join dc_led_join pm_led_join an_led_join cd_led_join ct_led_join),sl_led_join⟩) (mQ : PySem.W.codeIn K cd_led_join "led_join" = true) (i8 : PySem.W.keepIn K (.ref cB) = true)
    (jh : PySem.W.nsIn K mainGlobals "words_with" = some (some (.ref bN))) (iQ : K.lookup bN = some ⟨oc_words_with,od_words_with,.func (PySem.W.fnOf "words_with" "words_with" (defArgs cU) (defBody cU) (defScope cU) .none kV_words_with dc_words_with pm_words_with an_words_with cd_words_with ct_words_with),sl_words_with⟩) (iT : PySem.W.codeIn K cd_words_with "words_with" = true) (fS : PySem.W.keepIn K (.ref bN) = true)
    (oJ : PySem.W.nsIn K mainGlobals "greater" = some (some (.ref de))) (pw : K.lookup de = some ⟨oc_greater,od_greater,.func (PySem.W.fnOf "greater" "greater" (defArgs fk) (defBody fk) (defScope fk) .none kV_greater dc_greater pm_greater an_greater cd_greater ct_greater),sl_greater⟩) (oH : PySem.W.codeIn K cd_greater "greater" = true) (k9 : PySem.W.keepIn K (.ref de) = true)
    (oV : PySem.W.nsIn K mainGlobals "smaller" = some (some (.ref dc))) (oQ : K.lookup dc = some ⟨oc_smaller,od_smaller,.func (PySem.W.fnOf "smaller" "smaller" (defArgs e8) (defBody e8) (defScope e8) .none kV_smaller dc_smaller pm_smaller an_smaller cd_smaller ct_smaller),sl_smaller⟩) (pA : PySem.W.codeIn K cd_smaller "smaller" = true) (lA : PySem.W.keepIn K (.ref dc) = true)
    (jT : PySem.W.nsIn K mainGlobals "saying_of" = some (some (.ref cg))) (jU : K.lookup cg = some ⟨oc_saying_of,od_saying_of,.func (PySem.W.fnOf "saying_of" "saying_of" (defArgs dw) (defBody dw) (defScope dw) .none kV_saying_of dc_saying_of pm_saying_of an_saying_of cd_saying_of ct_saying_of),sl_saying_of⟩) (kD : PySem.W.codeIn K cd_saying_of "saying_of" = true) (gI : PySem.W.keepIn K (.ref cg) = true)
    (sk : PySem.W.nsIn K mainGlobals "_law_mine" = some (some (.ref dI))) (qJ : K.lookup dI = some ⟨oc_l_mine,od_l_mine,.func (PySem.W.fnOf "_law_mine" "_law_mine" (defArgs iF) (defBody iF) (defScope iF) .none kV_l_mine dc_l_mine pm_l_mine an_l_mine cd_l_mine ct_l_mine),sl_l_mine⟩) (sj : PySem.W.codeIn K cd_l_mine "_law_mine" = true) (ng : PySem.W.keepIn K (.ref dI) = true)
    (wf : PySem.W.nsIn K mainGlobals "_law_dig" = some (some (.ref dy))) (uO : K.lookup dy = some ⟨oc_l_dig,od_l_dig,.func (PySem.W.fnOf "_law_dig" "_law_dig" (defArgs kU) (defBody kU) (defScope kU) .none kV_l_dig dc_l_dig pm_l_dig an_l_dig cd_l_dig ct_l_dig),sl_l_dig⟩) (wj : PySem.W.codeIn K cd_l_dig "_law_dig" = true) (qo : PySem.W.keepIn K (.ref dy) = true)
    (oO : PySem.W.nsIn K mainGlobals "_law_field" = some (some (.ref di))) (pD : K.lookup di = some ⟨oc_l_field,od_l_field,.func (PySem.W.fnOf "_law_field" "_law_field" (defArgs ff) (defBody ff) (defScope ff) .none kV_l_field dc_l_field pm_l_field an_l_field cd_l_field ct_l_field),sl_l_field⟩) (oG : PySem.W.codeIn K cd_l_field "_law_field" = true) (lv : PySem.W.keepIn K (.ref di) = true)
    (mO : PySem.W.nsIn K mainGlobals "_law_saying" = some (some (.ref bV))) (mC : K.lookup bV = some ⟨oc_l_saying,od_l_saying,.func (PySem.W.fnOf "_law_saying" "_law_saying" (defArgs fi) (defBody fi) (defScope fi) .none kV_l_saying dc_l_saying pm_l_saying an_l_saying cd_l_saying ct_l_saying),sl_l_saying⟩) (mi : PySem.W.codeIn K cd_l_saying "_law_saying" = true) (i3 : PySem.W.keepIn K (.ref bV) = true)
    (mH : PySem.W.nsIn K mainGlobals "_law_is_one" = some (some (.ref bW))) (mq : K.lookup bW = some ⟨oc_l_is_one,od_l_is_one,.func (PySem.W.fnOf "_law_is_one" "_law_is_one" (defArgs fe) (defBody fe) (defScope fe) .none kV_l_is_one dc_l_is_one pm_l_is_one an_l_is_one cd_l_is_one ct_l_is_one),sl_l_is_one⟩) (mI : PySem.W.codeIn K cd_l_is_one "_law_is_one" = true) (jk : PySem.W.keepIn K (.ref bW) = true)
    (ka : PySem.W.nsIn K mainGlobals "_law_thinned" = some (some (.ref ca))) (jX : K.lookup ca = some ⟨oc_l_thinned,od_l_thinned,.func (PySem.W.fnOf "_law_thinned" "_law_thinned" (defArgs dv) (defBody dv) (defScope dv) .none kV_l_thinned dc_l_thinned pm_l_thinned an_l_thinned cd_l_thinned ct_l_thinned),sl_l_thinned⟩) (ki : PySem.W.codeIn K cd_l_thinned "_law_thinned" = true) (gC : PySem.W.keepIn K (.ref ca) = true)
    (oD : PySem.W.nsIn K mainGlobals "_law_fixed" = some (some (.ref cJ))) (o0 : K.lookup cJ = some ⟨oc_l_fixed,od_l_fixed,.func (PySem.W.fnOf "_law_fixed" "_law_fixed" (defArgs f8) (defBody f8) (defScope f8) .none kV_l_fixed dc_l_fixed pm_l_fixed an_l_fixed cd_l_fixed ct_l_fixed),sl_l_fixed⟩) (oK : PySem.W.codeIn K cd_l_fixed "_law_fixed" = true) (lF : PySem.W.keepIn K (.ref cJ) = true)
    (ph : PySem.W.nsIn K mainGlobals "_law_stays" = some (some (.ref dg))) (pz : K.lookup dg = some ⟨oc_l_stays,od_l_stays,.func (PySem.W.fnOf "_law_stays" "_law_stays" (defArgs fc) (defBody fc) (defScope fc) .none kV_l_stays dc_l_stays pm_l_stays an_l_stays cd_l_stays ct_l_stays),sl_l_stays⟩) (oy : PySem.W.codeIn K cd_l_stays "_law_stays" = true) (k6 : PySem.W.keepIn K (.ref dg) = true)
    (mx : PySem.W.nsIn K mainGlobals "_law_put_in" = some (some (.ref cC))) (mK : K.lookup cC = some ⟨oc_l_put_in,od_l_put_in,.func (PySem.W.fnOf "_law_put_in" "_law_put_in" (defArgs fj) (defBody fj) (defScope fj) .none kV_l_put_in dc_l_put_in pm_l_put_in an_l_put_in cd_l_put_in ct_l_put_in),sl_l_put_in⟩) (mE : PySem.W.codeIn K cd_l_put_in "_law_put_in" = true) (jC : PySem.W.keepIn K (.ref cC) = true)
    (fN : PySem.W.nsIn K mainGlobals "_law_pairs_right" = some (some (.ref bh))) (fM : K.lookup bh = some ⟨oc_l_pairs_right,od_l_pairs_right,.func (PySem.W.fnOf "_law_pairs_right" "_law_pairs_right" (defArgs ck) (defBody ck) (defScope ck) .none kV_l_pairs_right dc_l_pairs_right pm_l_pairs_right an_l_pairs_right cd_l_pairs_right ct_l_pairs_right),sl_l_pairs_right⟩) (fL : PySem.W.codeIn K cd_l_pairs_right "_law_pairs_right" = true) (dW : PySem.W.keepIn K (.ref bh) = true)
    (kL : PySem.W.nsIn K mainGlobals "_law_no_more" = some (some (.ref cc))) (jR : K.lookup cc = some ⟨oc_l_no_more,od_l_no_more,.func (PySem.W.fnOf "_law_no_more" "_law_no_more" (defArgs eu) (defBody eu) (defScope eu) .none kV_l_no_more dc_l_no_more pm_l_no_more an_l_no_more cd_l_no_more ct_l_no_more),sl_l_no_more⟩) (km : PySem.W.codeIn K cd_l_no_more "_law_no_more" = true) (gE : PySem.W.keepIn K (.ref cc) = true)
    (pe : PySem.W.nsIn K mainGlobals "_law_right" = some (some (.ref db))) (on : K.lookup db = some ⟨oc_l_right,od_l_right,.func (PySem.W.fnOf "_law_right" "_law_right" (defArgs f6) (defBody f6) (defScope f6) .none kV_l_right dc_l_right pm_l_right an_l_right cd_l_right ct_l_right),sl_l_right⟩) (pd : PySem.W.codeIn K cd_l_right "_law_right" = true) (lm : PySem.W.keepIn K (.ref db) = true)
    (rf : PySem.W.nsIn K mainGlobals "_law_down" = some (some (.ref dG))) (rh : K.lookup dG = some ⟨oc_l_down,od_l_down,.func (PySem.W.fnOf "_law_down" "_law_down" (defArgs iu) (defBody iu) (defScope iu) .none kV_l_down dc_l_down pm_l_down an_l_down cd_l_down ct_l_down),sl_l_down⟩) (sO : PySem.W.codeIn K cd_l_down "_law_down" = true) (om : PySem.W.keepIn K (.ref dG) = true)
    (DS : PySem.W.nsIn K mainGlobals "law" = some (some (.ref l6))) (Fc : K.lookup l6 = some ⟨oc_law,od_law,.func (PySem.W.fnOf "law" "law" (defArgs nE) (defBody nE) (defScope nE) .none kV_law dc_law pm_law an_law cd_law ct_law),sl_law⟩) (Ez : PySem.W.codeIn K cd_law "law" = true) (Bf : PySem.W.keepIn K (.ref l6) = true)
    (gg : PySem.W.nsIn K mainGlobals "JOIN_OF_HAND" = some (some (.ref ci))) (gn : K.lookup ci = some { cls:=.type "dict",data:=.dict #[⟨PyData.keyHash w.params "yes",.str "yes" u_JOIN_OF_HAND_0,.str "or" v_JOIN_OF_HAND_0⟩,⟨PyData.keyHash w.params "no",.str "no" u_JOIN_OF_HAND_1,.str "and" v_JOIN_OF_HAND_1⟩] ep_JOIN_OF_HAND })
    (jQ : cd_tree_deep = .ref cc_tree_deep) (pO : K.lookup cc_tree_deep = some ⟨ko_tree_deep,kd_tree_deep,.fields kf_tree_deep,ks_tree_deep⟩) (pN : kf_tree_deep[11]? = some (.ref pp_tree_deep)) (kf : (jK K).contains ("tree_deep",cc_tree_deep,pp_tree_deep) = true) (kI : vf K cc_tree_deep pp_tree_deep = true)
    (jE : cd_fixed_talk = .ref cc_fixed_talk) (nN : K.lookup cc_fixed_talk = some ⟨ko_fixed_talk,kd_fixed_talk,.fields kf_fixed_talk,ks_fixed_talk⟩) (nX : kf_fixed_talk[11]? = some (.ref pp_fixed_talk)) (iR : (jK K).contains ("fixed_talk",cc_fixed_talk,pp_fixed_talk) = true) (jj : vf K cc_fixed_talk pp_fixed_talk = true)
    (vJ : cd_value = .ref cc_value) (A7 : K.lookup cc_value = some ⟨ko_value,kd_value,.fields kf_value,ks_value⟩) (A1 : kf_value[11]? = some (.ref pp_value)) (vF : (jK K).contains ("value",cc_value,pp_value) = true) (vp : vf K cc_value pp_value = true)
    (pF : cd_talk_of = .ref cc_talk_of) (um : K.lookup cc_talk_of = some ⟨ko_talk_of,kd_talk_of,.fields kf_talk_of,ks_talk_of⟩) (tW : kf_talk_of[11]? = some (.ref pp_talk_of)) (oF : (jK K).contains ("talk_of",cc_talk_of,pp_talk_of) = true) (pi : vf K cc_talk_of pp_talk_of = true)
    (rG : PySem.W.nsIn K mainGlobals "NoCase" = some (some (.ref dm)))
    (mh : PySem.W.nsIn K mainGlobals "NoSaying" = some (some (.ref jA)))
    (sr : PySem.W.nsIn K mainGlobals "NoTalk" = some (some (.ref nW)))
    (iC : Ab K dm = true)
    (cZ : PySem.W.exmOne K (.ref dm) (.ref dm) = some true)
    (DV : PySem.W.nsIn K mainGlobals "abs" = some none)
    (CJ : PySem.W.nsIn K mainGlobals "int" = some none)
    (Eb : PySem.W.nsIn K mainGlobals "len" = some none)
    (Ek : PySem.W.nsIn K mainGlobals "max" = some none)
    (Dp : PySem.W.nsIn K mainGlobals "min" = some none)
    (vh : PySem.W.nsIn K mainGlobals "range" = some none)
    (mD : PySem.W.nsIn K mainGlobals "reversed" = some none)
    (ww : PySem.W.nsIn K mainGlobals "tuple" = some none)
    (DI : PySem.W.nsIn K mainGlobals "zip" = some none) : ∃ t,t.wo = w/\Txt K mg t:=by
  have F_upward:=aX (st:=ik) rY rB nl
  have F_folded:=aX (st:=iE) qT qU nH
  have F_tree_deep:=aX (st:=cR) gy eB gA
  have F_tree_leaves:=aX (st:=cy) gM gT fq
  have F_fixed_words:=aX (st:=cz) h8 gU fz
  have F_fixed_case:=aX (st:=dA) i7 iO fQ
  have F_fixed_talk:=aX (st:=cu) fT dz fU
  have F_fixed_place:=aX (st:=c9) ib gO ft
  have F_went_on:=aX (st:=er) oX oP lg
  have F_ends_of:=aX (st:=gb) oT pk lp
  have F_has_pairs:=aX (st:=eG) kb kB gG
  have F_kept_upward:=aX (st:=df) hZ gP fw
  have F_cut:=aX (st:=uH) EV EG Ag
  have F_value:=aX (st:=gw) qk lb qB
  have F_deep:=aX (st:=pE) yQ zd va
  have F_leaves:=aX (st:=iH) rZ sL nG
  have F_missed:=aX (st:=iB) qL sC n8
  have F_parts:=aX (st:=lM) wg vB qr
  have F_pairs_in:=aX (st:=ei) mT mG ju
  have F_spoken:=aX (st:=iN) sE rT nY
  have F_talk_deep:=aX (st:=eC) kC kF gF
  have F_talk_leaves:=aX (st:=dh) ia ic fu
  have F_parts_pair:=aX (st:=dD) jd ji fW
  have F_fault:=aX (st:=kQ) u7 vH qG
  have F_lets_by:=aX (st:=f7) oo ou lc
  have F_talk_of:=aX (st:=eE) kS ga kW
  have F_led_leaf:=aX (st:=dq) mo mF jm
  have F_led_join:=aX (st:=eZ) mr mQ i8
  have F_words_with:=aX (st:=cU) iQ iT fS
  have F_greater:=aX (st:=fk) pw oH k9
  have F_smaller:=aX (st:=e8) oQ pA lA
  have F_saying_of:=aX (st:=dw) jU kD gI
  have F_l_mine:=aX (st:=iF) qJ sj ng
  have F_l_dig:=aX (st:=kU) uO wj qo
  have F_l_field:=aX (st:=ff) pD oG lv
  have F_l_saying:=aX (st:=fi) mC mi i3
  have F_l_is_one:=aX (st:=fe) mq mI jk
  have F_l_thinned:=aX (st:=dv) jX ki gC
  have F_l_fixed:=aX (st:=f8) o0 oK lF
  have F_l_stays:=aX (st:=fc) pz oy k6
  have F_l_put_in:=aX (st:=fj) mK mE jC
  have F_l_pairs_right:=aX (st:=ck) fM fL dW
  have F_l_no_more:=aX (st:=eu) jR km gE
  have F_l_right:=aX (st:=f6) on pd lm
  have F_l_down:=aX (st:=iu) rh sO om
  have F_law:=aX (st:=nE) Fc Ez Bf
  exact ⟨⟨cY,_,cL,_,bJ,_,bt,_,bq,_,bO,_,bw,_,bD,_,cK,_,c8,_,cf,_,bC,_,kK,_,dX,_,gL,_,dO,_,dS,_,eX,_,cw,_,du,_,bT,_,bu,_,bP,_,fx,_,cn,_,cG,_,cx,_,cB,_,bN,_,de,_,dc,_,cg,_,dI,_,dy,_,di,_,bV,_,bW,_,ca,_,cJ,_,dg,_,cC,_,bh,_,cc,_,db,_,dG,_,l6,_,w,ci,cc_tree_deep,pp_tree_deep,cc_fixed_talk,pp_fixed_talk,cc_value,pp_value,cc_talk_of,pp_talk_of,dm,jA,nW⟩,rfl,⟨PySem.W.mg_of X G qR,F_upward,nl,F_upward.binds2 (p0:="tree") (p1:="leaf") fun _ _ _ _ _ _ _ _=>rfl,
    PySem.W.mg_of X G rA,F_folded,nH,F_folded.binds4 (p0:="tree") (p1:="leaf") (p2:="of_leaf") (p3:="of_fork") fun _ _ _ _ _ _ _ _ _ _=>rfl,
    PySem.W.mg_of X G kG,F_tree_deep,gA,F_tree_deep.binds2 (p0:="tree") (p1:="leaf") fun _ _ _ _ _ _ _ _=>rfl,
    PySem.W.mg_of X G gX,F_tree_leaves,fq,F_tree_leaves.binds2 (p0:="tree") (p1:="leaf") fun _ _ _ _ _ _ _ _=>rfl,
    PySem.W.mg_of X G hV,F_fixed_words,fz,F_fixed_words.binds3 (p0:="words") (p1:="place") (p2:="bit") fun _ _ _ _ _ _ _ _ _=>rfl,
    PySem.W.mg_of X G jr,F_fixed_case,fQ,F_fixed_case.binds3 (p0:="case") (p1:="place") (p2:="bit") fun _ _ _ _ _ _ _ _ _=>rfl,
    PySem.W.mg_of X G iY,F_fixed_talk,fU,F_fixed_talk.binds3 (p0:="talk") (p1:="place") (p2:="bit") fun _ _ _ _ _ _ _ _ _=>rfl,
    PySem.W.mg_of X G g8,F_fixed_place,ft,F_fixed_place.binds2 (p0:="old") (p1:="place") fun _ _ _ _ _ _ _ _=>rfl,
    PySem.W.mg_of X G pc,F_went_on,lg,F_went_on.binds3 (p0:="turn") (p1:="yes") (p2:="no") fun _ _ _ _ _ _ _ _ _=>rfl,
    PySem.W.mg_of X G oB,F_ends_of,lp,F_ends_of.binds2 (p0:="case") (p1:="talk") fun _ _ _ _ _ _ _ _=>rfl,
    PySem.W.mg_of X G kj,F_has_pairs,gG,F_has_pairs.binds1 (p0:="words") fun _ _ _ _ _ _ _=>rfl,
    PySem.W.mg_of X G g9,F_kept_upward,fw,F_kept_upward.binds2 (p0:="case") (p1:="talk") fun _ _ _ _ _ _ _ _=>rfl,
    PySem.W.mg_of X G Ed,F_cut,Ag,F_cut.binds2 (p0:="case") (p1:="talk") fun _ _ _ _ _ _ _ _=>rfl,
    PySem.W.mg_of X G vA,F_value,qB,F_value.binds2 (p0:="saying") (p1:="word") fun _ _ _ _ _ _ _ _=>rfl,
    PySem.W.mg_of X G zx,F_deep,va,F_deep.binds1 (p0:="saying") fun _ _ _ _ _ _ _=>rfl,
    PySem.W.mg_of X G qZ,F_leaves,nG,F_leaves.binds1 (p0:="saying") fun _ _ _ _ _ _ _=>rfl,
    PySem.W.mg_of X G qW,F_missed,n8,F_missed.binds2 (p0:="case") (p1:="saying") fun _ _ _ _ _ _ _ _=>rfl,
    PySem.W.mg_of X G wt,F_parts,qr,F_parts.binds2 (p0:="case") (p1:="saying") fun _ _ _ _ _ _ _ _=>rfl,
    PySem.W.mg_of X G mM,F_pairs_in,ju,F_pairs_in.binds1 (p0:="case") fun _ _ _ _ _ _ _=>rfl,
    PySem.W.mg_of X G sP,F_spoken,nY,F_spoken.binds3 (p0:="talk") (p1:="yes") (p2:="no") fun _ _ _ _ _ _ _ _ _=>rfl,
    PySem.W.mg_of X G kA,F_talk_deep,gF,F_talk_deep.binds1 (p0:="talk") fun _ _ _ _ _ _ _=>rfl,
    PySem.W.mg_of X G gQ,F_talk_leaves,fu,F_talk_leaves.binds1 (p0:="talk") fun _ _ _ _ _ _ _=>rfl,
    PySem.W.mg_of X G jg,F_parts_pair,fW,F_parts_pair.binds4 (p0:="rule") (p1:="place") (p2:="yes") (p3:="no") fun _ _ _ _ _ _ _ _ _ _=>rfl,
    PySem.W.mg_of X G uX,F_fault,qG,F_fault.binds3 (p0:="case") (p1:="rule") (p2:="talk") fun _ _ _ _ _ _ _ _ _=>rfl,
    PySem.W.mg_of X G pj,F_lets_by,lc,F_lets_by.binds3 (p0:="case") (p1:="rule") (p2:="talk") fun _ _ _ _ _ _ _ _ _=>rfl,
    PySem.W.mg_of X G o7,F_talk_of,kW,F_talk_of.binds2 (p0:="case") (p1:="saying") fun _ _ _ _ _ _ _ _=>rfl,
    PySem.W.mg_of X G mJ,F_led_leaf,jm,F_led_leaf.binds2 (p0:="case") (p1:="leaf") fun _ _ _ _ _ _ _ _=>rfl,
    PySem.W.mg_of X G ml,F_led_join,i8,F_led_join.binds4 (p0:="case") (p1:="join") (p2:="one") (p3:="other") fun _ _ _ _ _ _ _ _ _ _=>rfl,
    PySem.W.mg_of X G jh,F_words_with,fS,F_words_with.binds3 (p0:="words") (p1:="values") (p2:="bit") fun _ _ _ _ _ _ _ _ _=>rfl,
    PySem.W.mg_of X G oJ,F_greater,k9,F_greater.binds2 (p0:="ones") (p1:="others") fun _ _ _ _ _ _ _ _=>rfl,
    PySem.W.mg_of X G oV,F_smaller,lA,F_smaller.binds2 (p0:="ones") (p1:="others") fun _ _ _ _ _ _ _ _=>rfl,
    PySem.W.mg_of X G jT,F_saying_of,gI,F_saying_of.binds2 (p0:="case") (p1:="talk") fun _ _ _ _ _ _ _ _=>rfl,
    PySem.W.mg_of X G sk,F_l_mine,ng,F_l_mine.binds1 (p0:="_law_script") fun _ _ _ _ _ _ _=>rfl,
    PySem.W.mg_of X G wf,F_l_dig,qo,F_l_dig.binds2 (p0:="_law_mine_here") (p1:="_law_many") fun _ _ _ _ _ _ _ _=>rfl,
    PySem.W.mg_of X G oO,F_l_field,lv,F_l_field.binds1 (p0:="_law_places") fun _ _ _ _ _ _ _=>rfl,
    PySem.W.mg_of X G mO,F_l_saying,i3,F_l_saying.binds4 (p0:="_law_mine_here") (p1:="_law_places") (p2:="_law_many") (p3:="_law_kinds") fun _ _ _ _ _ _ _ _ _ _=>rfl,
    PySem.W.mg_of X G mH,F_l_is_one,jk,F_l_is_one.binds2 (p0:="_law_saying_here") (p1:="_law_word") fun _ _ _ _ _ _ _ _=>rfl,
    PySem.W.mg_of X G ka,F_l_thinned,gC,F_l_thinned.binds2 (p0:="_law_mine_here") (p1:="_law_words") fun _ _ _ _ _ _ _ _=>rfl,
    PySem.W.mg_of X G oD,F_l_fixed,lF,F_l_fixed.binds3 (p0:="_law_case") (p1:="_law_place") (p2:="_law_bit") fun _ _ _ _ _ _ _ _ _=>rfl,
    PySem.W.mg_of X G ph,F_l_stays,k6,F_l_stays.binds3 (p0:="_law_case") (p1:="_law_place") (p2:="_law_bit") fun _ _ _ _ _ _ _ _ _=>rfl,
    PySem.W.mg_of X G mx,F_l_put_in,jC,F_l_put_in.binds3 (p0:="_law_word") (p1:="_law_place") (p2:="_law_bit") fun _ _ _ _ _ _ _ _ _=>rfl,
    PySem.W.mg_of X G fN,F_l_pairs_right,dW,F_l_pairs_right.binds7 (p0:="_law_case") (p1:="_law_talk") (p2:="_law_place") (p3:="_law_bit") (p4:="_law_small") (p5:="_law_short") (p6:="_law_is_rising") fun _ _ _ _ _ _ _ _ _ _ _ _ _=>rfl,
    PySem.W.mg_of X G kL,F_l_no_more,gE,F_l_no_more.binds4 (p0:="_law_case") (p1:="_law_talk") (p2:="_law_small") (p3:="_law_short") fun _ _ _ _ _ _ _ _ _ _=>rfl,
    PySem.W.mg_of X G pe,F_l_right,lm,F_l_right.binds5 (p0:="_law_case") (p1:="_law_talk") (p2:="_law_place") (p3:="_law_bit") (p4:="_law_is_rising") fun _ _ _ _ _ _ _ _ _ _ _=>rfl,
    PySem.W.mg_of X G rf,F_l_down,om,F_l_down.binds3 (p0:="_law_mine_here") (p1:="_law_case") (p2:="_law_talk") fun _ _ _ _ _ _ _ _ _=>rfl,
    PySem.W.mg_of X G DS,F_law,Bf,F_law.binds1 (p0:="_law_script") fun _ _ _ _ _ _ _=>rfl,
    fun s v=>.of_eq rfl,
    PySem.W.mg_none_of X G DV,
    PySem.W.mg_none_of X G CJ,
    PySem.W.mg_none_of X G Eb,
    PySem.W.mg_none_of X G Ek,
    PySem.W.mg_none_of X G Dp,
    PySem.W.mg_none_of X G vh,
    PySem.W.mg_none_of X G mD,
    PySem.W.mg_none_of X G ww,
    PySem.W.mg_none_of X G DI,
    PySem.W.mg_of X G gg,
    ⟨_,_,ep_JOIN_OF_HAND,gn,⟨rfl,rfl,rfl⟩,rfl,(.cons ⟨rfl,⟨_,rfl⟩,⟨_,rfl⟩⟩ (.cons ⟨rfl,⟨_,rfl⟩,⟨_,rfl⟩⟩ PySem.Paired.nil))⟩,
    qw (st:=cR) gy eB jQ kf kI,
    qw (st:=cu) fT dz jE iR jj,
    qw (st:=gw) qk lb vJ vF vp,
    qw (st:=eE) kS ga pF oF pi,
    PySem.W.mg_of X G rG,
    PySem.W.mg_of X G mh,
    PySem.W.mg_of X G sr,
    iC,
    cZ⟩⟩
def inCls (s : PySem.Stmt) (j : Nat) : PySem.Stmt:=match s with
  | .ClassDef _ _ _ b _ _ _ _ _ _ _=>b.getD j (.Pass ⟨0,0,0,0⟩)
  | _=>s
def KK : PySem.Params->PySem.W.Frag:=fun P =>
  (nat_lit 2,⟨.none,.none,.dict #[] 0,#[]⟩) ::
  (nat_lit 3,⟨.type "dict",.none,.dict #[⟨PySem.PyData.keyHash P "__name__",.str "__name__" 165,.str "law_unlikeplace_k52_whole_fixed_never_more" 562⟩,⟨PySem.PyData.keyHash P "__doc__",.str "__doc__" 166,.none⟩,⟨PySem.PyData.keyHash P "__package__",.str "__package__" 167,.none⟩,⟨PySem.PyData.keyHash P "__loader__",.str "__loader__" 168,.builtin "__main__.__loader__#opaque"⟩,⟨PySem.PyData.keyHash P "__spec__",.str "__spec__" 169,.none⟩,⟨PySem.PyData.keyHash P "__annotations__",.str "__annotations__" 170,.ref 6⟩,⟨PySem.PyData.keyHash P "__builtins__",.str "__builtins__" 171,.ref 4⟩,⟨PySem.PyData.keyHash P "__file__",.str "__file__" 173,.str "/claim/cut.py" 172⟩,⟨PySem.PyData.keyHash P "__cached__",.str "__cached__" 174,.none⟩,⟨PySem.PyData.keyHash P "TalkError",.str "TalkError" 206,.ref 24⟩,⟨PySem.PyData.keyHash P "NoCase",.str "NoCase" 222,.ref 37⟩,⟨PySem.PyData.keyHash P "NoSaying",.str "NoSaying" 238,.ref 49⟩,⟨PySem.PyData.keyHash P "NoTalk",.str "NoTalk" 254,.ref 61⟩,⟨PySem.PyData.keyHash P "upward",.str "upward" 267,.ref 70⟩,⟨PySem.PyData.keyHash P "folded",.str "folded" 281,.ref 77⟩,⟨PySem.PyData.keyHash P "tree_deep",.str "tree_deep" 289,.ref 84⟩,⟨PySem.PyData.keyHash P "tree_leaves",.str "tree_leaves" 295,.ref 89⟩,⟨PySem.PyData.keyHash P "fixed_words",.str "fixed_words" 303,.ref 94⟩,⟨PySem.PyData.keyHash P "fixed_case",.str "fixed_case" 314,.ref 101⟩,⟨PySem.PyData.keyHash P "fixed_talk",.str "fixed_talk" 325,.ref 108⟩,⟨PySem.PyData.keyHash P "fixed_place",.str "fixed_place" 333,.ref 115⟩,⟨PySem.PyData.keyHash P "went_on",.str "went_on" 341,.ref 120⟩,⟨PySem.PyData.keyHash P "ends_of",.str "ends_of" 357,.ref 127⟩,⟨PySem.PyData.keyHash P "has_pairs",.str "has_pairs" 364,.ref 134⟩,⟨PySem.PyData.keyHash P "kept_upward",.str "kept_upward" 379,.ref 141⟩,⟨PySem.PyData.keyHash P "cut",.str "cut" 391,.ref 148⟩,⟨PySem.PyData.keyHash P "value",.str "value" 402,.ref 155⟩,⟨PySem.PyData.keyHash P "deep",.str "deep" 409,.ref 162⟩,⟨PySem.PyData.keyHash P "leaves",.str "leaves" 416,.ref 169⟩,⟨PySem.PyData.keyHash P "missed",.str "missed" 425,.ref 176⟩,⟨PySem.PyData.keyHash P "parts",.str "parts" 433,.ref 183⟩,⟨PySem.PyData.keyHash P "pairs_in",.str "pairs_in" 441,.ref 188⟩,⟨PySem.PyData.keyHash P "spoken",.str "spoken" 456,.ref 195⟩,⟨PySem.PyData.keyHash P "talk_deep",.str "talk_deep" 463,.ref 202⟩,⟨PySem.PyData.keyHash P "talk_leaves",.str "talk_leaves" 470,.ref 209⟩,⟨PySem.PyData.keyHash P "parts_pair",.str "parts_pair" 480,.ref 216⟩,⟨PySem.PyData.keyHash P "fault",.str "fault" 492,.ref 223⟩,⟨PySem.PyData.keyHash P "lets_by",.str "lets_by" 501,.ref 230⟩,⟨PySem.PyData.keyHash P "JOIN_OF_HAND",.str "JOIN_OF_HAND" 510,.ref 231⟩,⟨PySem.PyData.keyHash P "talk_of",.str "talk_of" 520,.ref 238⟩,⟨PySem.PyData.keyHash P "led_leaf",.str "led_leaf" 526,.ref 243⟩,⟨PySem.PyData.keyHash P "led_join",.str "led_join" 537,.ref 250⟩,⟨PySem.PyData.keyHash P "words_with",.str "words_with" 543,.ref 255⟩,⟨PySem.PyData.keyHash P "greater",.str "greater" 549,.ref 260⟩,⟨PySem.PyData.keyHash P "smaller",.str "smaller" 555,.ref 265⟩,⟨PySem.PyData.keyHash P "saying_of",.str "saying_of" 561,.ref 270⟩,⟨PySem.PyData.keyHash P "_law_mine",.str "_law_mine" 570,.ref 277⟩,⟨PySem.PyData.keyHash P "_law_dig",.str "_law_dig" 583,.ref 284⟩,⟨PySem.PyData.keyHash P "_law_field",.str "_law_field" 589,.ref 289⟩,⟨PySem.PyData.keyHash P "_law_saying",.str "_law_saying" 602,.ref 296⟩,⟨PySem.PyData.keyHash P "_law_is_one",.str "_law_is_one" 610,.ref 303⟩,⟨PySem.PyData.keyHash P "_law_thinned",.str "_law_thinned" 616,.ref 308⟩,⟨PySem.PyData.keyHash P "_law_fixed",.str "_law_fixed" 626,.ref 315⟩,⟨PySem.PyData.keyHash P "_law_stays",.str "_law_stays" 632,.ref 320⟩,⟨PySem.PyData.keyHash P "_law_put_in",.str "_law_put_in" 641,.ref 327⟩,⟨PySem.PyData.keyHash P "_law_pairs_right",.str "_law_pairs_right" 660,.ref 334⟩,⟨PySem.PyData.keyHash P "_law_no_more",.str "_law_no_more" 673,.ref 341⟩,⟨PySem.PyData.keyHash P "_law_right",.str "_law_right" 687,.ref 348⟩,⟨PySem.PyData.keyHash P "_law_down",.str "_law_down" 701,.ref 355⟩,⟨PySem.PyData.keyHash P "law",.str "law" 707,.ref 360⟩] 60,#[]⟩) ::
  (nat_lit 15,⟨.type "tuple",.none,.seq #[.type "ValueError"] 0,#[]⟩) ::
  (nat_lit 22,⟨.type "tuple",.none,.seq #[] 0,#[]⟩) ::
  (nat_lit 23,⟨.type "dict",.none,.dict #[⟨PySem.PyData.keyHash P "__module__",.str "__module__" 196,.str "unlikeplace.errors" 187⟩,⟨PySem.PyData.keyHash P "__firstlineno__",.str "__firstlineno__" 200,.int (2) 199⟩,⟨PySem.PyData.keyHash P "__static_attributes__",.str "__static_attributes__" 201,.ref 22⟩,⟨PySem.PyData.keyHash P "__weakref__",.str "__weakref__" 203,.ref 25⟩,⟨PySem.PyData.keyHash P "__doc__",.str "__doc__" 204,.none⟩] 3,#[]⟩) ::
  (nat_lit 24,⟨.type "type",.none,.cls ⟨"TalkError",[.type "ValueError"],[.ref 24,.type "ValueError",.type "Exception",.type "BaseException",.type "object"],23,"TalkError",true,[],[.ref 37,.ref 49,.ref 61],false,.none,false⟩,#[(.some (.ref 15)),.none,(.some (.str "TalkError" 189)),(.some (.str "TalkError" 197)),(.some (.builtin "ValueError.__new__")),(.some (.bool true))]⟩) ::
  (nat_lit 25,⟨.type "getset_descriptor",.none,.fields #[.str "__weakref__" 202,.ref 24,.builtin "ExceptionGroup.__weakref__",.none],#[]⟩) ::
  (nat_lit 28,⟨.type "tuple",.none,.seq #[.ref 24] 0,#[]⟩) ::
  (nat_lit 35,⟨.type "tuple",.none,.seq #[] 0,#[]⟩) ::
  (nat_lit 36,⟨.type "dict",.none,.dict #[⟨PySem.PyData.keyHash P "__module__",.str "__module__" 214,.str "unlikeplace.errors" 187⟩,⟨PySem.PyData.keyHash P "__firstlineno__",.str "__firstlineno__" 218,.int (4) 217⟩,⟨PySem.PyData.keyHash P "__static_attributes__",.str "__static_attributes__" 219,.ref 35⟩,⟨PySem.PyData.keyHash P "__doc__",.str "__doc__" 220,.none⟩] 2,#[]⟩) ::
  (nat_lit 37,⟨.type "type",.none,.cls ⟨"NoCase",[.ref 24],[.ref 37,.ref 24,.type "ValueError",.type "Exception",.type "BaseException",.type "object"],36,"NoCase",true,[],[],false,.none,false⟩,#[(.some (.ref 28)),.none,(.some (.str "NoCase" 207)),(.some (.str "NoCase" 215)),(.some (.builtin "ValueError.__new__")),(.some (.bool true))]⟩) ::
  (nat_lit 40,⟨.type "tuple",.none,.seq #[.ref 24] 0,#[]⟩) ::
  (nat_lit 47,⟨.type "tuple",.none,.seq #[] 0,#[]⟩) ::
  (nat_lit 48,⟨.type "dict",.none,.dict #[⟨PySem.PyData.keyHash P "__module__",.str "__module__" 230,.str "unlikeplace.errors" 187⟩,⟨PySem.PyData.keyHash P "__firstlineno__",.str "__firstlineno__" 234,.int (6) 233⟩,⟨PySem.PyData.keyHash P "__static_attributes__",.str "__static_attributes__" 235,.ref 47⟩,⟨PySem.PyData.keyHash P "__doc__",.str "__doc__" 236,.none⟩] 2,#[]⟩) ::
  (nat_lit 49,⟨.type "type",.none,.cls ⟨"NoSaying",[.ref 24],[.ref 49,.ref 24,.type "ValueError",.type "Exception",.type "BaseException",.type "object"],48,"NoSaying",true,[],[],false,.none,false⟩,#[(.some (.ref 40)),.none,(.some (.str "NoSaying" 223)),(.some (.str "NoSaying" 231)),(.some (.builtin "ValueError.__new__")),(.some (.bool true))]⟩) ::
  (nat_lit 52,⟨.type "tuple",.none,.seq #[.ref 24] 0,#[]⟩) ::
  (nat_lit 59,⟨.type "tuple",.none,.seq #[] 0,#[]⟩) ::
  (nat_lit 60,⟨.type "dict",.none,.dict #[⟨PySem.PyData.keyHash P "__module__",.str "__module__" 246,.str "unlikeplace.errors" 187⟩,⟨PySem.PyData.keyHash P "__firstlineno__",.str "__firstlineno__" 250,.int (8) 249⟩,⟨PySem.PyData.keyHash P "__static_attributes__",.str "__static_attributes__" 251,.ref 59⟩,⟨PySem.PyData.keyHash P "__doc__",.str "__doc__" 252,.none⟩] 2,#[]⟩) ::
  (nat_lit 61,⟨.type "type",.none,.cls ⟨"NoTalk",[.ref 24],[.ref 61,.ref 24,.type "ValueError",.type "Exception",.type "BaseException",.type "object"],60,"NoTalk",true,[],[],false,.none,false⟩,#[(.some (.ref 52)),.none,(.some (.str "NoTalk" 239)),(.some (.str "NoTalk" 247)),(.some (.builtin "ValueError.__new__")),(.some (.bool true))]⟩) ::
  (nat_lit 64,⟨.type "tuple",.none,.seq #[] 0,#[]⟩) ::
  (nat_lit 66,⟨.type "tuple",.none,.seq #[.str "tree" 260,.str "leaf" 261,.str "waiting" 262,.str "downward" 263,.str "part" 264] 0,#[]⟩) ::
  (nat_lit 67,⟨.type "tuple",.none,.seq #[] 0,#[]⟩) ::
  (nat_lit 69,⟨.type "code",.none,.fields #[.str "upward" 257,.str "upward" 258,.str "/claim/cut.py" 259,.int (11) 0,.int (2) 0,.int (0) 0,.int (0) 0,.int (3) 0,.ref 64,.bool true,.int (181) 0,.ref 65,.none,.ref 66,.ref 67,.ref 68,.int (265) 0,.int (11) 0,.str "/claim/cut.py" 266],#[]⟩) ::
  (nat_lit 70,⟨.type "function",.none,.func (PySem.W.fnOf "upward" "upward" (L2.defArgs (top 6)) (L2.defBody (top 6)) (L2.defScope (top 6)) (.none) (.none) (.none) (.str "unlikeplace.trees" 255) .none (.ref 69) (.none)),#[]⟩) ::
  (nat_lit 71,⟨.type "tuple",.none,.seq #[] 0,#[]⟩) ::
  (nat_lit 73,⟨.type "tuple",.none,.seq #[.str "tree" 271,.str "leaf" 272,.str "of_leaf" 273,.str "of_fork" 274,.str "done" 275,.str "part" 276,.str "second" 277,.str "first" 278] 0,#[]⟩) ::
  (nat_lit 74,⟨.type "tuple",.none,.seq #[] 0,#[]⟩) ::
  (nat_lit 76,⟨.type "code",.none,.fields #[.str "folded" 268,.str "folded" 269,.str "/claim/cut.py" 270,.int (21) 0,.int (4) 0,.int (0) 0,.int (0) 0,.int (3) 0,.ref 71,.bool true,.int (181) 0,.ref 72,.none,.ref 73,.ref 74,.ref 75,.int (279) 0,.int (21) 0,.str "/claim/cut.py" 280],#[]⟩) ::
  (nat_lit 77,⟨.type "function",.none,.func (PySem.W.fnOf "folded" "folded" (L2.defArgs (top 7)) (L2.defBody (top 7)) (L2.defScope (top 7)) (.none) (.none) (.none) (.str "unlikeplace.trees" 255) .none (.ref 76) (.none)),#[]⟩) ::
  (nat_lit 78,⟨.type "tuple",.none,.seq #[] 0,#[]⟩) ::
  (nat_lit 80,⟨.type "tuple",.none,.seq #[.str "tree" 285,.str "leaf" 286] 0,#[]⟩) ::
  (nat_lit 81,⟨.type "tuple",.none,.seq #[] 0,#[]⟩) ::
  (nat_lit 83,⟨.type "code",.none,.fields #[.str "tree_deep" 282,.str "tree_deep" 283,.str "/claim/cut.py" 284,.int (31) 0,.int (2) 0,.int (0) 0,.int (0) 0,.int (3) 0,.ref 78,.bool true,.int (181) 0,.ref 79,.none,.ref 80,.ref 81,.ref 82,.int (287) 0,.int (31) 0,.str "/claim/cut.py" 288],#[]⟩) ::
  (nat_lit 84,⟨.type "function",.none,.func (PySem.W.fnOf "tree_deep" "tree_deep" (L2.defArgs (top 8)) (L2.defBody (top 8)) (L2.defScope (top 8)) (.none) (.none) (.none) (.str "unlikeplace.trees" 255) .none (.ref 83) (.none)),#[]⟩) ::
  (nat_lit 85,⟨.type "tuple",.none,.seq #[] 0,#[]⟩) ::
  (nat_lit 88,⟨.type "code",.none,.fields #[.str "tree_leaves" 290,.str "tree_leaves" 291,.str "/claim/cut.py" 292,.int (33) 0,.int (2) 0,.int (0) 0,.int (0) 0,.int (3) 0,.ref 85,.bool true,.int (181) 0,.ref 86,.none,.none,.none,.ref 87,.int (293) 0,.int (33) 0,.str "/claim/cut.py" 294],#[]⟩) ::
  (nat_lit 89,⟨.type "function",.none,.func (PySem.W.fnOf "tree_leaves" "tree_leaves" (L2.defArgs (top 9)) (L2.defBody (top 9)) (L2.defScope (top 9)) (.none) (.none) (.none) (.str "unlikeplace.trees" 255) .none (.ref 88) (.none)),#[]⟩) ::
  (nat_lit 90,⟨.type "tuple",.none,.seq #[] 0,#[]⟩) ::
  (nat_lit 93,⟨.type "code",.none,.fields #[.str "fixed_words" 298,.str "fixed_words" 299,.str "/claim/cut.py" 300,.int (36) 0,.int (3) 0,.int (0) 0,.int (0) 0,.int (3) 0,.ref 90,.bool true,.int (181) 0,.ref 91,.none,.none,.none,.ref 92,.int (301) 0,.int (36) 0,.str "/claim/cut.py" 302],#[]⟩) ::
  (nat_lit 94,⟨.type "function",.none,.func (PySem.W.fnOf "fixed_words" "fixed_words" (L2.defArgs (top 11)) (L2.defBody (top 11)) (L2.defScope (top 11)) (.none) (.none) (.none) (.str "unlikeplace.fixed" 296) .none (.ref 93) (.none)),#[]⟩) ::
  (nat_lit 95,⟨.type "tuple",.none,.seq #[] 0,#[]⟩) ::
  (nat_lit 97,⟨.type "tuple",.none,.seq #[.str "case" 307,.str "place" 308,.str "bit" 309,.str "yes" 310,.str "no" 311] 0,#[]⟩) ::
  (nat_lit 98,⟨.type "tuple",.none,.seq #[] 0,#[]⟩) ::
  (nat_lit 100,⟨.type "code",.none,.fields #[.str "fixed_case" 304,.str "fixed_case" 305,.str "/claim/cut.py" 306,.int (38) 0,.int (3) 0,.int (0) 0,.int (0) 0,.int (3) 0,.ref 95,.bool true,.int (181) 0,.ref 96,.none,.ref 97,.ref 98,.ref 99,.int (312) 0,.int (38) 0,.str "/claim/cut.py" 313],#[]⟩) ::
  (nat_lit 101,⟨.type "function",.none,.func (PySem.W.fnOf "fixed_case" "fixed_case" (L2.defArgs (top 12)) (L2.defBody (top 12)) (L2.defScope (top 12)) (.none) (.none) (.none) (.str "unlikeplace.fixed" 296) .none (.ref 100) (.none)),#[]⟩) ::
  (nat_lit 102,⟨.type "tuple",.none,.seq #[] 0,#[]⟩) ::
  (nat_lit 104,⟨.type "tuple",.none,.seq #[.str "talk" 318,.str "place" 319,.str "bit" 320] 0,#[]⟩) ::
  (nat_lit 105,⟨.type "tuple",.none,.seq #[.str "place" 321,.str "bit" 322] 0,#[]⟩) ::
  (nat_lit 107,⟨.type "code",.none,.fields #[.str "fixed_talk" 315,.str "fixed_talk" 316,.str "/claim/cut.py" 317,.int (46) 0,.int (3) 0,.int (0) 0,.int (0) 0,.int (3) 0,.ref 102,.bool true,.int (181) 0,.ref 103,.none,.ref 104,.ref 105,.ref 106,.int (323) 0,.int (46) 0,.str "/claim/cut.py" 324],#[]⟩) ::
  (nat_lit 108,⟨.type "function",.none,.func (PySem.W.fnOf "fixed_talk" "fixed_talk" (L2.defArgs (top 13)) (L2.defBody (top 13)) (L2.defScope (top 13)) (.none) (.none) (.none) (.str "unlikeplace.fixed" 296) .none (.ref 107) (.none)),#[]⟩) ::
  (nat_lit 109,⟨.type "tuple",.none,.seq #[] 0,#[]⟩) ::
  (nat_lit 111,⟨.type "tuple",.none,.seq #[.str "old" 329,.str "place" 330] 0,#[]⟩) ::
  (nat_lit 112,⟨.type "tuple",.none,.seq #[] 0,#[]⟩) ::
  (nat_lit 114,⟨.type "code",.none,.fields #[.str "fixed_place" 326,.str "fixed_place" 327,.str "/claim/cut.py" 328,.int (48) 0,.int (2) 0,.int (0) 0,.int (0) 0,.int (3) 0,.ref 109,.bool true,.int (181) 0,.ref 110,.none,.ref 111,.ref 112,.ref 113,.int (331) 0,.int (48) 0,.str "/claim/cut.py" 332],#[]⟩) ::
  (nat_lit 115,⟨.type "function",.none,.func (PySem.W.fnOf "fixed_place" "fixed_place" (L2.defArgs (top 14)) (L2.defBody (top 14)) (L2.defScope (top 14)) (.none) (.none) (.none) (.str "unlikeplace.fixed" 296) .none (.ref 114) (.none)),#[]⟩) ::
  (nat_lit 116,⟨.type "tuple",.none,.seq #[] 0,#[]⟩) ::
  (nat_lit 119,⟨.type "code",.none,.fields #[.str "went_on" 336,.str "went_on" 337,.str "/claim/cut.py" 338,.int (53) 0,.int (3) 0,.int (0) 0,.int (0) 0,.int (3) 0,.ref 116,.bool true,.int (181) 0,.ref 117,.none,.none,.none,.ref 118,.int (339) 0,.int (53) 0,.str "/claim/cut.py" 340],#[]⟩) ::
  (nat_lit 120,⟨.type "function",.none,.func (PySem.W.fnOf "went_on" "went_on" (L2.defArgs (top 16)) (L2.defBody (top 16)) (L2.defScope (top 16)) (.none) (.none) (.none) (.str "unlikeplace.ends" 334) .none (.ref 119) (.none)),#[]⟩) ::
  (nat_lit 121,⟨.type "tuple",.none,.seq #[] 0,#[]⟩) ::
  (nat_lit 123,⟨.type "tuple",.none,.seq #[.str "case" 345,.str "talk" 346,.str "ends" 347,.str "waiting" 348,.str "bits" 349,.str "part" 350,.str "yes" 351,.str "no" 352,.str "at_first" 353,.str "at_second" 354] 0,#[]⟩) ::
  (nat_lit 124,⟨.type "tuple",.none,.seq #[] 0,#[]⟩) ::
  (nat_lit 126,⟨.type "code",.none,.fields #[.str "ends_of" 342,.str "ends_of" 343,.str "/claim/cut.py" 344,.int (60) 0,.int (2) 0,.int (0) 0,.int (0) 0,.int (3) 0,.ref 121,.bool true,.int (181) 0,.ref 122,.none,.ref 123,.ref 124,.ref 125,.int (355) 0,.int (60) 0,.str "/claim/cut.py" 356],#[]⟩) ::
  (nat_lit 127,⟨.type "function",.none,.func (PySem.W.fnOf "ends_of" "ends_of" (L2.defArgs (top 17)) (L2.defBody (top 17)) (L2.defScope (top 17)) (.none) (.none) (.none) (.str "unlikeplace.ends" 334) .none (.ref 126) (.none)),#[]⟩) ::
  (nat_lit 128,⟨.type "tuple",.none,.seq #[] 0,#[]⟩) ::
  (nat_lit 130,⟨.type "tuple",.none,.seq #[.str "words" 361] 0,#[]⟩) ::
  (nat_lit 131,⟨.type "tuple",.none,.seq #[] 0,#[]⟩) ::
  (nat_lit 133,⟨.type "code",.none,.fields #[.str "has_pairs" 358,.str "has_pairs" 359,.str "/claim/cut.py" 360,.int (72) 0,.int (1) 0,.int (0) 0,.int (0) 0,.int (3) 0,.ref 128,.bool true,.int (181) 0,.ref 129,.none,.ref 130,.ref 131,.ref 132,.int (362) 0,.int (72) 0,.str "/claim/cut.py" 363],#[]⟩) ::
  (nat_lit 134,⟨.type "function",.none,.func (PySem.W.fnOf "has_pairs" "has_pairs" (L2.defArgs (top 18)) (L2.defBody (top 18)) (L2.defScope (top 18)) (.none) (.none) (.none) (.str "unlikeplace.ends" 334) .none (.ref 133) (.none)),#[]⟩) ::
  (nat_lit 135,⟨.type "tuple",.none,.seq #[] 0,#[]⟩) ::
  (nat_lit 137,⟨.type "tuple",.none,.seq #[.str "case" 368,.str "talk" 369,.str "downward" 370,.str "waiting" 371,.str "part" 372,.str "yes" 373,.str "no" 374,.str "at_first" 375,.str "at_second" 376] 0,#[]⟩) ::
  (nat_lit 138,⟨.type "tuple",.none,.seq #[] 0,#[]⟩) ::
  (nat_lit 140,⟨.type "code",.none,.fields #[.str "kept_upward" 365,.str "kept_upward" 366,.str "/claim/cut.py" 367,.int (74) 0,.int (2) 0,.int (0) 0,.int (0) 0,.int (3) 0,.ref 135,.bool true,.int (181) 0,.ref 136,.none,.ref 137,.ref 138,.ref 139,.int (377) 0,.int (74) 0,.str "/claim/cut.py" 378],#[]⟩) ::
  (nat_lit 141,⟨.type "function",.none,.func (PySem.W.fnOf "kept_upward" "kept_upward" (L2.defArgs (top 19)) (L2.defBody (top 19)) (L2.defScope (top 19)) (.none) (.none) (.none) (.str "unlikeplace.ends" 334) .none (.ref 140) (.none)),#[]⟩) ::
  (nat_lit 142,⟨.type "tuple",.none,.seq #[] 0,#[]⟩) ::
  (nat_lit 144,⟨.type "tuple",.none,.seq #[.str "case" 383,.str "talk" 384,.str "done" 385,.str "part" 386,.str "second" 387,.str "first" 388] 0,#[]⟩) ::
  (nat_lit 145,⟨.type "tuple",.none,.seq #[] 0,#[]⟩) ::
  (nat_lit 147,⟨.type "code",.none,.fields #[.str "cut" 380,.str "cut" 381,.str "/claim/cut.py" 382,.int (92) 0,.int (2) 0,.int (0) 0,.int (0) 0,.int (3) 0,.ref 142,.bool true,.int (181) 0,.ref 143,.none,.ref 144,.ref 145,.ref 146,.int (389) 0,.int (92) 0,.str "/claim/cut.py" 390],#[]⟩) ::
  (nat_lit 148,⟨.type "function",.none,.func (PySem.W.fnOf "cut" "cut" (L2.defArgs (top 20)) (L2.defBody (top 20)) (L2.defScope (top 20)) (.none) (.none) (.none) (.str "unlikeplace.ends" 334) .none (.ref 147) (.none)),#[]⟩) ::
  (nat_lit 149,⟨.type "tuple",.none,.seq #[] 0,#[]⟩) ::
  (nat_lit 151,⟨.type "tuple",.none,.seq #[.str "saying" 397,.str "word" 398] 0,#[]⟩) ::
  (nat_lit 152,⟨.type "tuple",.none,.seq #[.str "word" 399] 0,#[]⟩) ::
  (nat_lit 154,⟨.type "code",.none,.fields #[.str "value" 394,.str "value" 395,.str "/claim/cut.py" 396,.int (103) 0,.int (2) 0,.int (0) 0,.int (0) 0,.int (3) 0,.ref 149,.bool true,.int (181) 0,.ref 150,.none,.ref 151,.ref 152,.ref 153,.int (400) 0,.int (103) 0,.str "/claim/cut.py" 401],#[]⟩) ::
  (nat_lit 155,⟨.type "function",.none,.func (PySem.W.fnOf "value" "value" (L2.defArgs (top 22)) (L2.defBody (top 22)) (L2.defScope (top 22)) (.none) (.none) (.none) (.str "unlikeplace.sayings" 392) .none (.ref 154) (.none)),#[]⟩) ::
  (nat_lit 156,⟨.type "tuple",.none,.seq #[] 0,#[]⟩) ::
  (nat_lit 158,⟨.type "tuple",.none,.seq #[.str "saying" 406] 0,#[]⟩) ::
  (nat_lit 159,⟨.type "tuple",.none,.seq #[] 0,#[]⟩) ::
  (nat_lit 161,⟨.type "code",.none,.fields #[.str "deep" 403,.str "deep" 404,.str "/claim/cut.py" 405,.int (105) 0,.int (1) 0,.int (0) 0,.int (0) 0,.int (3) 0,.ref 156,.bool true,.int (181) 0,.ref 157,.none,.ref 158,.ref 159,.ref 160,.int (407) 0,.int (105) 0,.str "/claim/cut.py" 408],#[]⟩) ::
  (nat_lit 162,⟨.type "function",.none,.func (PySem.W.fnOf "deep" "deep" (L2.defArgs (top 23)) (L2.defBody (top 23)) (L2.defScope (top 23)) (.none) (.none) (.none) (.str "unlikeplace.sayings" 392) .none (.ref 161) (.none)),#[]⟩) ::
  (nat_lit 163,⟨.type "tuple",.none,.seq #[] 0,#[]⟩) ::
  (nat_lit 165,⟨.type "tuple",.none,.seq #[.str "saying" 413] 0,#[]⟩) ::
  (nat_lit 166,⟨.type "tuple",.none,.seq #[] 0,#[]⟩) ::
  (nat_lit 168,⟨.type "code",.none,.fields #[.str "leaves" 410,.str "leaves" 411,.str "/claim/cut.py" 412,.int (107) 0,.int (1) 0,.int (0) 0,.int (0) 0,.int (3) 0,.ref 163,.bool true,.int (181) 0,.ref 164,.none,.ref 165,.ref 166,.ref 167,.int (414) 0,.int (107) 0,.str "/claim/cut.py" 415],#[]⟩) ::
  (nat_lit 169,⟨.type "function",.none,.func (PySem.W.fnOf "leaves" "leaves" (L2.defArgs (top 24)) (L2.defBody (top 24)) (L2.defScope (top 24)) (.none) (.none) (.none) (.str "unlikeplace.sayings" 392) .none (.ref 168) (.none)),#[]⟩) ::
  (nat_lit 170,⟨.type "tuple",.none,.seq #[] 0,#[]⟩) ::
  (nat_lit 172,⟨.type "tuple",.none,.seq #[.str "case" 420,.str "saying" 421,.str "word" 422] 0,#[]⟩) ::
  (nat_lit 173,⟨.type "tuple",.none,.seq #[] 0,#[]⟩) ::
  (nat_lit 175,⟨.type "code",.none,.fields #[.str "missed" 417,.str "missed" 418,.str "/claim/cut.py" 419,.int (109) 0,.int (2) 0,.int (0) 0,.int (0) 0,.int (3) 0,.ref 170,.bool true,.int (181) 0,.ref 171,.none,.ref 172,.ref 173,.ref 174,.int (423) 0,.int (109) 0,.str "/claim/cut.py" 424],#[]⟩) ::
  (nat_lit 176,⟨.type "function",.none,.func (PySem.W.fnOf "missed" "missed" (L2.defArgs (top 25)) (L2.defBody (top 25)) (L2.defScope (top 25)) (.none) (.none) (.none) (.str "unlikeplace.sayings" 392) .none (.ref 175) (.none)),#[]⟩) ::
  (nat_lit 177,⟨.type "tuple",.none,.seq #[] 0,#[]⟩) ::
  (nat_lit 179,⟨.type "tuple",.none,.seq #[.str "case" 429,.str "saying" 430] 0,#[]⟩) ::
  (nat_lit 180,⟨.type "tuple",.none,.seq #[] 0,#[]⟩) ::
  (nat_lit 182,⟨.type "code",.none,.fields #[.str "parts" 426,.str "parts" 427,.str "/claim/cut.py" 428,.int (117) 0,.int (2) 0,.int (0) 0,.int (0) 0,.int (3) 0,.ref 177,.bool true,.int (181) 0,.ref 178,.none,.ref 179,.ref 180,.ref 181,.int (431) 0,.int (117) 0,.str "/claim/cut.py" 432],#[]⟩) ::
  (nat_lit 183,⟨.type "function",.none,.func (PySem.W.fnOf "parts" "parts" (L2.defArgs (top 26)) (L2.defBody (top 26)) (L2.defScope (top 26)) (.none) (.none) (.none) (.str "unlikeplace.sayings" 392) .none (.ref 182) (.none)),#[]⟩) ::
  (nat_lit 184,⟨.type "tuple",.none,.seq #[] 0,#[]⟩) ::
  (nat_lit 187,⟨.type "code",.none,.fields #[.str "pairs_in" 436,.str "pairs_in" 437,.str "/claim/cut.py" 438,.int (120) 0,.int (1) 0,.int (0) 0,.int (0) 0,.int (3) 0,.ref 184,.bool true,.int (181) 0,.ref 185,.none,.none,.none,.ref 186,.int (439) 0,.int (120) 0,.str "/claim/cut.py" 440],#[]⟩) ::
  (nat_lit 188,⟨.type "function",.none,.func (PySem.W.fnOf "pairs_in" "pairs_in" (L2.defArgs (top 28)) (L2.defBody (top 28)) (L2.defScope (top 28)) (.none) (.none) (.none) (.str "unlikeplace.cases" 434) .none (.ref 187) (.none)),#[]⟩) ::
  (nat_lit 189,⟨.type "tuple",.none,.seq #[] 0,#[]⟩) ::
  (nat_lit 191,⟨.type "tuple",.none,.seq #[.str "talk" 447,.str "yes" 448,.str "no" 449,.str "bits" 450,.str "part" 451,.str "own" 452,.str "bit" 453] 0,#[]⟩) ::
  (nat_lit 192,⟨.type "tuple",.none,.seq #[] 0,#[]⟩) ::
  (nat_lit 194,⟨.type "code",.none,.fields #[.str "spoken" 444,.str "spoken" 445,.str "/claim/cut.py" 446,.int (123) 0,.int (3) 0,.int (0) 0,.int (0) 0,.int (3) 0,.ref 189,.bool true,.int (181) 0,.ref 190,.none,.ref 191,.ref 192,.ref 193,.int (454) 0,.int (123) 0,.str "/claim/cut.py" 455],#[]⟩) ::
  (nat_lit 195,⟨.type "function",.none,.func (PySem.W.fnOf "spoken" "spoken" (L2.defArgs (top 30)) (L2.defBody (top 30)) (L2.defScope (top 30)) (.none) (.none) (.none) (.str "unlikeplace.talks" 442) .none (.ref 194) (.none)),#[]⟩) ::
  (nat_lit 196,⟨.type "tuple",.none,.seq #[] 0,#[]⟩) ::
  (nat_lit 198,⟨.type "tuple",.none,.seq #[.str "talk" 460] 0,#[]⟩) ::
  (nat_lit 199,⟨.type "tuple",.none,.seq #[] 0,#[]⟩) ::
  (nat_lit 201,⟨.type "code",.none,.fields #[.str "talk_deep" 457,.str "talk_deep" 458,.str "/claim/cut.py" 459,.int (132) 0,.int (1) 0,.int (0) 0,.int (0) 0,.int (3) 0,.ref 196,.bool true,.int (181) 0,.ref 197,.none,.ref 198,.ref 199,.ref 200,.int (461) 0,.int (132) 0,.str "/claim/cut.py" 462],#[]⟩) ::
  (nat_lit 202,⟨.type "function",.none,.func (PySem.W.fnOf "talk_deep" "talk_deep" (L2.defArgs (top 31)) (L2.defBody (top 31)) (L2.defScope (top 31)) (.none) (.none) (.none) (.str "unlikeplace.talks" 442) .none (.ref 201) (.none)),#[]⟩) ::
  (nat_lit 203,⟨.type "tuple",.none,.seq #[] 0,#[]⟩) ::
  (nat_lit 205,⟨.type "tuple",.none,.seq #[.str "talk" 467] 0,#[]⟩) ::
  (nat_lit 206,⟨.type "tuple",.none,.seq #[] 0,#[]⟩) ::
  (nat_lit 208,⟨.type "code",.none,.fields #[.str "talk_leaves" 464,.str "talk_leaves" 465,.str "/claim/cut.py" 466,.int (134) 0,.int (1) 0,.int (0) 0,.int (0) 0,.int (3) 0,.ref 203,.bool true,.int (181) 0,.ref 204,.none,.ref 205,.ref 206,.ref 207,.int (468) 0,.int (134) 0,.str "/claim/cut.py" 469],#[]⟩) ::
  (nat_lit 209,⟨.type "function",.none,.func (PySem.W.fnOf "talk_leaves" "talk_leaves" (L2.defArgs (top 32)) (L2.defBody (top 32)) (L2.defScope (top 32)) (.none) (.none) (.none) (.str "unlikeplace.talks" 442) .none (.ref 208) (.none)),#[]⟩) ::
  (nat_lit 210,⟨.type "tuple",.none,.seq #[] 0,#[]⟩) ::
  (nat_lit 212,⟨.type "tuple",.none,.seq #[.str "rule" 474,.str "place" 475,.str "yes" 476,.str "no" 477] 0,#[]⟩) ::
  (nat_lit 213,⟨.type "tuple",.none,.seq #[] 0,#[]⟩) ::
  (nat_lit 215,⟨.type "code",.none,.fields #[.str "parts_pair" 471,.str "parts_pair" 472,.str "/claim/cut.py" 473,.int (136) 0,.int (4) 0,.int (0) 0,.int (0) 0,.int (3) 0,.ref 210,.bool true,.int (181) 0,.ref 211,.none,.ref 212,.ref 213,.ref 214,.int (478) 0,.int (136) 0,.str "/claim/cut.py" 479],#[]⟩) ::
  (nat_lit 216,⟨.type "function",.none,.func (PySem.W.fnOf "parts_pair" "parts_pair" (L2.defArgs (top 33)) (L2.defBody (top 33)) (L2.defScope (top 33)) (.none) (.none) (.none) (.str "unlikeplace.talks" 442) .none (.ref 215) (.none)),#[]⟩) ::
  (nat_lit 217,⟨.type "tuple",.none,.seq #[] 0,#[]⟩) ::
  (nat_lit 219,⟨.type "tuple",.none,.seq #[.str "case" 484,.str "rule" 485,.str "talk" 486,.str "yes" 487,.str "no" 488,.str "place" 489] 0,#[]⟩) ::
  (nat_lit 220,⟨.type "tuple",.none,.seq #[] 0,#[]⟩) ::
  (nat_lit 222,⟨.type "code",.none,.fields #[.str "fault" 481,.str "fault" 482,.str "/claim/cut.py" 483,.int (140) 0,.int (3) 0,.int (0) 0,.int (0) 0,.int (3) 0,.ref 217,.bool true,.int (181) 0,.ref 218,.none,.ref 219,.ref 220,.ref 221,.int (490) 0,.int (140) 0,.str "/claim/cut.py" 491],#[]⟩) ::
  (nat_lit 223,⟨.type "function",.none,.func (PySem.W.fnOf "fault" "fault" (L2.defArgs (top 34)) (L2.defBody (top 34)) (L2.defScope (top 34)) (.none) (.none) (.none) (.str "unlikeplace.talks" 442) .none (.ref 222) (.none)),#[]⟩) ::
  (nat_lit 224,⟨.type "tuple",.none,.seq #[] 0,#[]⟩) ::
  (nat_lit 226,⟨.type "tuple",.none,.seq #[.str "case" 496,.str "rule" 497,.str "talk" 498] 0,#[]⟩) ::
  (nat_lit 227,⟨.type "tuple",.none,.seq #[] 0,#[]⟩) ::
  (nat_lit 229,⟨.type "code",.none,.fields #[.str "lets_by" 493,.str "lets_by" 494,.str "/claim/cut.py" 495,.int (146) 0,.int (3) 0,.int (0) 0,.int (0) 0,.int (3) 0,.ref 224,.bool true,.int (181) 0,.ref 225,.none,.ref 226,.ref 227,.ref 228,.int (499) 0,.int (146) 0,.str "/claim/cut.py" 500],#[]⟩) ::
  (nat_lit 230,⟨.type "function",.none,.func (PySem.W.fnOf "lets_by" "lets_by" (L2.defArgs (top 35)) (L2.defBody (top 35)) (L2.defScope (top 35)) (.none) (.none) (.none) (.str "unlikeplace.talks" 442) .none (.ref 229) (.none)),#[]⟩) ::
  (nat_lit 231,⟨.type "dict",.none,.dict #[⟨PySem.PyData.keyHash P "yes",.str "yes" 504,.str "or" 505⟩,⟨PySem.PyData.keyHash P "no",.str "no" 506,.str "and" 507⟩] 2,#[]⟩) ::
  (nat_lit 232,⟨.type "tuple",.none,.seq #[] 0,#[]⟩) ::
  (nat_lit 234,⟨.type "tuple",.none,.seq #[.str "case" 514,.str "saying" 515,.str "led" 516] 0,#[]⟩) ::
  (nat_lit 235,⟨.type "tuple",.none,.seq #[.str "case" 517] 0,#[]⟩) ::
  (nat_lit 237,⟨.type "code",.none,.fields #[.str "talk_of" 511,.str "talk_of" 512,.str "/claim/cut.py" 513,.int (150) 0,.int (2) 0,.int (0) 0,.int (0) 0,.int (3) 0,.ref 232,.bool true,.int (181) 0,.ref 233,.none,.ref 234,.ref 235,.ref 236,.int (518) 0,.int (150) 0,.str "/claim/cut.py" 519],#[]⟩) ::
  (nat_lit 238,⟨.type "function",.none,.func (PySem.W.fnOf "talk_of" "talk_of" (L2.defArgs (top 38)) (L2.defBody (top 38)) (L2.defScope (top 38)) (.none) (.none) (.none) (.str "unlikeplace.leads" 502) .none (.ref 237) (.none)),#[]⟩) ::
  (nat_lit 239,⟨.type "tuple",.none,.seq #[] 0,#[]⟩) ::
  (nat_lit 242,⟨.type "code",.none,.fields #[.str "led_leaf" 521,.str "led_leaf" 522,.str "/claim/cut.py" 523,.int (155) 0,.int (2) 0,.int (0) 0,.int (0) 0,.int (3) 0,.ref 239,.bool true,.int (181) 0,.ref 240,.none,.none,.none,.ref 241,.int (524) 0,.int (155) 0,.str "/claim/cut.py" 525],#[]⟩) ::
  (nat_lit 243,⟨.type "function",.none,.func (PySem.W.fnOf "led_leaf" "led_leaf" (L2.defArgs (top 39)) (L2.defBody (top 39)) (L2.defScope (top 39)) (.none) (.none) (.none) (.str "unlikeplace.leads" 502) .none (.ref 242) (.none)),#[]⟩) ::
  (nat_lit 244,⟨.type "tuple",.none,.seq #[] 0,#[]⟩) ::
  (nat_lit 246,⟨.type "tuple",.none,.seq #[.str "case" 530,.str "join" 531,.str "one" 532,.str "other" 533,.str "says" 534] 0,#[]⟩) ::
  (nat_lit 247,⟨.type "tuple",.none,.seq #[] 0,#[]⟩) ::
  (nat_lit 249,⟨.type "code",.none,.fields #[.str "led_join" 527,.str "led_join" 528,.str "/claim/cut.py" 529,.int (157) 0,.int (4) 0,.int (0) 0,.int (0) 0,.int (3) 0,.ref 244,.bool true,.int (181) 0,.ref 245,.none,.ref 246,.ref 247,.ref 248,.int (535) 0,.int (157) 0,.str "/claim/cut.py" 536],#[]⟩) ::
  (nat_lit 250,⟨.type "function",.none,.func (PySem.W.fnOf "led_join" "led_join" (L2.defArgs (top 40)) (L2.defBody (top 40)) (L2.defScope (top 40)) (.none) (.none) (.none) (.str "unlikeplace.leads" 502) .none (.ref 249) (.none)),#[]⟩) ::
  (nat_lit 251,⟨.type "tuple",.none,.seq #[] 0,#[]⟩) ::
  (nat_lit 254,⟨.type "code",.none,.fields #[.str "words_with" 538,.str "words_with" 539,.str "/claim/cut.py" 540,.int (163) 0,.int (3) 0,.int (0) 0,.int (0) 0,.int (3) 0,.ref 251,.bool true,.int (181) 0,.ref 252,.none,.none,.none,.ref 253,.int (541) 0,.int (163) 0,.str "/claim/cut.py" 542],#[]⟩) ::
  (nat_lit 255,⟨.type "function",.none,.func (PySem.W.fnOf "words_with" "words_with" (L2.defArgs (top 41)) (L2.defBody (top 41)) (L2.defScope (top 41)) (.none) (.none) (.none) (.str "unlikeplace.leads" 502) .none (.ref 254) (.none)),#[]⟩) ::
  (nat_lit 256,⟨.type "tuple",.none,.seq #[] 0,#[]⟩) ::
  (nat_lit 259,⟨.type "code",.none,.fields #[.str "greater" 544,.str "greater" 545,.str "/claim/cut.py" 546,.int (165) 0,.int (2) 0,.int (0) 0,.int (0) 0,.int (3) 0,.ref 256,.bool true,.int (181) 0,.ref 257,.none,.none,.none,.ref 258,.int (547) 0,.int (165) 0,.str "/claim/cut.py" 548],#[]⟩) ::
  (nat_lit 260,⟨.type "function",.none,.func (PySem.W.fnOf "greater" "greater" (L2.defArgs (top 42)) (L2.defBody (top 42)) (L2.defScope (top 42)) (.none) (.none) (.none) (.str "unlikeplace.leads" 502) .none (.ref 259) (.none)),#[]⟩) ::
  (nat_lit 261,⟨.type "tuple",.none,.seq #[] 0,#[]⟩) ::
  (nat_lit 264,⟨.type "code",.none,.fields #[.str "smaller" 550,.str "smaller" 551,.str "/claim/cut.py" 552,.int (167) 0,.int (2) 0,.int (0) 0,.int (0) 0,.int (3) 0,.ref 261,.bool true,.int (181) 0,.ref 262,.none,.none,.none,.ref 263,.int (553) 0,.int (167) 0,.str "/claim/cut.py" 554],#[]⟩) ::
  (nat_lit 265,⟨.type "function",.none,.func (PySem.W.fnOf "smaller" "smaller" (L2.defArgs (top 43)) (L2.defBody (top 43)) (L2.defScope (top 43)) (.none) (.none) (.none) (.str "unlikeplace.leads" 502) .none (.ref 264) (.none)),#[]⟩) ::
  (nat_lit 266,⟨.type "tuple",.none,.seq #[] 0,#[]⟩) ::
  (nat_lit 269,⟨.type "code",.none,.fields #[.str "saying_of" 556,.str "saying_of" 557,.str "/claim/cut.py" 558,.int (169) 0,.int (2) 0,.int (0) 0,.int (0) 0,.int (3) 0,.ref 266,.bool true,.int (181) 0,.ref 267,.none,.none,.none,.ref 268,.int (559) 0,.int (169) 0,.str "/claim/cut.py" 560],#[]⟩) ::
  (nat_lit 270,⟨.type "function",.none,.func (PySem.W.fnOf "saying_of" "saying_of" (L2.defArgs (top 44)) (L2.defBody (top 44)) (L2.defScope (top 44)) (.none) (.none) (.none) (.str "unlikeplace.leads" 502) .none (.ref 269) (.none)),#[]⟩) ::
  (nat_lit 271,⟨.type "tuple",.none,.seq #[] 0,#[]⟩) ::
  (nat_lit 273,⟨.type "tuple",.none,.seq #[.str "_law_script" 567] 0,#[]⟩) ::
  (nat_lit 274,⟨.type "tuple",.none,.seq #[] 0,#[]⟩) ::
  (nat_lit 276,⟨.type "code",.none,.fields #[.str "_law_mine" 564,.str "_law_mine" 565,.str "/claim/cut.py" 566,.int (185) 0,.int (1) 0,.int (0) 0,.int (0) 0,.int (3) 0,.ref 271,.bool true,.int (181) 0,.ref 272,.none,.ref 273,.ref 274,.ref 275,.int (568) 0,.int (185) 0,.str "/claim/cut.py" 569],#[]⟩) ::
  (nat_lit 277,⟨.type "function",.none,.func (PySem.W.fnOf "_law_mine" "_law_mine" (L2.defArgs (top 46)) (L2.defBody (top 46)) (L2.defScope (top 46)) (.none) (.none) (.none) (.str "law_unlikeplace_k52_whole_fixed_never_more" 562) .none (.ref 276) (.none)),#[]⟩) ::
  (nat_lit 278,⟨.type "tuple",.none,.seq #[] 0,#[]⟩) ::
  (nat_lit 280,⟨.type "tuple",.none,.seq #[.str "_law_mine_here" 574,.str "_law_many" 575,.str "_law_lump" 576,.str "_law_script" 577,.str "_law_at" 578,.str "_law_cell" 579,.str "_law_dust" 580] 0,#[]⟩) ::
  (nat_lit 281,⟨.type "tuple",.none,.seq #[] 0,#[]⟩) ::
  (nat_lit 283,⟨.type "code",.none,.fields #[.str "_law_dig" 571,.str "_law_dig" 572,.str "/claim/cut.py" 573,.int (187) 0,.int (2) 0,.int (0) 0,.int (0) 0,.int (3) 0,.ref 278,.bool true,.int (181) 0,.ref 279,.none,.ref 280,.ref 281,.ref 282,.int (581) 0,.int (187) 0,.str "/claim/cut.py" 582],#[]⟩) ::
  (nat_lit 284,⟨.type "function",.none,.func (PySem.W.fnOf "_law_dig" "_law_dig" (L2.defArgs (top 47)) (L2.defBody (top 47)) (L2.defScope (top 47)) (.none) (.none) (.none) (.str "law_unlikeplace_k52_whole_fixed_never_more" 562) .none (.ref 283) (.none)),#[]⟩) ::
  (nat_lit 285,⟨.type "tuple",.none,.seq #[] 0,#[]⟩) ::
  (nat_lit 288,⟨.type "code",.none,.fields #[.str "_law_field" 584,.str "_law_field" 585,.str "/claim/cut.py" 586,.int (205) 0,.int (1) 0,.int (0) 0,.int (0) 0,.int (3) 0,.ref 285,.bool true,.int (181) 0,.ref 286,.none,.none,.none,.ref 287,.int (587) 0,.int (205) 0,.str "/claim/cut.py" 588],#[]⟩) ::
  (nat_lit 289,⟨.type "function",.none,.func (PySem.W.fnOf "_law_field" "_law_field" (L2.defArgs (top 48)) (L2.defBody (top 48)) (L2.defScope (top 48)) (.none) (.none) (.none) (.str "law_unlikeplace_k52_whole_fixed_never_more" 562) .none (.ref 288) (.none)),#[]⟩) ::
  (nat_lit 290,⟨.type "tuple",.none,.seq #[] 0,#[]⟩) ::
  (nat_lit 292,⟨.type "tuple",.none,.seq #[.str "_law_mine_here" 593,.str "_law_places" 594,.str "_law_many" 595,.str "_law_kinds" 596,.str "_law_left" 597,.str "_law_one" 598,.str "_law_other" 599] 0,#[]⟩) ::
  (nat_lit 293,⟨.type "tuple",.none,.seq #[] 0,#[]⟩) ::
  (nat_lit 295,⟨.type "code",.none,.fields #[.str "_law_saying" 590,.str "_law_saying" 591,.str "/claim/cut.py" 592,.int (207) 0,.int (4) 0,.int (0) 0,.int (0) 0,.int (3) 0,.ref 290,.bool true,.int (181) 0,.ref 291,.none,.ref 292,.ref 293,.ref 294,.int (600) 0,.int (207) 0,.str "/claim/cut.py" 601],#[]⟩) ::
  (nat_lit 296,⟨.type "function",.none,.func (PySem.W.fnOf "_law_saying" "_law_saying" (L2.defArgs (top 49)) (L2.defBody (top 49)) (L2.defScope (top 49)) (.none) (.none) (.none) (.str "law_unlikeplace_k52_whole_fixed_never_more" 562) .none (.ref 295) (.none)),#[]⟩) ::
  (nat_lit 297,⟨.type "tuple",.none,.seq #[] 0,#[]⟩) ::
  (nat_lit 299,⟨.type "tuple",.none,.seq #[.str "_law_saying_here" 606,.str "_law_word" 607] 0,#[]⟩) ::
  (nat_lit 300,⟨.type "tuple",.none,.seq #[] 0,#[]⟩) ::
  (nat_lit 302,⟨.type "code",.none,.fields #[.str "_law_is_one" 603,.str "_law_is_one" 604,.str "/claim/cut.py" 605,.int (218) 0,.int (2) 0,.int (0) 0,.int (0) 0,.int (3) 0,.ref 297,.bool true,.int (181) 0,.ref 298,.none,.ref 299,.ref 300,.ref 301,.int (608) 0,.int (218) 0,.str "/claim/cut.py" 609],#[]⟩) ::
  (nat_lit 303,⟨.type "function",.none,.func (PySem.W.fnOf "_law_is_one" "_law_is_one" (L2.defArgs (top 50)) (L2.defBody (top 50)) (L2.defScope (top 50)) (.none) (.none) (.none) (.str "law_unlikeplace_k52_whole_fixed_never_more" 562) .none (.ref 302) (.none)),#[]⟩) ::
  (nat_lit 304,⟨.type "tuple",.none,.seq #[] 0,#[]⟩) ::
  (nat_lit 307,⟨.type "code",.none,.fields #[.str "_law_thinned" 611,.str "_law_thinned" 612,.str "/claim/cut.py" 613,.int (224) 0,.int (2) 0,.int (0) 0,.int (0) 0,.int (3) 0,.ref 304,.bool true,.int (181) 0,.ref 305,.none,.none,.none,.ref 306,.int (614) 0,.int (224) 0,.str "/claim/cut.py" 615],#[]⟩) ::
  (nat_lit 308,⟨.type "function",.none,.func (PySem.W.fnOf "_law_thinned" "_law_thinned" (L2.defArgs (top 51)) (L2.defBody (top 51)) (L2.defScope (top 51)) (.none) (.none) (.none) (.str "law_unlikeplace_k52_whole_fixed_never_more" 562) .none (.ref 307) (.none)),#[]⟩) ::
  (nat_lit 309,⟨.type "tuple",.none,.seq #[] 0,#[]⟩) ::
  (nat_lit 311,⟨.type "tuple",.none,.seq #[.str "_law_case" 620,.str "_law_place" 621,.str "_law_bit" 622,.str "_law_found" 623] 0,#[]⟩) ::
  (nat_lit 312,⟨.type "tuple",.none,.seq #[] 0,#[]⟩) ::
  (nat_lit 314,⟨.type "code",.none,.fields #[.str "_law_fixed" 617,.str "_law_fixed" 618,.str "/claim/cut.py" 619,.int (230) 0,.int (3) 0,.int (0) 0,.int (0) 0,.int (3) 0,.ref 309,.bool true,.int (181) 0,.ref 310,.none,.ref 311,.ref 312,.ref 313,.int (624) 0,.int (230) 0,.str "/claim/cut.py" 625],#[]⟩) ::
  (nat_lit 315,⟨.type "function",.none,.func (PySem.W.fnOf "_law_fixed" "_law_fixed" (L2.defArgs (top 52)) (L2.defBody (top 52)) (L2.defScope (top 52)) (.none) (.none) (.none) (.str "law_unlikeplace_k52_whole_fixed_never_more" 562) .none (.ref 314) (.none)),#[]⟩) ::
  (nat_lit 316,⟨.type "tuple",.none,.seq #[] 0,#[]⟩) ::
  (nat_lit 319,⟨.type "code",.none,.fields #[.str "_law_stays" 627,.str "_law_stays" 628,.str "/claim/cut.py" 629,.int (237) 0,.int (3) 0,.int (0) 0,.int (0) 0,.int (3) 0,.ref 316,.bool true,.int (181) 0,.ref 317,.none,.none,.none,.ref 318,.int (630) 0,.int (237) 0,.str "/claim/cut.py" 631],#[]⟩) ::
  (nat_lit 320,⟨.type "function",.none,.func (PySem.W.fnOf "_law_stays" "_law_stays" (L2.defArgs (top 53)) (L2.defBody (top 53)) (L2.defScope (top 53)) (.none) (.none) (.none) (.str "law_unlikeplace_k52_whole_fixed_never_more" 562) .none (.ref 319) (.none)),#[]⟩) ::
  (nat_lit 321,⟨.type "tuple",.none,.seq #[] 0,#[]⟩) ::
  (nat_lit 323,⟨.type "tuple",.none,.seq #[.str "_law_word" 636,.str "_law_place" 637,.str "_law_bit" 638] 0,#[]⟩) ::
  (nat_lit 324,⟨.type "tuple",.none,.seq #[] 0,#[]⟩) ::
  (nat_lit 326,⟨.type "code",.none,.fields #[.str "_law_put_in" 633,.str "_law_put_in" 634,.str "/claim/cut.py" 635,.int (240) 0,.int (3) 0,.int (0) 0,.int (0) 0,.int (3) 0,.ref 321,.bool true,.int (181) 0,.ref 322,.none,.ref 323,.ref 324,.ref 325,.int (639) 0,.int (240) 0,.str "/claim/cut.py" 640],#[]⟩) ::
  (nat_lit 327,⟨.type "function",.none,.func (PySem.W.fnOf "_law_put_in" "_law_put_in" (L2.defArgs (top 54)) (L2.defBody (top 54)) (L2.defScope (top 54)) (.none) (.none) (.none) (.str "law_unlikeplace_k52_whole_fixed_never_more" 562) .none (.ref 326) (.none)),#[]⟩) ::
  (nat_lit 328,⟨.type "tuple",.none,.seq #[] 0,#[]⟩) ::
  (nat_lit 330,⟨.type "tuple",.none,.seq #[.str "_law_case" 645,.str "_law_talk" 646,.str "_law_place" 647,.str "_law_bit" 648,.str "_law_small" 649,.str "_law_short" 650,.str "_law_is_rising" 651,.str "_law_yes" 652,.str "_law_no" 653,.str "_law_whole" 654,.str "_law_bits" 655,.str "_law_end" 656,.str "_law_at" 657] 0,#[]⟩) ::
  (nat_lit 331,⟨.type "tuple",.none,.seq #[] 0,#[]⟩) ::
  (nat_lit 333,⟨.type "code",.none,.fields #[.str "_law_pairs_right" 642,.str "_law_pairs_right" 643,.str "/claim/cut.py" 644,.int (242) 0,.int (7) 0,.int (0) 0,.int (0) 0,.int (3) 0,.ref 328,.bool true,.int (181) 0,.ref 329,.none,.ref 330,.ref 331,.ref 332,.int (658) 0,.int (242) 0,.str "/claim/cut.py" 659],#[]⟩) ::
  (nat_lit 334,⟨.type "function",.none,.func (PySem.W.fnOf "_law_pairs_right" "_law_pairs_right" (L2.defArgs (top 55)) (L2.defBody (top 55)) (L2.defScope (top 55)) (.none) (.none) (.none) (.str "law_unlikeplace_k52_whole_fixed_never_more" 562) .none (.ref 333) (.none)),#[]⟩) ::
  (nat_lit 335,⟨.type "tuple",.none,.seq #[] 0,#[]⟩) ::
  (nat_lit 337,⟨.type "tuple",.none,.seq #[.str "_law_case" 664,.str "_law_talk" 665,.str "_law_small" 666,.str "_law_short" 667,.str "_law_most" 668,.str "_law_few" 669,.str "_law_told" 670] 0,#[]⟩) ::
  (nat_lit 338,⟨.type "tuple",.none,.seq #[] 0,#[]⟩) ::
  (nat_lit 340,⟨.type "code",.none,.fields #[.str "_law_no_more" 661,.str "_law_no_more" 662,.str "/claim/cut.py" 663,.int (255) 0,.int (4) 0,.int (0) 0,.int (0) 0,.int (3) 0,.ref 335,.bool true,.int (181) 0,.ref 336,.none,.ref 337,.ref 338,.ref 339,.int (671) 0,.int (255) 0,.str "/claim/cut.py" 672],#[]⟩) ::
  (nat_lit 341,⟨.type "function",.none,.func (PySem.W.fnOf "_law_no_more" "_law_no_more" (L2.defArgs (top 56)) (L2.defBody (top 56)) (L2.defScope (top 56)) (.none) (.none) (.none) (.str "law_unlikeplace_k52_whole_fixed_never_more" 562) .none (.ref 340) (.none)),#[]⟩) ::
  (nat_lit 342,⟨.type "tuple",.none,.seq #[] 0,#[]⟩) ::
  (nat_lit 344,⟨.type "tuple",.none,.seq #[.str "_law_case" 677,.str "_law_talk" 678,.str "_law_place" 679,.str "_law_bit" 680,.str "_law_is_rising" 681,.str "_law_is_told" 682,.str "_law_small" 683,.str "_law_short" 684] 0,#[]⟩) ::
  (nat_lit 345,⟨.type "tuple",.none,.seq #[] 0,#[]⟩) ::
  (nat_lit 347,⟨.type "code",.none,.fields #[.str "_law_right" 674,.str "_law_right" 675,.str "/claim/cut.py" 676,.int (262) 0,.int (5) 0,.int (0) 0,.int (0) 0,.int (3) 0,.ref 342,.bool true,.int (181) 0,.ref 343,.none,.ref 344,.ref 345,.ref 346,.int (685) 0,.int (262) 0,.str "/claim/cut.py" 686],#[]⟩) ::
  (nat_lit 348,⟨.type "function",.none,.func (PySem.W.fnOf "_law_right" "_law_right" (L2.defArgs (top 57)) (L2.defBody (top 57)) (L2.defScope (top 57)) (.none) (.none) (.none) (.str "law_unlikeplace_k52_whole_fixed_never_more" 562) .none (.ref 347) (.none)),#[]⟩) ::
  (nat_lit 349,⟨.type "tuple",.none,.seq #[] 0,#[]⟩) ::
  (nat_lit 351,⟨.type "tuple",.none,.seq #[.str "_law_mine_here" 691,.str "_law_case" 692,.str "_law_talk" 693,.str "_law_turn" 694,.str "_law_place" 695,.str "_law_bit" 696,.str "_law_is_told" 697,.str "_law_small" 698] 0,#[]⟩) ::
  (nat_lit 352,⟨.type "tuple",.none,.seq #[] 0,#[]⟩) ::
  (nat_lit 354,⟨.type "code",.none,.fields #[.str "_law_down" 688,.str "_law_down" 689,.str "/claim/cut.py" 690,.int (276) 0,.int (3) 0,.int (0) 0,.int (0) 0,.int (3) 0,.ref 349,.bool true,.int (181) 0,.ref 350,.none,.ref 351,.ref 352,.ref 353,.int (699) 0,.int (276) 0,.str "/claim/cut.py" 700],#[]⟩) ::
  (nat_lit 355,⟨.type "function",.none,.func (PySem.W.fnOf "_law_down" "_law_down" (L2.defArgs (top 58)) (L2.defBody (top 58)) (L2.defScope (top 58)) (.none) (.none) (.none) (.str "law_unlikeplace_k52_whole_fixed_never_more" 562) .none (.ref 354) (.none)),#[]⟩) ::
  (nat_lit 356,⟨.type "tuple",.none,.seq #[] 0,#[]⟩) ::
  (nat_lit 359,⟨.type "code",.none,.fields #[.str "law" 702,.str "law" 703,.str "/claim/cut.py" 704,.int (286) 0,.int (1) 0,.int (0) 0,.int (0) 0,.int (3) 0,.ref 356,.bool true,.int (181) 0,.ref 357,.none,.none,.none,.ref 358,.int (705) 0,.int (286) 0,.str "/claim/cut.py" 706],#[]⟩) ::
  (nat_lit 360,⟨.type "function",.none,.func (PySem.W.fnOf "law" "law" (L2.defArgs (top 59)) (L2.defBody (top 59)) (L2.defScope (top 59)) (.none) (.none) (.none) (.str "law_unlikeplace_k52_whole_fixed_never_more" 562) .none (.ref 359) (.none)),#[]⟩) :: []
end My
def PySem.W.Fast.tw6894247980046229166 : PySem.Params->PySem.W.Frag:=My.KK
theorem PySem.W.Fast.te6894247980046229166 : My.KK = PySem.W.Fast.tw6894247980046229166:=rfl
def PySem.W.Fast.tw686964573247919152 : PySem.Program:=PySem.Challenge.pw_unlikeplace_k52_whole_fixed_never_more
theorem PySem.W.Fast.te686964573247919152 : PySem.Challenge.pw_unlikeplace_k52_whole_fixed_never_more = PySem.W.Fast.tw686964573247919152:=rfl
namespace PySem.W.Fast
theorem te8215127134027033664 : True:=⟨⟩
theorem te17329949763995846784 : True:=⟨⟩
theorem te17521138552363623616 : True:=⟨⟩
theorem te14589434752907869536 : True:=⟨⟩
theorem te12928394655847199104 : True:=⟨⟩
theorem te9324070496279006624 : True:=⟨⟩
theorem te3706525024910101952 : True:=⟨⟩
theorem te502092626596424224 : True:=⟨⟩
theorem te574692852998665760 : True:=⟨⟩
theorem te4766282576601237184 : True:=⟨⟩
theorem te9676730284731118368 : True:=⟨⟩
theorem te17557091638831223616 : True:=⟨⟩
theorem te11470327216620013440 : True:=⟨⟩
theorem te408196476933360544 : True:=⟨⟩
theorem te1649890149538086848 : True:=⟨⟩
theorem te16571727482688262080 : True:=⟨⟩
theorem te15660812394869020673 : True:=⟨⟩
theorem te12944318656390094017 : True:=⟨⟩
theorem te9483381458184307905 : True:=⟨⟩
theorem te2440416551981136097 : True:=⟨⟩
theorem te7116374060609258817 : True:=⟨⟩
theorem te11979367393414556033 : True:=⟨⟩
theorem te1257022081742074273 : True:=⟨⟩
theorem te1023429517800911265 : True:=⟨⟩
def My.sts_295 : List PySem.Stmt:=[My.top 40,My.top 41,My.top 42,My.top 43,My.top 44,My.top 45,My.top 46,My.top 47,My.top 48,My.top 49,My.top 50,My.top 51,My.top 52,My.top 53]
def tw1328654687442999809 : List PySem.Stmt:=My.sts_295
theorem te1328654687442999809 : My.sts_295 = tw1328654687442999809:=rfl
theorem te1797949056170349153 : True:=⟨⟩
theorem te1749532583580876417 : True:=⟨⟩
theorem te7308574076163880577 : True:=⟨⟩
theorem te9953182808433128161 : True:=⟨⟩
theorem te10447229209577030433 : True:=⟨⟩
theorem te7254079848206318497 : True:=⟨⟩
theorem te14084177598271648866 : True:=⟨⟩
theorem te11388686535233730754 : True:=⟨⟩
theorem te8102350280889562370 : True:=⟨⟩
theorem te6843228799324119330 : True:=⟨⟩
theorem te9787769814723583554 : True:=⟨⟩
theorem te5884368094702208738 : True:=⟨⟩
theorem te9284490757401848578 : True:=⟨⟩
theorem te5650748190338891971 : True:=⟨⟩
theorem te14682102836686150915 : True:=⟨⟩
theorem te7370638073868871971 : True:=⟨⟩
theorem te12426064357958620707 : True:=⟨⟩
theorem te18202360847834884675 : True:=⟨⟩
theorem te15266332753823249059 : True:=⟨⟩
theorem te14253936205902576323 : True:=⟨⟩
theorem te3589249575047695043 : True:=⟨⟩
theorem te11047665996059068131 : True:=⟨⟩
theorem te4830670016964014947 : True:=⟨⟩
theorem te3895104966587204579 : True:=⟨⟩
theorem te5694548852103296068 : True:=⟨⟩
theorem te3754469918916317380 : True:=⟨⟩
theorem te17323879434168208612 : True:=⟨⟩
theorem te16835361130548760868 : True:=⟨⟩
theorem te15977875632184305092 : True:=⟨⟩
theorem te6977305769859207812 : True:=⟨⟩
theorem te15246505184913883940 : True:=⟨⟩
theorem te4708314988427948836 : True:=⟨⟩
theorem te8264687181715363620 : True:=⟨⟩
def My.sts_64 : List PySem.Stmt:=[My.top 2]
def tw1279441761433938788 : List PySem.Stmt:=My.sts_64
theorem te1279441761433938788 : My.sts_64 = tw1279441761433938788:=rfl
theorem te13650405126547927908 : True:=⟨⟩
theorem te11421198876621674372 : True:=⟨⟩
theorem te6058496867380170660 : True:=⟨⟩
theorem te14197591892708135045 : True:=⟨⟩
theorem te9804618443443148933 : True:=⟨⟩
theorem te4800512178271497413 : True:=⟨⟩
theorem te12228394955360706821 : True:=⟨⟩
theorem te10488636608545684965 : True:=⟨⟩
theorem te11976353004902777733 : True:=⟨⟩
theorem te7461352311625010085 : True:=⟨⟩
theorem te10714936373863934982 : True:=⟨⟩
theorem te9014078628374683750 : True:=⟨⟩
theorem te5689430975288828006 : True:=⟨⟩
theorem te5843838971568200166 : True:=⟨⟩
theorem te7007430470280529414 : True:=⟨⟩
theorem te11464196123828309606 : True:=⟨⟩
theorem te2289551276426116966 : True:=⟨⟩
theorem te4041354325822239654 : True:=⟨⟩
theorem te5093718549506864199 : True:=⟨⟩
def My.sts_79 : List PySem.Stmt:=[My.top 3]
def tw12808042298286895303 : List PySem.Stmt:=My.sts_79
theorem te12808042298286895303 : My.sts_79 = tw12808042298286895303:=rfl
theorem te16833348173481000391 : True:=⟨⟩
theorem te7545481587893947879 : True:=⟨⟩
theorem te11361941005368289959 : True:=⟨⟩
theorem te4221667554460824327 : True:=⟨⟩
theorem te11078758476383240999 : True:=⟨⟩
theorem te6434260491524549447 : True:=⟨⟩
theorem te8532945347662616584 : True:=⟨⟩
theorem te13591688837587471400 : True:=⟨⟩
theorem te3023563286801115240 : True:=⟨⟩
theorem te2713024004878119048 : True:=⟨⟩
theorem te17903487714080709832 : True:=⟨⟩
theorem te16335475065550911752 : True:=⟨⟩
theorem te13798739960334248264 : True:=⟨⟩
theorem te2300882783512482152 : True:=⟨⟩
theorem te7847987190588552712 : True:=⟨⟩
theorem te11600613093346758216 : True:=⟨⟩
theorem te17513602083660950280 : True:=⟨⟩
theorem te15885637487714282280 : True:=⟨⟩
theorem te6545133846317647784 : True:=⟨⟩
theorem te5808230139249584072 : True:=⟨⟩
theorem te2977444032392910889 : True:=⟨⟩
theorem te14762174237764582441 : True:=⟨⟩
theorem te14800952177413988489 : True:=⟨⟩
theorem te2429851497968144553 : True:=⟨⟩
theorem te4382726675067328873 : True:=⟨⟩
theorem te12555814783587943785 : True:=⟨⟩
theorem te12019556445666740617 : True:=⟨⟩
theorem te6679075192450841993 : True:=⟨⟩
theorem te1646618762770579913 : True:=⟨⟩
theorem te1707210751684379113 : True:=⟨⟩
theorem te17510098870487739913 : True:=⟨⟩
theorem te3249390856454920713 : True:=⟨⟩
theorem te17851172466585518633 : True:=⟨⟩
theorem te4905803949195351625 : True:=⟨⟩
theorem te7630378552225795721 : True:=⟨⟩
theorem te4217678077499438729 : True:=⟨⟩
theorem te2590469003189694185 : True:=⟨⟩
theorem te9656083269599481577 : True:=⟨⟩
theorem te18022991430397015849 : True:=⟨⟩
theorem te12667992544103487337 : True:=⟨⟩
theorem te2381543793869294602 : True:=⟨⟩
theorem te10335051188689258570 : True:=⟨⟩
theorem te7638932864804949066 : True:=⟨⟩
theorem te16768762455892211818 : True:=⟨⟩
theorem te14800865162430455946 : True:=⟨⟩
theorem te17421210578629253258 : True:=⟨⟩
theorem te2920638721112790186 : True:=⟨⟩
theorem te6835252398429088970 : True:=⟨⟩
theorem te14510958777802681578 : True:=⟨⟩
theorem te13335704315423575338 : True:=⟨⟩
theorem te14161063708483543370 : True:=⟨⟩
theorem te15992215993195134378 : True:=⟨⟩
theorem te9314577725301160458 : True:=⟨⟩
theorem te8727866618497992298 : True:=⟨⟩
theorem te17410681307409293962 : True:=⟨⟩
theorem te5876205503828020938 : True:=⟨⟩
theorem te10954246946996366058 : True:=⟨⟩
theorem te14150204327049688842 : True:=⟨⟩
theorem te9859432944557655147 : True:=⟨⟩
theorem te3522049129602581643 : True:=⟨⟩
theorem te8944661612363843723 : True:=⟨⟩
theorem te7876520023024184523 : True:=⟨⟩
theorem te14068635161271996619 : True:=⟨⟩
theorem te2986989635479262443 : True:=⟨⟩
theorem te17980988570327844075 : True:=⟨⟩
theorem te12610773086566652203 : True:=⟨⟩
theorem te3718886167001072971 : True:=⟨⟩
theorem te1908967722380157291 : True:=⟨⟩
theorem te17878593355086248363 : True:=⟨⟩
theorem te1049222865602292235 : True:=⟨⟩
theorem te12286417366810140363 : True:=⟨⟩
theorem te7668129874888950603 : True:=⟨⟩
theorem te8595528434394925035 : True:=⟨⟩
theorem te7104373863196380332 : True:=⟨⟩
theorem te14048449000111429996 : True:=⟨⟩
theorem te8679148362373998028 : True:=⟨⟩
theorem te11932306065187778156 : True:=⟨⟩
theorem te2463743656823870092 : True:=⟨⟩
theorem te5721223870284373676 : True:=⟨⟩
theorem te15102393610991171276 : True:=⟨⟩
theorem te12721944382693506764 : True:=⟨⟩
theorem te9016348694845920269 : True:=⟨⟩
theorem te17699084807403237741 : True:=⟨⟩
theorem te3742147314632490413 : True:=⟨⟩
theorem te9157368890917190157 : True:=⟨⟩
theorem te5575887776883192557 : True:=⟨⟩
theorem te9699135920745188077 : True:=⟨⟩
theorem te16261081767255810861 : True:=⟨⟩
theorem te15168456616609108781 : True:=⟨⟩
theorem te17511044564531265421 : True:=⟨⟩
def My.sts_94 : List PySem.Stmt:=[My.top 4,My.top 5,My.top 6,My.top 7,My.top 8,My.top 9,My.top 10,My.top 11]
def tw8023951474057826285 : List PySem.Stmt:=My.sts_94
theorem te8023951474057826285 : My.sts_94 = tw8023951474057826285:=rfl
theorem te3282139612898113582 : True:=⟨⟩
theorem te7732569129219057774 : True:=⟨⟩
theorem te2753845264789061038 : True:=⟨⟩
theorem te1059876889873645006 : True:=⟨⟩
theorem te18297290934335358574 : True:=⟨⟩
theorem te13157204096331396750 : True:=⟨⟩
theorem te10238133251654151918 : True:=⟨⟩
theorem te8879751722085743438 : True:=⟨⟩
theorem te2437309592141556558 : True:=⟨⟩
theorem te2381118617271830414 : True:=⟨⟩
theorem te11097902759344418702 : True:=⟨⟩
theorem te10301201099203091438 : True:=⟨⟩
theorem te5614207858948647983 : True:=⟨⟩
theorem te5532768692905119855 : True:=⟨⟩
theorem te2207313052464976047 : True:=⟨⟩
theorem te4812619947355505839 : True:=⟨⟩
theorem te5956411131584995535 : True:=⟨⟩
theorem te12173547203882005743 : True:=⟨⟩
theorem te10866768314390914287 : True:=⟨⟩
theorem te1885555151415126319 : True:=⟨⟩
def My.sts_140 : List PySem.Stmt:=[My.top 12,My.top 13,My.top 14,My.top 15,My.top 16,My.top 17,My.top 18,My.top 19,My.top 20,My.top 21,My.top 22,My.top 23,My.top 24,My.top 25]
def tw17283497452034140463 : List PySem.Stmt:=My.sts_140
theorem te17283497452034140463 : My.sts_140 = tw17283497452034140463:=rfl
theorem te9614846361319899471 : True:=⟨⟩
theorem te15828730337185751407 : True:=⟨⟩
theorem te4476992181772537263 : True:=⟨⟩
theorem te7543492512674001391 : True:=⟨⟩
theorem te7365500654210044463 : True:=⟨⟩
theorem te18196021568910682703 : True:=⟨⟩
theorem te158274536934069871 : True:=⟨⟩
theorem te13182680313981256367 : True:=⟨⟩
theorem te1740017633041428207 : True:=⟨⟩
theorem te14045643420134804335 : True:=⟨⟩
theorem te1107764585776617423 : True:=⟨⟩
theorem te12199542919169101840 : True:=⟨⟩
theorem te11449118650175259728 : True:=⟨⟩
theorem te9052000324368885872 : True:=⟨⟩
theorem te12733315109489104016 : True:=⟨⟩
theorem te8571495306089597104 : True:=⟨⟩
theorem te5030621482095806672 : True:=⟨⟩
theorem te8266019468652502320 : True:=⟨⟩
theorem te4800148059213841776 : True:=⟨⟩
theorem te15732846117443303792 : True:=⟨⟩
theorem te10154887830068066800 : True:=⟨⟩
theorem te9461286455596909104 : True:=⟨⟩
theorem te1718522519476116080 : True:=⟨⟩
theorem te13722982726230237904 : True:=⟨⟩
theorem te14862398780563964017 : True:=⟨⟩
theorem te14993049539033389201 : True:=⟨⟩
theorem te11919958670716888305 : True:=⟨⟩
theorem te7778608447035020529 : True:=⟨⟩
theorem te17610295126231545265 : True:=⟨⟩
theorem te13380134103204235697 : True:=⟨⟩
theorem te2427624358878862801 : True:=⟨⟩
theorem te4051437023184148049 : True:=⟨⟩
theorem te16907022469638739569 : True:=⟨⟩
theorem te3708026183353668305 : True:=⟨⟩
theorem te15688026941549147953 : True:=⟨⟩
theorem te3602401588191007569 : True:=⟨⟩
theorem te13069978235547582514 : True:=⟨⟩
theorem te4879150644228728946 : True:=⟨⟩
theorem te12550783891271196146 : True:=⟨⟩
theorem te5906745414389239410 : True:=⟨⟩
theorem te3607480850378041010 : True:=⟨⟩
theorem te12992352296426636050 : True:=⟨⟩
theorem te13112850442025057106 : True:=⟨⟩
theorem te15023519222640996178 : True:=⟨⟩
theorem te16185613417386301330 : True:=⟨⟩
theorem te863436908321722290 : True:=⟨⟩
theorem te4772822022208159666 : True:=⟨⟩
theorem te6317083023619889203 : True:=⟨⟩
theorem te17134982889403511891 : True:=⟨⟩
theorem te655928514394736723 : True:=⟨⟩
theorem te13169977863325819571 : True:=⟨⟩
def My.sts_224 : List PySem.Stmt:=[My.top 26,My.top 27,My.top 28,My.top 29,My.top 30,My.top 31,My.top 32,My.top 33,My.top 34,My.top 35,My.top 36,My.top 37,My.top 38,My.top 39]
def tw7417386546624699091 : List PySem.Stmt:=My.sts_224
theorem te7417386546624699091 : My.sts_224 = tw7417386546624699091:=rfl
theorem te3479715872375198611 : True:=⟨⟩
theorem te2497434001500531699 : True:=⟨⟩
theorem te9282506315424559156 : True:=⟨⟩
theorem te15848605037985601620 : True:=⟨⟩
theorem te14457538040229293172 : True:=⟨⟩
theorem te11320558062241621140 : True:=⟨⟩
theorem te7679231099629964468 : True:=⟨⟩
theorem te12615311625766890804 : True:=⟨⟩
theorem te3553276040235204020 : True:=⟨⟩
theorem te8784628219712056788 : True:=⟨⟩
theorem te6262185390935954036 : True:=⟨⟩
theorem te1106592830555903764 : True:=⟨⟩
theorem te62577174341107540 : True:=⟨⟩
theorem te13180182936183867252 : True:=⟨⟩
theorem te12655439883196797940 : True:=⟨⟩
theorem te11485579186010861621 : True:=⟨⟩
def My.sts_49 : List PySem.Stmt:=[My.top 0,My.top 1]
def tw7109690697493674037 : List PySem.Stmt:=My.sts_49
theorem te7109690697493674037 : My.sts_49 = tw7109690697493674037:=rfl
theorem te15513611997213490261 : True:=⟨⟩
theorem te14769780155242484053 : True:=⟨⟩
theorem te11384326440937460085 : True:=⟨⟩
theorem te10112062139045705109 : True:=⟨⟩
theorem te5399867740533849525 : True:=⟨⟩
theorem te12490758220742952437 : True:=⟨⟩
theorem te18318589584071479797 : True:=⟨⟩
theorem te5046025127194646005 : True:=⟨⟩
theorem te15309907397850535541 : True:=⟨⟩
theorem te12882400598403598165 : True:=⟨⟩
theorem te7056601044969138037 : True:=⟨⟩
theorem te7973451826678870901 : True:=⟨⟩
theorem te17719212278408867701 : True:=⟨⟩
theorem te16231765485273965461 : True:=⟨⟩
theorem te996836020511604629 : True:=⟨⟩
theorem te3405672220990867413 : True:=⟨⟩
theorem te9431531542700768310 : True:=⟨⟩
theorem te15961838031931325814 : True:=⟨⟩
theorem te4571496967636836726 : True:=⟨⟩
theorem te838985637793235414 : True:=⟨⟩
theorem te765985437093263926 : True:=⟨⟩
theorem te12958786946148316726 : True:=⟨⟩
theorem te2981451289100872278 : True:=⟨⟩
theorem te1231113492386880118 : True:=⟨⟩
theorem te3965643278517145238 : True:=⟨⟩
theorem te10290680017012029302 : True:=⟨⟩
theorem te3168596549256301558 : True:=⟨⟩
theorem te17606535123933227063 : True:=⟨⟩
theorem te12327341332044072023 : True:=⟨⟩
theorem te8809102623449744599 : True:=⟨⟩
theorem te7132887368070524215 : True:=⟨⟩
theorem te5537464945316325783 : True:=⟨⟩
theorem te15583558875637478967 : True:=⟨⟩
theorem te5558840069447190103 : True:=⟨⟩
theorem te6914400154819147351 : True:=⟨⟩
theorem te5870769186519171767 : True:=⟨⟩
theorem te7171666279863371479 : True:=⟨⟩
theorem te1917459104281834231 : True:=⟨⟩
theorem te2195518728594556823 : True:=⟨⟩
theorem te8495255570686755735 : True:=⟨⟩
theorem te3794703840547432536 : True:=⟨⟩
theorem te2406367429837098232 : True:=⟨⟩
theorem te16686984705103490424 : True:=⟨⟩
theorem te3425426534629126520 : True:=⟨⟩
theorem te5376247669861126648 : True:=⟨⟩
theorem te12952578081749161496 : True:=⟨⟩
theorem te9794709318033868408 : True:=⟨⟩
theorem te9829012938763445016 : True:=⟨⟩
theorem te4209025316528299896 : True:=⟨⟩
theorem te9080526019599263608 : True:=⟨⟩
theorem te16226512094567733144 : True:=⟨⟩
theorem te17366358079903889336 : True:=⟨⟩
theorem te4254405299533646808 : True:=⟨⟩
theorem te306456550831685592 : True:=⟨⟩
theorem te3770963754705798136 : True:=⟨⟩
theorem te18032783855817077817 : True:=⟨⟩
theorem te6160560675174211801 : True:=⟨⟩
theorem te6545846083544556793 : True:=⟨⟩
theorem te5883200403006543161 : True:=⟨⟩
theorem te16430173797785209305 : True:=⟨⟩
theorem te5838653233088521721 : True:=⟨⟩
theorem te9792588655792798361 : True:=⟨⟩
def My.view_39 : PySem.Program:={ PySem.Challenge.pw_unlikeplace_k52_whole_fixed_never_more with main:={ PySem.Challenge.pw_unlikeplace_k52_whole_fixed_never_more.main with body:=[My.top 1,My.top 2,My.top 3,My.top 4,My.top 6,My.top 7,My.top 8,My.top 9,My.top 11,My.top 12,My.top 13,My.top 14,My.top 16,My.top 17,My.top 18,My.top 19,My.top 20,My.top 22,My.top 23,My.top 24,My.top 25,My.top 26,My.top 28,My.top 30,My.top 31,My.top 32,My.top 33,My.top 34,My.top 35,My.top 37,My.top 38,My.top 39,My.top 40,My.top 41,My.top 42,My.top 43,My.top 44,My.top 46,My.top 47,My.top 48,My.top 49,My.top 50,My.top 51,My.top 52,My.top 53,My.top 54,My.top 55,My.top 56,My.top 57,My.top 58,My.top 59] } }
def tw8539844248158316345 : PySem.Program:=My.view_39
theorem te8539844248158316345 : My.view_39 = tw8539844248158316345:=rfl
theorem te16438584486595044153 : True:=⟨⟩
theorem te15842331706772061017 : True:=⟨⟩
theorem te10647787216888021210 : True:=⟨⟩
theorem te7564243043025165562 : True:=⟨⟩
theorem te11140994220627712474 : True:=⟨⟩
theorem te12768021759618577978 : True:=⟨⟩
theorem te815571882541610586 : True:=⟨⟩
theorem te17727528999591302874 : True:=⟨⟩
theorem te14992758860093180730 : True:=⟨⟩
theorem te15658306195977532314 : True:=⟨⟩
theorem te13248635417136868571 : True:=⟨⟩
theorem te7698359888999729403 : True:=⟨⟩
theorem te2710763767918773691 : True:=⟨⟩
theorem te1948834657955487323 : True:=⟨⟩
theorem te14992956031872314971 : True:=⟨⟩
theorem te6419658732442577499 : True:=⟨⟩
theorem te143028344383750779 : True:=⟨⟩
theorem te10770151240242599547 : True:=⟨⟩
theorem te6587739393897379579 : True:=⟨⟩
theorem te11602792819562852187 : True:=⟨⟩
def My.sts_374 : List PySem.Stmt:=[My.top 54,My.top 55,My.top 56,My.top 57,My.top 58,My.top 59]
def tw16012861110180036571 : List PySem.Stmt:=My.sts_374
theorem te16012861110180036571 : My.sts_374 = tw16012861110180036571:=rfl
theorem te12884650961024778364 : True:=⟨⟩
theorem te3751595297005208796 : True:=⟨⟩
theorem te2168448043871452508 : True:=⟨⟩
theorem te4747569739819477340 : True:=⟨⟩
theorem te3354036984562328060 : True:=⟨⟩
theorem te7242820393955410428 : True:=⟨⟩
theorem te5620323902043504188 : True:=⟨⟩
theorem te15011992038035073724 : True:=⟨⟩
theorem te18003981260848083676 : True:=⟨⟩
theorem te16565048738351443868 : True:=⟨⟩
theorem te7983695183769371644 : True:=⟨⟩
theorem te5602036598795371613 : True:=⟨⟩
theorem te15885707040076546269 : True:=⟨⟩
theorem te16685310558701980381 : True:=⟨⟩
theorem te3435672778329871261 : True:=⟨⟩
theorem te10608331185094245309 : True:=⟨⟩
theorem te2675052471796325470 : True:=⟨⟩
theorem te16990620092047291646 : True:=⟨⟩
theorem te13932793138063575390 : True:=⟨⟩
theorem te8882117037154629342 : True:=⟨⟩
theorem te17832183474948430814 : True:=⟨⟩
theorem te3249103235367504894 : True:=⟨⟩
theorem te12235275121396000831 : True:=⟨⟩
theorem te14254780995756116063 : True:=⟨⟩
theorem te9087498384908509343 : True:=⟨⟩
theorem te5136950532315489535 : True:=⟨⟩
theorem te9611494971964289695 : True:=⟨⟩
theorem te4780745402752900799 : True:=⟨⟩
theorem te13839365314582315711 : True:=⟨⟩
theorem te2031909633773972191 : True:=⟨⟩
theorem te12615872109829654367 : True:=⟨⟩
theorem te7731805990869632959 : True:=⟨⟩
theorem te5327063060178160607 : True:=⟨⟩
theorem te13430845786783660031 : True:=⟨⟩
end PySem.W.Fast
open PySem PySem.W PyProof.Rows
set_option maxRecDepth 100000 in
set_option maxHeartbeats 0 in
theorem PySem.Challenge.cw_unlikeplace_k52_whole_fixed_never_more_holds : PySem.Challenge.rw_unlikeplace_k52_whole_fixed_never_more.Holds := by
  w_on;o_law
  o_head (PySem.W.kmHook My.KK [nat_lit 2,nat_lit 3,nat_lit 15,nat_lit 22,nat_lit 23,nat_lit 24,nat_lit 25,nat_lit 28,nat_lit 35,nat_lit 36,nat_lit 37,nat_lit 40,nat_lit 47,nat_lit 48,nat_lit 49,nat_lit 52,nat_lit 59,nat_lit 60,nat_lit 61,nat_lit 64,nat_lit 66,nat_lit 67,nat_lit 69,nat_lit 70,nat_lit 71,nat_lit 73,nat_lit 74,nat_lit 76,nat_lit 77,nat_lit 78,nat_lit 80,nat_lit 81,nat_lit 83,nat_lit 84,nat_lit 85,nat_lit 88,nat_lit 89,nat_lit 90,nat_lit 93,nat_lit 94,nat_lit 95,nat_lit 97,nat_lit 98,nat_lit 100,nat_lit 101,nat_lit 102,nat_lit 104,nat_lit 105,nat_lit 107,nat_lit 108,nat_lit 109,nat_lit 111,nat_lit 112,nat_lit 114,nat_lit 115,nat_lit 116,nat_lit 119,nat_lit 120,nat_lit 121,nat_lit 123,nat_lit 124,nat_lit 126,nat_lit 127,nat_lit 128,nat_lit 130,nat_lit 131,nat_lit 133,nat_lit 134,nat_lit 135,nat_lit 137,nat_lit 138,nat_lit 140,nat_lit 141,nat_lit 142,nat_lit 144,nat_lit 145,nat_lit 147,nat_lit 148,nat_lit 149,nat_lit 151,nat_lit 152,nat_lit 154,nat_lit 155,nat_lit 156,nat_lit 158,nat_lit 159,nat_lit 161,nat_lit 162,nat_lit 163,nat_lit 165,nat_lit 166,nat_lit 168,nat_lit 169,nat_lit 170,nat_lit 172,nat_lit 173,nat_lit 175,nat_lit 176,nat_lit 177,nat_lit 179,nat_lit 180,nat_lit 182,nat_lit 183,nat_lit 184,nat_lit 187,nat_lit 188,nat_lit 189,nat_lit 191,nat_lit 192,nat_lit 194,nat_lit 195,nat_lit 196,nat_lit 198,nat_lit 199,nat_lit 201,nat_lit 202,nat_lit 203,nat_lit 205,nat_lit 206,nat_lit 208,nat_lit 209,nat_lit 210,nat_lit 212,nat_lit 213,nat_lit 215,nat_lit 216,nat_lit 217,nat_lit 219,nat_lit 220,nat_lit 222,nat_lit 223,nat_lit 224,nat_lit 226,nat_lit 227,nat_lit 229,nat_lit 230,nat_lit 231,nat_lit 232,nat_lit 234,nat_lit 235,nat_lit 237,nat_lit 238,nat_lit 239,nat_lit 242,nat_lit 243,nat_lit 244,nat_lit 246,nat_lit 247,nat_lit 249,nat_lit 250,nat_lit 251,nat_lit 254,nat_lit 255,nat_lit 256,nat_lit 259,nat_lit 260,nat_lit 261,nat_lit 264,nat_lit 265,nat_lit 266,nat_lit 269,nat_lit 270,nat_lit 271,nat_lit 273,nat_lit 274,nat_lit 276,nat_lit 277,nat_lit 278,nat_lit 280,nat_lit 281,nat_lit 283,nat_lit 284,nat_lit 285,nat_lit 288,nat_lit 289,nat_lit 290,nat_lit 292,nat_lit 293,nat_lit 295,nat_lit 296,nat_lit 297,nat_lit 299,nat_lit 300,nat_lit 302,nat_lit 303,nat_lit 304,nat_lit 307,nat_lit 308,nat_lit 309,nat_lit 311,nat_lit 312,nat_lit 314,nat_lit 315,nat_lit 316,nat_lit 319,nat_lit 320,nat_lit 321,nat_lit 323,nat_lit 324,nat_lit 326,nat_lit 327,nat_lit 328,nat_lit 330,nat_lit 331,nat_lit 333,nat_lit 334,nat_lit 335,nat_lit 337,nat_lit 338,nat_lit 340,nat_lit 341,nat_lit 342,nat_lit 344,nat_lit 345,nat_lit 347,nat_lit 348,nat_lit 349,nat_lit 351,nat_lit 352,nat_lit 354,nat_lit 355,nat_lit 356,nat_lit 359,nat_lit 360] (fun _=>by kernel_rfl) [79,103,150,233])
  (case hw=>w_witness2)
  k_fill
  refine L2.Eg (l:=PySem.Challenge.rw_unlikeplace_k52_whole_fixed_never_more) (n:=63) (k:=40) (x:="_law_script") (CX:=L2.CX0) (sp:=My.wx) rfl (by decide) rfl ⟨rfl,by decide,by decide,rfl⟩ (fun w h Y=>by first | exact PySem.W.kIn_of Y | exact PySem.W.km_in_of Y) (fun w=>by kernel_rfl) ?F ?S ?C
  case F =>
    intro w mg fa h KX G hmg
    have T : ∃ t,t.wo = w/\My.Txt (L2.KOf KX) mg t:=by
      dsimp only [L2.KOf]
      refine' My.HS w KX G ?qR ?rY ?rB ?nl ?rA ?qT ?qU ?nH ?kG ?gy ?eB ?gA ?gX ?gM ?gT ?fq ?hV ?h8 ?gU ?fz ?jr ?i7 ?iO ?fQ ?iY ?fT ?dz ?fU ?g8 ?ib ?gO ?ft ?pc ?oX ?oP ?lg ?oB ?oT ?pk ?lp ?kj ?kb ?kB ?gG ?g9 ?hZ ?gP ?fw ?Ed ?EV ?EG ?Ag ?vA ?qk ?lb ?qB ?zx ?yQ ?zd ?va ?qZ ?rZ ?sL ?nG ?qW ?qL ?sC ?n8 ?wt ?wg ?vB ?qr ?mM ?mT ?mG ?ju ?sP ?sE ?rT ?nY ?kA ?kC ?kF ?gF ?gQ ?ia ?ic ?fu ?jg ?jd ?ji ?fW ?uX ?u7 ?vH ?qG ?pj ?oo ?ou ?lc ?o7 ?kS ?ga ?kW ?mJ ?mo ?mF ?jm ?ml ?mr ?mQ ?i8 ?jh ?iQ ?iT ?fS ?oJ ?pw ?oH ?k9 ?oV ?oQ ?pA ?lA ?jT ?jU ?kD ?gI ?sk ?qJ ?sj ?ng ?wf ?uO ?wj ?qo ?oO ?pD ?oG ?lv ?mO ?mC ?mi ?i3 ?mH ?mq ?mI ?jk ?ka ?jX ?ki ?gC ?oD ?o0 ?oK ?lF ?ph ?pz ?oy ?k6 ?mx ?mK ?mE ?jC ?fN ?fM ?fL ?dW ?kL ?jR ?km ?gE ?pe ?on ?pd ?lm ?rf ?rh ?sO ?om ?DS ?Fc ?Ez ?Bf ?gg ?gn ?jQ ?pO ?pN ?kf ?kI ?jE ?nN ?nX ?iR ?jj ?vJ ?A7 ?A1 ?vF ?vp ?pF ?um ?tW ?oF ?pi ?rG ?mh ?sr ?iC ?cZ ?DV ?CJ ?Eb ?Ek ?Dp ?vh ?mD ?ww ?DI
      (case qR=>k_is)
      (case rY=>k_is)
      (case rB=>k_is)
      (case nl=>k_is)
      (case rA=>k_is)
      (case qT=>k_is)
      (case qU=>k_is)
      (case nH=>k_is)
      (case kG=>k_is)
      (case gy=>k_is)
      (case eB=>k_is)
      (case gA=>k_is)
      (case gX=>k_is)
      (case gM=>k_is)
      (case gT=>k_is)
      (case fq=>k_is)
      (case hV=>k_is)
      (case h8=>k_is)
      (case gU=>k_is)
      (case fz=>k_is)
      (case jr=>k_is)
      (case i7=>k_is)
      (case iO=>k_is)
      (case fQ=>k_is)
      (case iY=>k_is)
      (case fT=>k_is)
      (case dz=>k_is)
      (case fU=>k_is)
      (case g8=>k_is)
      (case ib=>k_is)
      (case gO=>k_is)
      (case ft=>k_is)
      (case pc=>k_is)
      (case oX=>k_is)
      (case oP=>k_is)
      (case lg=>k_is)
      (case oB=>k_is)
      (case oT=>k_is)
      (case pk=>k_is)
      (case lp=>k_is)
      (case kj=>k_is)
      (case kb=>k_is)
      (case kB=>k_is)
      (case gG=>k_is)
      (case g9=>k_is)
      (case hZ=>k_is)
      (case gP=>k_is)
      (case fw=>k_is)
      (case Ed=>k_is)
      (case EV=>k_is)
      (case EG=>k_is)
      (case Ag=>k_is)
      (case vA=>k_is)
      (case qk=>k_is)
      (case lb=>k_is)
      (case qB=>k_is)
      (case zx=>k_is)
      (case yQ=>k_is)
      (case zd=>k_is)
      (case va=>k_is)
      (case qZ=>k_is)
      (case rZ=>k_is)
      (case sL=>k_is)
      (case nG=>k_is)
      (case qW=>k_is)
      (case qL=>k_is)
      (case sC=>k_is)
      (case n8=>k_is)
      (case wt=>k_is)
      (case wg=>k_is)
      (case vB=>k_is)
      (case qr=>k_is)
      (case mM=>k_is)
      (case mT=>k_is)
      (case mG=>k_is)
      (case ju=>k_is)
      (case sP=>k_is)
      (case sE=>k_is)
      (case rT=>k_is)
      (case nY=>k_is)
      (case kA=>k_is)
      (case kC=>k_is)
      (case kF=>k_is)
      (case gF=>k_is)
      (case gQ=>k_is)
      (case ia=>k_is)
      (case ic=>k_is)
      (case fu=>k_is)
      (case jg=>k_is)
      (case jd=>k_is)
      (case ji=>k_is)
      (case fW=>k_is)
      (case uX=>k_is)
      (case u7=>k_is)
      (case vH=>k_is)
      (case qG=>k_is)
      (case pj=>k_is)
      (case oo=>k_is)
      (case ou=>k_is)
      (case lc=>k_is)
      (case o7=>k_is)
      (case kS=>k_is)
      (case ga=>k_is)
      (case kW=>k_is)
      (case mJ=>k_is)
      (case mo=>k_is)
      (case mF=>k_is)
      (case jm=>k_is)
      (case ml=>k_is)
      (case mr=>k_is)
      (case mQ=>k_is)
      (case i8=>k_is)
      (case jh=>k_is)
      (case iQ=>k_is)
      (case iT=>k_is)
      (case fS=>k_is)
      (case oJ=>k_is)
      (case pw=>k_is)
      (case oH=>k_is)
      (case k9=>k_is)
      (case oV=>k_is)
      (case oQ=>k_is)
      (case pA=>k_is)
      (case lA=>k_is)
      (case jT=>k_is)
      (case jU=>k_is)
      (case kD=>k_is)
      (case gI=>k_is)
      (case sk=>k_is)
      (case qJ=>k_is)
      (case sj=>k_is)
      (case ng=>k_is)
      (case wf=>k_is)
      (case uO=>k_is)
      (case wj=>k_is)
      (case qo=>k_is)
      (case oO=>k_is)
      (case pD=>k_is)
      (case oG=>k_is)
      (case lv=>k_is)
      (case mO=>k_is)
      (case mC=>k_is)
      (case mi=>k_is)
      (case i3=>k_is)
      (case mH=>k_is)
      (case mq=>k_is)
      (case mI=>k_is)
      (case jk=>k_is)
      (case ka=>k_is)
      (case jX=>k_is)
      (case ki=>k_is)
      (case gC=>k_is)
      (case oD=>k_is)
      (case o0=>k_is)
      (case oK=>k_is)
      (case lF=>k_is)
      (case ph=>k_is)
      (case pz=>k_is)
      (case oy=>k_is)
      (case k6=>k_is)
      (case mx=>k_is)
      (case mK=>k_is)
      (case mE=>k_is)
      (case jC=>k_is)
      (case fN=>k_is)
      (case fM=>k_is)
      (case fL=>k_is)
      (case dW=>k_is)
      (case kL=>k_is)
      (case jR=>k_is)
      (case km=>k_is)
      (case gE=>k_is)
      (case pe=>k_is)
      (case on=>k_is)
      (case pd=>k_is)
      (case lm=>k_is)
      (case rf=>k_is)
      (case rh=>k_is)
      (case sO=>k_is)
      (case om=>k_is)
      (case DS=>k_is)
      (case Fc=>k_is)
      (case Ez=>k_is)
      (case Bf=>k_is)
      (case gg=>k_is)
      (case gn=>k_is)
      (case jQ=>rfl)
      (case pO=>k_is)
      (case pN=>rfl)
      (case kf=>kernel_rfl)
      (case kI=>kernel_rfl)
      (case jE=>rfl)
      (case nN=>k_is)
      (case nX=>rfl)
      (case iR=>kernel_rfl)
      (case jj=>kernel_rfl)
      (case vJ=>rfl)
      (case A7=>k_is)
      (case A1=>rfl)
      (case vF=>kernel_rfl)
      (case vp=>kernel_rfl)
      (case pF=>rfl)
      (case um=>k_is)
      (case tW=>rfl)
      (case oF=>kernel_rfl)
      (case pi=>kernel_rfl)
      (case rG=>k_is)
      (case mh=>k_is)
      (case sr=>k_is)
      (case iC=>kernel_rfl)
      (case cZ=>kernel_rfl)
      (case DV=>k_is)
      (case CJ=>k_is)
      (case Eb=>k_is)
      (case Ek=>k_is)
      (case Dp=>k_is)
      (case vh=>k_is)
      (case mD=>k_is)
      (case ww=>k_is)
      (case DI=>k_is)
    obtain ⟨t,hw,T⟩:=T
    have e0:=hmg.symm.trans T.JE
    cases e0
    exact ⟨_,T.HH,fun base=>My.Gb hw T⟩
  case S=>exact fun K H a ns hl hO hS=>My.BH hl hO hS
  case C=>exact fun _ _ _ _ h=>h
