import PyProof.Rows.All
import Wide.All
import OpenK.AllK
import Wide.FinOn
import Lean
import PyProof.EqAt
import PyProof.EqKinds
import PyProof.TupleCall
import PyProof.NeKinds
import PyProof.AutoIntG2
import PyProof.FactsAll.int_6
import PyProof.Rows.BootFacts.P1
import PyProof.ReprRoads
import PyProof.ListRange
import PyProof.TupleOfSeq
import PyProof.EnumMake
import PyProof.StrWalks
import PyProof.Rows.Range3
import PyProof.Rows.SetFrom
import KE.KIntText
import PyProof.FString
import PyProof.StrCalls2
import PyProof.StrOps2
import PyProof.SliceStr2
import PyProof.StrBlockI
import PyProof.StrBlockL
import PyProof.StrLaws
import OpenK.KOwn
import KE.KTryMore
import PyProof.ExcAttrAll.ValueError
import PyProof.NsDelKeeps
import PyProof.Rows.StrLen
import KE.KRevIter
import PySem.Challenge.RW_unlikeplace_k22_sayings_of_talks
noncomputable section
set_option Elab.async false
set_option linter.all false
set_option maxRecDepth 100000
namespace L2
open PySem PySem.Spec PyProof.Rows
abbrev Key:=Sum Int Str
def keyIs : Key→Value→Bool
  | .inl k,v=>Value.isInt k v
  | .inr x,v=>Value.isStrOf x v
def keyH (w : World) : Key→Int
  | .inl k=>hashInt k
  | .inr x=>hashStr w x
theorem keyIs_shape : ∀ {k : Key} {v : Value},keyIs k v = true→(∃ i t,k = Sum.inl i∧v = Value.int i t)∨(∃ x t,k = Sum.inr x∧v = Value.str x t)
  | .inl i,v,h=>by
    obtain ⟨t,e⟩:=Value.isInt_shape (k:=i) (v:=v) h
    exact .inl ⟨i,t,rfl,e⟩
  | .inr x,v,h=>by
    obtain ⟨t,e⟩:=Value.isStrOf_shape (x:=x) (v:=v) h
    exact .inr ⟨x,t,rfl,e⟩
theorem keyIs_int (i : Int) (t : Tok) : keyIs (.inl i) (.int i t) = true:=by simp [keyIs,Value.isInt]
theorem keyIs_str (x : Str) (t : Tok) : keyIs (.inr x) (.str x t) = true:=by simp [keyIs,Value.isStrOf]
theorem key_ll (a b : Int) : decide ((Sum.inl a : Key) = Sum.inl b) = (a == b):=by
  by_cases e : a = b
  · subst e;simp
  · have h : ¬ (Sum.inl a : Key) = Sum.inl b:=fun q=>e (Sum.inl.inj q)
    rw [decide_eq_false h]
    exact (beq_eq_false_iff_ne.mpr e).symm
theorem key_rr (a b : Str) : decide ((Sum.inr a : Key) = Sum.inr b) = decide (a = b):=by
  by_cases e : a = b
  · subst e;simp
  · have h : ¬ (Sum.inr a : Key) = Sum.inr b:=fun q=>e (Sum.inr.inj q)
    rw [decide_eq_false h,decide_eq_false e]
theorem key_lr (a : Int) (b : Str) : decide ((Sum.inl a : Key) = Sum.inr b) = false:=decide_eq_false (fun q=>nomatch q)
theorem key_rl (a : Str) (b : Int) : decide ((Sum.inr a : Key) = Sum.inl b) = false:=decide_eq_false (fun q=>nomatch q)
def mixKind (prog : Program) (w : World) : PySem.KeyKind prog w Key where
  is:=keyIs
  hash:=keyH w
  inj:=fun v a b ha hb=>by
    rcases keyIs_shape ha with ⟨i,t,rfl,rfl⟩ | ⟨x,t,rfl,rfl⟩
    · rcases keyIs_shape hb with ⟨j,u,rfl,e⟩ | ⟨y,u,rfl,e⟩
      · injection e with e1 _;rw [e1]
      · exact nomatch e
    · rcases keyIs_shape hb with ⟨j,u,rfl,e⟩ | ⟨y,u,rfl,e⟩
      · exact nomatch e
      · injection e with e1 _;rw [e1]
  byValue:=fun k v h=>by
    rcases keyIs_shape h with ⟨i,t,rfl,rfl⟩ | ⟨x,t,rfl,rfl⟩<;>rfl
  pyHash:=fun hv h=>by
    rcases keyIs_shape hv with ⟨i,t,rfl,rfl⟩ | ⟨x,t,rfl,rfl⟩
    · exact wpAny_pyHash_int h
    · exact wpAny_pyHash_str h
  eqBool:=fun hu hv h=>by
    rcases keyIs_shape hu with ⟨i,t,rfl,rfl⟩ | ⟨x,t,rfl,rfl⟩
    · rcases keyIs_shape hv with ⟨j,u,rfl,rfl⟩ | ⟨y,u,rfl,rfl⟩
      · rw [key_ll] at h;exact wpAny_eqBool_int h
      · rw [key_lr] at h;exact SeqAt.EqAt.int_str i t y u _ _ _ _ h
    · rcases keyIs_shape hv with ⟨j,u,rfl,rfl⟩ | ⟨y,u,rfl,rfl⟩
      · rw [key_rl] at h;exact SeqAt.EqAt.str_int x t j u _ _ _ _ h
      · rw [key_rr] at h;exact wpAny_eqBool_str h
  «strs»:=fun k x t v h=>by
    rcases keyIs_shape h with ⟨i,u,rfl,e⟩ | ⟨y,u,rfl,e⟩
    · exact nomatch e
    · injection e with e1 _
      subst e1
      cases v<;>rfl
theorem mixKind_is (prog : Program) (w : World) (k : Key) (v : Value) : (mixKind prog w).is k v = keyIs k v:=rfl
theorem mixKind_int (prog : Program) (w : World) (i : Int) (t : Tok) : (mixKind prog w).is (.inl i) (.int i t) = true:=keyIs_int i t
theorem mixKind_str (prog : Program) (w : World) (x : Str) (t : Tok) : (mixKind prog w).is (.inr x) (.str x t) = true:=keyIs_str x t
inductive V where
  | non | bl (b : Bool) | int (i : Int) | str (x : Str) | byt (b : Array UInt8) | flt (b : UInt64) | ref (a : Addr) | ty (n : String)
  deriving DecidableEq
def RelV : V→Value→Prop
  | .non,u=>u = Value.none
  | .bl b,u=>u = Value.bool b
  | .int i,u=>∃ t,u = Value.int i t
  | .str x,u=>∃ t,u = Value.str x t
  | .byt b,u=>∃ t,u = Value.bytes b t
  | .flt b,u=>∃ t,u = Value.float b t
  | .ref a,u=>u = Value.ref a
  | .ty n,u=>u = Value.type n
abbrev Vals : List V→List Value→Prop:=Paired RelV
theorem Vals.length {xs : List V} {us : List Value} (r : Vals xs us) : xs.length = us.length:=Paired.length r
theorem Vals.get : ∀ {xs : List V} {us : List Value} {i : Nat} {x : V},Vals xs us→xs[i]? = some x→∃ u,us[i]? = some u∧RelV x u
  | _,_,_,_,.nil,e=>by simp at e
  | _,_,0,_,.cons r _,e=>by simp at e;subst e;exact ⟨_,rfl,r⟩
  | _,_,i + 1,x,.cons _ t,e=>by
    obtain ⟨u,h1,h2⟩:=Vals.get (i:=i) (x:=x) t (by simpa using e)
    exact ⟨u,by simpa using h1,h2⟩
theorem Vals.set {x : V} {u : Value} (r : RelV x u) : ∀ {xs : List V} {us : List Value} (i : Nat),Vals xs us→Vals (xs.set i x) (us.set i u)
  | _,_,_,.nil=>.nil
  | _,_,0,.cons _ t=>.cons r t
  | _,_,i + 1,.cons q t=>.cons q (Vals.set r i t)
theorem Vals.append : ∀ {xs ys : List V} {us ws : List Value},Vals xs us→Vals ys ws→Vals (xs ++ ys) (us ++ ws)
  | _,_,_,_,.nil,s=>s
  | _,_,_,_,.cons r t,s=>.cons r (Vals.append t s)
theorem Vals.take : ∀ {xs : List V} {us : List Value} (n : Nat),Vals xs us→Vals (xs.take n) (us.take n)
  | _,_,0,_=>.nil
  | _,_,_ + 1,.nil=>.nil
  | _,_,n + 1,.cons r t=>.cons r (Vals.take n t)
theorem Vals.drop : ∀ {xs : List V} {us : List Value} (n : Nat),Vals xs us→Vals (xs.drop n) (us.drop n)
  | _,_,0,r=>r
  | _,_,_ + 1,.nil=>.nil
  | _,_,n + 1,.cons _ t=>Vals.drop n t
def RelO : Option V→Option Value→Prop
  | some v,some u=>RelV v u
  | none,none=>True
  | _,_=>False
def KV {κ : Type} : List (κ × V)→List (κ × Value)→Prop:=Paired fun (p : κ × V) (q : κ × Value)=>p.1 = q.1∧RelV p.2 q.2
def kV : Key→V
  | .inl i=>.int i
  | .inr x=>.str x
inductive HO where
  | lst (xs : List V)
  | tup (xs : List V)
  | dK (kvs : List (Key × V)) | dT (kvs : List (List Key × V))
  | set (S : Int→Bool) (n : Nat)
  | ins (C dx : Addr) (fs : List (Str × V))
  | own (x : Addr)
  | xd (fs : List (Str × V))
  | met (f x : Addr)
  | rng (lo hi : Int)
  | frz (o : Obj) (u : HO)
  | tbl (ps : Array Value)
  | ext (φ : Heap→Prop)
abbrev Hp:=Addr→Option HO
def upd (H : Hp) (a : Addr) (o : HO) : Hp:=fun b=>if b = a then some o else H b
theorem upd_same {H : Hp} {a : Addr} {o : HO} : upd H a o a = some o:=by unfold upd;rw [if_pos rfl]
theorem upd_ne {H : Hp} {a b : Addr} {o : HO} (h : b≠a) : upd H a o b = H b:=by unfold upd;rw [if_neg h]
theorem upd_upd {H : Hp} {a : Addr} {o u : HO} : upd (upd H a o) a u = upd H a u:=by
  funext b;unfold upd;split<;>rfl
theorem ne_of_none {H : Hp} {a b : Addr} {o : HO} (h : H a = some o) (h' : H b = none) : a≠b:=by
  intro e;subst e;rw [h] at h';cases h'
def TupD (h : Heap) (a : Addr) (items : Array Value) : Prop:=IsTup h a items∧∃ o,h.get? a = some o∧o.dict = none
theorem TupD.lt {h : Heap} {a : Addr} {items : Array Value} (x : TupD h a items) : a < h.objs.size:=x.1.lt
theorem TupD.new (h : Heap) (items : Array Value) : TupD (h.push { cls:=.type "tuple",data:=.seq items }) h.objs.size items:=⟨IsTup.new h items,_,Heap.get?_push_size _ rfl,rfl⟩
def TblOk (H : Hp) (a : Addr) (ps qs : Array Value) : Prop:=TriplesOk qs.toList∧∀ (pos : Pos) (cv : Value),codeAmong pos qs.toList = some cv →
  ∃ (c : Addr) (o : Obj) (vs : Array Value) (t : Tok) (q : Str),cv = .ref c∧H c = some (.frz o (.own a))∧o.data = .fields vs∧vs[1]? = some (.str q t)∧ps[0]? = some (.str q 0)
theorem TblOk.mono {H H' : Hp} {a : Addr} {ps qs : Array Value} (x : TblOk H a ps qs) (k : ∀ b o u,H b = some (.frz o u)→H' b = some (.frz o u)) : TblOk H' a ps qs :=
  ⟨x.1,fun pos cv e=>let ⟨c,o,vs,t,q,e1,e2,r⟩:=x.2 pos cv e;⟨c,o,vs,t,q,e1,k _ _ _ e2,r⟩⟩
section
variable (P : Program) (w : World)
def ObjOk (H : Hp) (h : Heap) (a : Addr) : HO→Prop
  | .lst xs=>xs.length≤sizeLine∧∃ (its : List Value) (n : Nat),Vals xs its∧h.get? a = some { cls:=.type "list",data:=.seq its.toArray n }
  | .tup xs=>xs.length≤sizeLine∧∃ its : List Value,Vals xs its∧TupD h a its.toArray
  | .dK kvs=>kvs.length≤sizeLine∧(a == sysModules) = false∧∃ vs,KV kvs vs∧h.DictOf (mixKind P w) a vs
  | .dT kvs=>kvs.length≤sizeLine∧(a == sysModules) = false∧∃ xs : List (List Key × Addr × Value),
      Paired (fun (p : List Key × V) (q : List Key × Addr × Value)=>p.1 = q.1∧H q.2.1 = some (.tup (p.1.map kV))∧RelV p.2 q.2.2) kvs xs ∧
      ∃ o es ep,h.get? a = some o∧o.ExactDict∧o.data = .dict es ep∧es.toList = xs.map (entryOfKey (tupleKind (mixKind P w)))∧(xs.map (·.1)).Nodup
  | .set S n=>h.SetOf (intKind P w) a S n
  | .ins C dx fs=>H dx = some (.own a)∧fs.length≤1000∧dx≠a∧h.get? a = some (PySem.W.instObj C dx) ∧
      ∃ mA,h.Ns1 dx mA∧(∀ f,RelO (fs.lookup f) (mA f))∧PySem.Within mA (fs.map (·.1))
  | .own _=>∃ o,h.get? a = some o
  | .xd fs=>∃ mA,h.Ns1 a mA∧∀ f,RelO (fs.lookup f) (mA f)
  | .rng lo hi=>∃ t u v,h.get? a = some { cls:=.type "range",data:=.fields #[.int lo t,.int hi u,.int 1 v] }
  | .frz o u=>h.get? a = some o∧ObjOk H h a u
  | .tbl ps=>∃ qs : Array Value,h.get? a = some { cls:=.none,data:=.fields qs }∧TblOk H a ps qs
  | .met f x=>h.get? a = some (PySem.W.methodObj (.ref f) (.ref x))
  | .ext φ=>φ h∧(∃ o,h.get? a = some o)∧∀ h1 h2 : Heap,φ h1→(∀ o,h1.get? a = some o→h2.get? a = some o)→φ h2
def HOk (H : Hp) (h : Heap) : Prop:=∀ a o,H a = some o→ObjOk P w H h a o
end
section
variable {P : Program} {w : World} {H H' : Hp} {h h' : Heap} {a : Addr} {o : HO}
theorem ObjOk.lt (x : ObjOk P w H h a o) : a < h.objs.size:=by
  cases o with
  | lst xs=>obtain ⟨_,_,_,_,e⟩:=x;exact Heap.lt_size e
  | tup xs=>obtain ⟨_,_,_,p⟩:=x;exact p.lt
  | dK kvs=>obtain ⟨_,_,_,_,o,_,_,e,_⟩:=x;exact Heap.lt_size e
  | dT kvs=>obtain ⟨_,_,_,_,o,_,_,e,_⟩:=x;exact Heap.lt_size e
  | set S n=>obtain ⟨o,_,_,_,e,_⟩:=x;exact Heap.lt_size e
  | ins C dx fs=>obtain ⟨_,_,_,e,_⟩:=x;exact Heap.lt_size e
  | own y=>obtain ⟨_,e⟩:=x;exact Heap.lt_size e
  | xd fs=>obtain ⟨_,⟨_,_,_,e,_⟩,_⟩:=x;exact Heap.lt_size e
  | rng lo hi=>obtain ⟨_,_,_,e⟩:=x;exact Heap.lt_size e
  | frz ob u=>obtain ⟨e,_⟩:=x;exact Heap.lt_size e
  | tbl ps=>obtain ⟨qs,e,_⟩:=x;exact Heap.lt_size e
  | met f y=>exact Heap.lt_size (show h.get? a = some _ from x)
  | ext φ=>obtain ⟨_,⟨_,e⟩,_⟩:=x;exact Heap.lt_size e
theorem Paired.mapP {α β : Type} {F G : α→β→Prop} : ∀ {l₁ : List α} {l₂ : List β},Paired F l₁ l₂→(∀ a b,F a b→G a b)→Paired G l₁ l₂
  | _,_,.nil,_=>.nil
  | _,_,.cons r t,f=>.cons (f _ _ r) (Paired.mapP t f)
theorem ObjOk.stay (x : ObjOk P w H h a o) (k : ∀ b u,(b = a∨H b = some (.own a))→h.get? b = some u→h'.get? b = some u)
    (ho : ∀ b,H b = some (.own a)→H' b = some (.own a)) (ht : ∀ b xs,H b = some (.tup xs)→H' b = some (.tup xs)) (hf : ∀ b o u,H b = some (.frz o u)→H' b = some (.frz o u)) : ObjOk P w H' h' a o:=by
  induction o with
  | lst xs=>obtain ⟨z,its,n,r,e⟩:=x;exact ⟨z,its,n,r,k _ _ (.inl rfl) e⟩
  | tup xs=>obtain ⟨z,its,r,⟨ob,e,c⟩,ob',e',c'⟩:=x;exact ⟨z,its,r,⟨ob,k _ _ (.inl rfl) e,c⟩,ob',k _ _ (.inl rfl) e',c'⟩
  | dK kvs=>obtain ⟨z,y,vs,r,ob,es,ep,e,c⟩:=x;exact ⟨z,y,vs,r,ob,es,ep,k _ _ (.inl rfl) e,c⟩
  | dT kvs =>
    obtain ⟨z,y,xs,r,ob,es,ep,e,c⟩:=x
    exact ⟨z,y,xs,Paired.mapP r fun p q z=>⟨z.1,ht _ _ z.2.1,z.2.2⟩,ob,es,ep,k _ _ (.inl rfl) e,c⟩
  | set S n=>obtain ⟨ob,es,ep,t,e,c⟩:=x;exact ⟨ob,es,ep,t,k _ _ (.inl rfl) e,c⟩
  | ins C dx fs =>
    obtain ⟨d,z,ne,e,mA,⟨od,es,ep,e2,c⟩,r⟩:=x
    exact ⟨ho _ d,z,ne,k _ _ (.inl rfl) e,mA,⟨od,es,ep,k _ _ (.inr d) e2,c⟩,r⟩
  | own y=>obtain ⟨ob,e⟩:=x;exact ⟨ob,k _ _ (.inl rfl) e⟩
  | xd fs=>obtain ⟨mA,⟨od,es,ep,e,c⟩,r⟩:=x;exact ⟨mA,⟨od,es,ep,k _ _ (.inl rfl) e,c⟩,r⟩
  | rng lo hi=>obtain ⟨t,u,v,e⟩:=x;exact ⟨t,u,v,k _ _ (.inl rfl) e⟩
  | frz ob u ih=>obtain ⟨e,q⟩:=x;exact ⟨k _ _ (.inl rfl) e,ih q⟩
  | tbl ps=>obtain ⟨qs,e,z⟩:=x;exact ⟨qs,k a _ (.inl rfl) e,z.mono hf⟩
  | met f y =>
    have e : h.get? a = some (PySem.W.methodObj (.ref f) (.ref y)):=x
    show h'.get? a = some (PySem.W.methodObj (.ref f) (.ref y))
    exact k a _ (.inl rfl) e
  | ext φ=>obtain ⟨p,⟨o,e⟩,st⟩:=x;exact ⟨st _ _ p fun o q=>k _ _ (.inl rfl) q,⟨o,k _ _ (.inl rfl) e⟩,st⟩
theorem HOk.lt (x : HOk P w H h) (e : H a = some o) : a < h.objs.size:=(x a o e).lt
theorem HOk.fresh (x : HOk P w H h) (e : h.objs.size≤a) : H a = none:=by
  cases q : H a with
  | none=>rfl
  | some u=>exact absurd (Nat.lt_of_lt_of_le (x.lt q) e) (Nat.lt_irrefl _)
theorem HOk.kept (x : HOk P w H h) (k : ∀ b u,h.get? b = some u→h'.get? b = some u) : HOk P w H h':=fun a o e =>
  (x a o e).stay (fun b u _ q=>k b u q) (fun _ q=>q) (fun _ _ q=>q) fun _ _ _ q=>q
theorem HOk.laid (x : HOk P w H h) (k : ∀ b u,h.get? b = some u→h'.get? b = some u) (hp : h.objs.size≤a) (new : ObjOk P w (upd H a o) h' a o) : HOk P w (upd H a o) h':=fun b u e=>by
  have hn:=x.fresh hp
  by_cases hb : b = a
  · subst hb;rw [upd_same] at e;cases e;exact new
  · rw [upd_ne hb] at e
    exact (x b u e).stay (fun c v _ q=>k c v q) (fun c q=>by rw [upd_ne (ne_of_none q hn)];exact q) (fun c xs q=>by rw [upd_ne (ne_of_none q hn)];exact q) fun c o' u' q=>by rw [upd_ne (ne_of_none q hn)];exact q
end
def Rd (H : Hp) (a : Addr) (u : HO) : Prop:=H a = some u∨∃ o,H a = some (.frz o u)
theorem Rd.ok {P : Program} {w : World} {H : Hp} {h : Heap} {a : Addr} {u : HO} (r : Rd H a u) (x : HOk P w H h) : ObjOk P w H h a u:=by
  rcases r with r | ⟨o,r⟩
  · exact x a u r
  · obtain ⟨_,q⟩:=x a _ r
    exact q
def Mut : Option HO→Prop
  | some (.lst _)=>True
  | some (.dK _)=>True
  | some (.dT _)=>True
  | some (.set _ _)=>True
  | some (.ins _ _ _)=>True
  | some (.ext _)=>True
  | _=>False
section
variable {P : Program} {w : World} {H : Hp} {h h' : Heap} {x e : Addr} {o' : HO}
theorem HOk.write (ok : HOk P w H h) (mu : Mut (H x)) (he : e = x∨H e = some (.own x)) (k : ∀ b u,b≠e→h.get? b = some u→h'.get? b = some u) (heo : ∃ u,h'.get? e = some u)
    (new : ObjOk P w (upd H x o') h' x o') : HOk P w (upd H x o') h':=fun b u q=>by
  have nown : ∀ c y,H c = some (.own y)→c≠x:=fun c y r z=>by subst z;rw [r] at mu;exact mu
  have ntup : ∀ c xs,H c = some (.tup xs)→c≠x:=fun c xs r z=>by subst z;rw [r] at mu;exact mu
  by_cases hb : b = x
  · subst hb;rw [upd_same] at q;cases q;exact new
  · rw [upd_ne hb] at q
    by_cases hbe : b = e
    · have q' : H b = some (.own x):=by
        rcases he with z | z
        · exact absurd (hbe.trans z) hb
        · rw [hbe];exact z
      rw [q] at q';cases q'
      obtain ⟨v,hv⟩:=heo
      exact ⟨v,by rw [hbe];exact hv⟩
    · refine (ok b u q).stay (fun c v hc r=>k c v ?_ r) (fun c r=>by rw [upd_ne (nown c b r)];exact r) (fun c xs r=>by rw [upd_ne (ntup c xs r)];exact r) fun c o' u' r=>by rw [upd_ne (fun z=>by subst z;rw [r] at mu;exact mu)];exact r
      rcases hc with rfl | hc
      · exact hbe
      · rintro rfl
        rcases he with z | z
        · exact nown c b hc z
        · rw [hc] at z;cases z;exact hb rfl
end
structure Un (fs ex : List Addr) (H H' : Hp) (h h' : Heap) : Prop where
  keep : ∀ b o,h.get? b = some o→H b = none→b ∉ fs→b ∉ ex→h'.get? b = some o
  slot : ∀ b o,h.get? b = some o→H b = none→b∈fs→b ∉ ex→∃ sl,h'.get? b = some { o with slots:=sl }
  free : ∀ b o,h.get? b = some o→H b = none→b ∉ ex→H' b = none
  there : ∀ b o,h.get? b = some o→b ∉ ex→∃ o',h'.get? b = some o'
  tups : ∀ b xs,H b = some (.tup xs)→H' b = some (.tup xs)
  frzs : ∀ b o u,H b = some (.frz o u)→H' b = some (.frz o u)
  tbls : ∀ b ps,H b = some (.tbl ps)→∃ more,H' b = some (.tbl (ps ++ more))
section
variable {fs fs' ex ex' : List Addr} {H H1 H2 : Hp} {h h1 h2 h' : Heap} {a x e : Addr} {o : HO}
theorem Un.any (u : Un fs ex H H1 h h1) {b : Addr} {ob : Obj} (q : h.get? b = some ob) (n : H b = none) (hx : b ∉ ex) : ∃ sl,h1.get? b = some { ob with slots:=sl }:=by
  by_cases hb : b∈fs
  · exact u.slot b ob q n hb hx
  · exact ⟨ob.slots,u.keep b ob q n hb hx⟩
theorem Un.kept (k : ∀ b u,h.get? b = some u→h'.get? b = some u) : Un fs ex H H h h' :=
  ⟨fun b ob q _ _ _=>k b ob q,fun b ob q _ _ _=>⟨ob.slots,k b ob q⟩,fun _ _ _ n _=>n,fun b ob q _=>⟨ob,k b ob q⟩,fun _ _ q=>q,fun _ _ _ q=>q,fun _ ps q=>⟨#[],by rw [q];simp⟩⟩
theorem Un.refl : Un fs ex H H h h:=Un.kept fun _ _ q=>q
theorem Un.laid (k : ∀ b u,h.get? b = some u→h'.get? b = some u) (hp : h.objs.size≤a) (hn : H a = none) : Un fs ex H (upd H a o) h h' where
  keep:=fun b u q _ _ _=>k b u q
  slot:=fun b u q _ _ _=>⟨u.slots,k b u q⟩
  free:=fun b u q n _=>by rw [upd_ne (Nat.ne_of_lt (Nat.lt_of_lt_of_le (Heap.lt_size q) hp))];exact n
  there:=fun b u q _=>⟨u,k b u q⟩
  tups:=fun b xs q=>by rw [upd_ne (ne_of_none q hn)];exact q
  frzs:=fun b u xs q=>by rw [upd_ne (ne_of_none q hn)];exact q
  tbls:=fun b ps q=>⟨#[],by rw [upd_ne (ne_of_none q hn),q];simp⟩
theorem Un.write (mu : Mut (H x)) (he : e = x∨H e = some (.own x)) (k : ∀ b u,b≠e→h.get? b = some u→h'.get? b = some u) (heo : ∃ u,h'.get? e = some u) : Un fs ex H (upd H x o) h h':=by
  have hx : ∀ b,H b = none→b≠x:=fun b n z=>by subst z;rw [n] at mu;exact mu
  have hb : ∀ b,H b = none→b≠e:=fun b n z=>by
    subst z
    rcases he with r | r
    · exact hx b n r
    · rw [n] at r;cases r
  have hm : ∀ b u,H b = some u→¬ Mut (some u)→b≠x:=fun b u q nm z=>by subst z;rw [q] at mu;exact nm mu
  refine ⟨fun b u q n _ _=>k b u (hb b n) q,fun b u q n _ _=>⟨u.slots,k b u (hb b n) q⟩,fun b u q n _=>by rw [upd_ne (hx b n)];exact n,fun b u q _=>?_,
    fun b xs q=>by rw [upd_ne (hm b _ q fun z=>z)];exact q,fun b u xs q=>by rw [upd_ne (hm b _ q fun z=>z)];exact q,fun b ps q=>⟨#[],by rw [upd_ne (hm b _ q fun z=>z),q];simp⟩⟩
  by_cases hbe : b = e
  · subst hbe;exact heo
  · exact ⟨u,k b u hbe q⟩
end
def trk (h : Heap) (H : Hp) : List Addr:=(List.range h.objs.size).filter fun a=>(H a).isSome
def hidT (h : Heap) (H : Hp) : Heap:=PySem.W.hideAll h (trk h H)
theorem hidT_size (h : Heap) (H : Hp) : (hidT h H).objs.size = h.objs.size:=PySem.W.hideAll_size _ _
theorem hidT_get {h : Heap} {H : Hp} {b : Addr} {o : Obj} (e : h.get? b = some o) (n : H b = none) : (hidT h H).get? b = some o :=
  PySem.W.hideAll_get _ e fun hm=>by
    have q : (H b).isSome = true:=(List.mem_filter.mp hm).2
    rw [n] at q;simp at q
theorem of_hidT {h : Heap} {H : Hp} {b : Addr} {o : Obj} (e : (hidT h H).get? b = some o) : h.get? b = some o∧H b = none:=by
  have e' : h.get? b = some o:=PySem.W.of_hideAll (trk h H) e
  refine ⟨e',?_⟩
  cases q : H b with
  | none=>rfl
  | some x =>
    have hm : b∈trk h H:=List.mem_filter.mpr ⟨List.mem_range.mpr (Heap.lt_size e'),by simp [q]⟩
    have z : (hidT h H).get? b = none:=PySem.W.hideAll_none (trk h H) hm
    rw [z] at e;cases e
def allNews (g h : Heap) (L : Addr) : List (Addr × Obj):=(List.range h.objs.size).filterMap fun a=>if a = L∨(g.get? a).isSome = true then none else (h.get? a).map fun o=>(a,o)
def rest (g h : Heap) (L d : Addr) : List (Addr × Obj):=(allNews g h L).filter fun p=>decide (p.1≠d)
def tabL (K : PySem.W.Frag) : List (Str × Addr × Addr):=match K.lookup mainGlobals with
  | some ⟨_,_,.dict es _,_⟩=>es.toList.filterMap fun e=>match e.key with
    | .str x _=>(PySem.W.tabIn K x).map fun q=>(x,q)
    | _=>none
  | _=>[]
def TabT (K : PySem.W.Frag) (H : Hp) : Prop:=∀ q∈tabL K,∃ ps,H q.2.2 = some (.tbl ps)∧ps[0]? = some (.str (q.1 ++ ".<locals>." ++ "<lambda>") 0)
theorem TabT.mono {K : PySem.W.Frag} {H H' : Hp} (x : TabT K H) (k : ∀ b ps,H b = some (.tbl ps)→∃ more,H' b = some (.tbl (ps ++ more))) : TabT K H':=fun q hq=>by
  obtain ⟨ps,e,z⟩:=x q hq
  obtain ⟨more,e'⟩:=k _ _ e
  refine ⟨_,e',?_⟩
  have hz : 0 < ps.size:=by
    rcases Nat.eq_zero_or_pos ps.size with h | h
    · rw [Array.getElem?_eq_none (by omega)] at z;cases z
    · exact h
  rw [Array.getElem?_append_left hz]
  exact z
structure Mod (K : PySem.W.Frag) (mg : Str→Option Value) (base : Heap) : Prop where
  kin : K.In base
  glob : base.Ns mainGlobals mg
  blt : ∃ mb,base.Ns builtinsNs mb∧∀ x : Str,x≠"__name__"→mb x = bootBuiltins x
  nolimit : base.NoLimit
  bm : ∃ bm ob,mg "__builtins__" = some (.ref bm)∧bm≠builtinsNs∧base.get? bm = some ob∧ob.cls = .type "module"∧ob.dict = some builtinsNs∧ob.data = .plain
structure Cx where
  prog : Program
  w : World
  K : PySem.W.Frag
  mg : Str→Option Value
  base : Heap
  A : Around
  N : List Str
  s₀ : Shared
  H₀ : Hp
  env : Env
  outer : List Env
  stack : List Env
  ex : List Addr
  fn : Str→Bool
  calm : Bool
  pn : List (Addr × Obj)
  xe : Value→Shared→Prop
def frs (l : List Env) : List Addr:=l.filterMap (·.frame)
abbrev Cx.fs (X : Cx) : List Addr:=frs X.outer
def Vis (sc : Scope) (x : Str) : Prop:=sc.names.lookup x = some .local∨sc.names.lookup x = some .cell∨sc.names.lookup x = some .free
def Loc (sc : Scope) (x : Str) : Prop:=sc.names.lookup x = some .local∨sc.names.lookup x = some .cell
def Look (env : Env) (h : Heap) (m : Str→Option Value) (x : Str) (u : Value) : Prop :=
  (env.kindOf x = some .local∧m x = some u)∨((env.kindOf x = some .cell∨env.kindOf x = some .free)∧∃ c,env.cells.lookup x = some c∧h.IsCell c (some u))
structure Cx.Ok (X : Cx) : Prop where
  mod : Mod X.K X.mg X.base
  kind : X.env.scope.kind = .function
  glob : X.env.globals = mainGlobals
  blt : X.env.builtins = builtinsNs
  above : X.s₀.heap.objs.size≤X.env.locals
  inj : ∀ x y c,X.env.cells.lookup x = some c→X.env.cells.lookup y = some c→x = y
  has : ∀ x,(X.env.kindOf x = some .cell∨X.env.kindOf x = some .free)→∃ c,X.env.cells.lookup x = some c
  cab : ∀ x c,X.fn x = true→X.env.cells.lookup x = some c→X.s₀.heap.objs.size≤c
  hd : X.calm = true→X.A.handled = none
  frames : X.A.frames = some X.stack
  stk : X.stack = X.outer∨(X.stack = X.env :: X.outer∧X.env.frame = some X.env.locals)
  exf : ∀ b∈X.ex,b≠X.env.locals∧∀ x c,X.env.cells.lookup x = some c→c≠b
  bs : ∀ b o,X.base.get? b = some o→X.s₀.heap.get? b = some o∧X.H₀ b = none
  bsz : X.base.objs.size≤X.s₀.heap.objs.size
  noex : ∀ b o,X.base.get? b = some o→b ∉ X.ex
  exfs : ∀ b∈X.ex,b ∉ X.fs
  funs : X.s₀.heap.FunFrames X.base X.outer
  frf : ∀ b∈X.fs,X.H₀ b = none
  tt : TabT X.K X.H₀
structure Inv (X : Cx) (pins : List (Addr × Obj)) (σ : List (Option V)) (H : Hp) (s : Shared) : Prop where
  ok : X.Ok
  os : s.os = X.s₀.os
  bare : AllBare s.gens
  base : Un X.fs X.ex X.H₀ H X.s₀.heap s.heap
  loc : ∃ m,s.heap.Ns X.env.locals m∧∀ (i : Nat) (x : Str) (v : V),X.N[i]? = some x→σ[i]? = some (some v)→Vis X.env.scope x→∃ u,RelV v u∧Look X.env s.heap m x u
  cell : ∀ x c,X.env.cells.lookup x = some c→∃ v,s.heap.IsCell c v
  free : H X.env.locals = none
  freeC : ∀ x c,X.env.cells.lookup x = some c→H c = none
  pin : ∀ p∈X.pn ++ pins,s.heap.get? p.1 = some p.2∧H p.1 = none∧p.1≠X.env.locals∧p.1 ∉ X.fs∧∀ v,p.2.data≠.cell v
  hok : HOk X.prog X.w H s.heap
  len : σ.length = X.N.length
section
variable {X : Cx} {pins : List (Addr × Obj)} {σ : List (Option V)} {H H' : Hp} {s : Shared} {h' : Heap}
theorem Cx.Ok.nofr (ok : X.Ok) {b : Addr} {o : Obj} (e : X.base.get? b = some o) : b ∉ X.fs:=fun hb=>by
  have:=(ok.funs.mem hb).1
  rw [e] at this;cases this
theorem Inv.bs (I : Inv X pins σ H s) : ∀ b o,X.base.get? b = some o→s.heap.get? b = some o∧H b = none:=fun b o e =>
  ⟨I.base.keep b o (I.ok.bs b o e).1 (I.ok.bs b o e).2 (I.ok.nofr e) (I.ok.noex b o e),I.base.free b o (I.ok.bs b o e).1 (I.ok.bs b o e).2 (I.ok.noex b o e)⟩
theorem Inv.bk (I : Inv X pins σ H s) : ∀ b o,X.base.get? b = some o→s.heap.get? b = some o:=fun b o e=>(I.bs b o e).1
theorem Inv.mod (I : Inv X pins σ H s) : Mod X.K X.mg X.base:=I.ok.mod
theorem Inv.kIn (I : Inv X pins σ H s) : X.K.In s.heap:=I.ok.mod.kin.keeps I.bk
theorem Inv.lt (I : Inv X pins σ H s) : X.env.locals < s.heap.objs.size:=let ⟨_,hn,_⟩:=I.loc;hn.lt
theorem Inv.sz (I : Inv X pins σ H s) : X.s₀.heap.objs.size≤s.heap.objs.size:=Nat.le_trans I.ok.above (Nat.le_of_lt I.lt)
theorem Inv.nofs (I : Inv X pins σ H s) {a : Addr} (h : s.heap.objs.size≤a) : a ∉ X.fs:=fun hb=>by
  obtain ⟨_,o,ho,_⟩:=I.ok.funs.mem hb
  exact absurd (Nat.lt_of_lt_of_le (Heap.lt_size ho) (Nat.le_trans I.sz h)) (Nat.lt_irrefl _)
theorem Inv.cne (I : Inv X pins σ H s) : ∀ x c,X.env.cells.lookup x = some c→c≠X.env.locals:=fun x c e z=>by
  obtain ⟨v,o,ho,hd⟩:=I.cell x c e
  obtain ⟨m,⟨o',es,ep,ho',hd',_⟩,_⟩:=I.loc
  rw [z,ho'] at ho;cases ho;rw [hd'] at hd;cases hd
theorem Inv.funs (I : Inv X pins σ H s) : s.heap.FunFrames X.base X.outer:=by
  have all : ∀ (l : List Env),(∀ b∈frs l,b∈X.fs)→X.s₀.heap.FunFrames X.base l→s.heap.FunFrames X.base l:=by
    intro l
    induction l with
    | nil=>intro _ _;trivial
    | cons env r ih =>
      intro hs hl
      obtain ⟨hk,⟨L,o,hf,hn,ho,hd⟩,hr⟩:=hl
      have hL : L∈X.fs:=hs L (by unfold frs;rw [List.filterMap_cons,hf];exact List.mem_cons_self)
      obtain ⟨sl,e⟩:=I.base.slot L o ho (I.ok.frf L hL) hL fun z=>I.ok.exfs L z hL
      exact ⟨hk,⟨L,_,hf,hn,e,hd⟩,ih (fun b hb=>hs b (by unfold frs;rw [List.filterMap_cons,hf];exact List.mem_cons_of_mem _ hb)) hr⟩
  exact all X.outer (fun _ hb=>hb) I.ok.funs
theorem Inv.stack (I : Inv X pins σ H s) : s.heap.FunFrames X.base X.stack:=by
  rcases I.ok.stk with e | ⟨e,hf⟩
  · rw [e];exact I.funs
  · rw [e]
    obtain ⟨m,hn,_⟩:=I.loc
    refine .cons (by rw [I.ok.kind];decide) hf hn ?_ I.funs
    exact Heap.get?_none_of_le (Nat.le_trans I.ok.bsz I.ok.above)
theorem Inv.stkSub (I : Inv X pins σ H s) : ∀ b∈frs X.stack,b∈X.env.locals :: X.fs:=fun b hb=>by
  rcases I.ok.stk with e | ⟨e,hf⟩
  · rw [e] at hb;exact List.mem_cons_of_mem _ hb
  · rw [e] at hb
    unfold frs at hb
    rw [List.filterMap_cons,hf] at hb
    exact hb
theorem Inv.stkFree (I : Inv X pins σ H s) : ∀ b∈frs X.stack,H b = none:=fun b hb=>by
  rcases List.mem_cons.mp (I.stkSub b hb) with e | hb
  · rw [e];exact I.free
  · obtain ⟨_,o,ho,_⟩:=I.ok.funs.mem hb
    exact I.base.free b o ho (I.ok.frf b hb) fun z=>I.ok.exfs b z hb
theorem Inv.step {g' : Array GenState} {t' : Nat} {d' : Drawn} {ch : List Addr} (I : Inv X pins σ H s)
    (hch : ∀ b∈ch,(b∈X.ex∨X.s₀.heap.objs.size≤b)∧b≠X.env.locals∧(∀ x c,X.env.cells.lookup x = some c→c≠b)∧∀ p∈X.pn ++ pins,p.1≠b)
    (keep : ∀ b o,b≠X.env.locals→b ∉ X.fs→b ∉ ch→s.heap.get? b = some o→H b = none→h'.get? b = some o)
    (slot : ∀ b o,b≠X.env.locals→b∈X.fs→b ∉ ch→s.heap.get? b = some o→H b = none→∃ sl,h'.get? b = some { o with slots:=sl }) (free : ∀ b o,b ∉ ch→s.heap.get? b = some o→H b = none→H' b = none)
    (there : ∀ b o,b ∉ ch→s.heap.get? b = some o→∃ o',h'.get? b = some o')
    (tups : ∀ b xs,H b = some (.tup xs)→H' b = some (.tup xs)) (frzs : ∀ b o u,H b = some (.frz o u)→H' b = some (.frz o u)) (tbls : ∀ b ps,H b = some (.tbl ps)→∃ more,H' b = some (.tbl (ps ++ more)))
    (ns : ∀ m,s.heap.Ns X.env.locals m→h'.Ns X.env.locals m) (hok : HOk X.prog X.w H' h') (hg : AllBare g') :
    Inv X pins σ H' { s with heap:=h',gens:=g',drawn:=d',toks:=t' }:=by
  have neL : ∀ b o,X.s₀.heap.get? b = some o→b≠X.env.locals:=fun b o e=>Nat.ne_of_lt (Nat.lt_of_lt_of_le (Heap.lt_size e) I.ok.above)
  have neC : ∀ b o,X.s₀.heap.get? b = some o→b ∉ X.ex→b ∉ ch:=fun b o e hx hb=>by
    rcases (hch b hb).1 with z | z
    · exact hx z
    · exact absurd (Nat.lt_of_lt_of_le (Heap.lt_size e) z) (Nat.lt_irrefl _)
  have cellK : ∀ x c,X.env.cells.lookup x = some c→∀ v,s.heap.IsCell c v→h'.IsCell c v:=fun x c e v ⟨o,ho,hd⟩=>by
    have nch : c ∉ ch:=fun z=>(hch c z).2.2.1 x c e rfl
    by_cases hc : c∈X.fs
    · obtain ⟨sl,q⟩:=slot c o (I.cne x c e) hc nch ho (I.freeC x c e)
      exact ⟨_,q,hd⟩
    · exact ⟨o,keep c o (I.cne x c e) hc nch ho (I.freeC x c e),hd⟩
  refine ⟨I.ok,I.os,hg,⟨fun b o e n hb hx=>?_,fun b o e n hb hx=>?_,fun b o e n hx=>?_,fun b o e hx=>?_,fun b xs e=>tups b xs (I.base.tups b xs e),fun b o xs e=>frzs b o xs (I.base.frzs b o xs e),fun b ps e=>?_⟩,?_,fun x c e=>?_,?_,fun x c e=>?_,fun p hp=>?_,hok,I.len⟩
  · exact keep b o (neL b o e) hb (neC b o e hx) (I.base.keep b o e n hb hx) (I.base.free b o e n hx)
  · obtain ⟨sl,e1⟩:=I.base.slot b o e n hb hx
    obtain ⟨sl',e2⟩:=slot b _ (neL b o e) hb (neC b o e hx) e1 (I.base.free b o e n hx)
    exact ⟨sl',e2⟩
  · obtain ⟨o',e1⟩:=I.base.there b o e hx
    exact free b o' (neC b o e hx) e1 (I.base.free b o e n hx)
  · obtain ⟨o',e1⟩:=I.base.there b o e hx
    exact there b o' (neC b o e hx) e1
  · obtain ⟨m1,e1⟩:=I.base.tbls b ps e
    obtain ⟨m2,e2⟩:=tbls b _ e1
    exact ⟨m1 ++ m2,by rw [e2,Array.append_assoc]⟩
  · obtain ⟨m,hn,hl⟩:=I.loc
    refine ⟨m,ns m hn,fun i x v e1 e2 e3=>?_⟩
    obtain ⟨u,r,l⟩:=hl i x v e1 e2 e3
    refine ⟨u,r,?_⟩
    rcases l with l | ⟨k,c,e,z⟩
    · exact .inl l
    · exact .inr ⟨k,c,e,cellK x c e _ z⟩
  · obtain ⟨v,z⟩:=I.cell x c e
    exact ⟨v,cellK x c e v z⟩
  · obtain ⟨m,⟨o,_,_,ho,_⟩,_⟩:=I.loc
    exact free _ o (fun z=>(hch _ z).2.1 rfl) ho I.free
  · obtain ⟨v,o,ho,hd⟩:=I.cell x c e
    exact free c o (fun z=>(hch c z).2.2.1 x c e rfl) ho (I.freeC x c e)
  · obtain ⟨e,n,ne,nf,d⟩:=I.pin p hp
    have nch : p.1 ∉ ch:=fun z=>(hch p.1 z).2.2.2 p hp rfl
    exact ⟨keep p.1 p.2 ne nf nch e n,free p.1 p.2 nch e n,ne,nf,d⟩
theorem Inv.un {t' : Nat} (I : Inv X pins σ H s) (u : Un X.fs [] H H' s.heap h') (hok : HOk X.prog X.w H' h') : Inv X pins σ H' { s with heap:=h',toks:=t' }:=by
  obtain ⟨m,⟨o,es,ep,ho,r⟩,_⟩:=id I.loc
  obtain ⟨sl,hL⟩:=u.any ho I.free (by simp)
  exact I.step (g':=s.gens) (d':=s.drawn) (ch:=[]) (fun _ z=>nomatch z) (fun b o _ hb _ e n=>u.keep b o e n hb (by simp)) (fun b o _ hb _ e n=>u.slot b o e n hb (by simp)) (fun b o _ e n=>u.free b o e n (by simp)) (fun b o _ e=>u.there b o e (by simp)) u.tups u.frzs u.tbls (fun m' hm=>by
    obtain ⟨o',es',ep',ho',r'⟩:=hm
    rw [ho] at ho';cases ho'
    exact ⟨_,es',ep',hL,r'⟩) hok I.bare
theorem Inv.call {g' : Array GenState} {t' : Nat} {d' : Drawn} {ch : List Addr} (I : Inv X pins σ H s) (u : Un (frs X.stack) ch H H' s.heap h') (hok : HOk X.prog X.w H' h') (hg : AllBare g')
    (hch : ∀ b∈ch,(b∈X.ex∨X.s₀.heap.objs.size≤b)∧b≠X.env.locals∧(∀ x c,X.env.cells.lookup x = some c→c≠b)∧∀ p∈X.pn ++ pins,p.1≠b) :
    Inv X pins σ H' { s with heap:=h',gens:=g',drawn:=d',toks:=t' }:=by
  obtain ⟨m,⟨o,es,ep,ho,r⟩,_⟩:=id I.loc
  obtain ⟨sl,hL⟩:=u.any ho I.free fun z=>(hch _ z).2.1 rfl
  exact I.step (ch:=ch) hch (fun b o hL hb hc e n=>u.keep b o e n (fun z=>(List.mem_cons.mp (I.stkSub b z)).elim hL hb) hc) (fun b o _ _ hc e n=>u.any e n hc) (fun b o hc e n=>u.free b o e n hc) (fun b o hc e=>u.there b o e hc) u.tups u.frzs u.tbls (fun m' hm=>by
    obtain ⟨o',es',ep',ho',r'⟩:=hm
    rw [ho] at ho';cases ho'
    exact ⟨_,es',ep',hL,r'⟩) hok hg
theorem Inv.turned {t' : Nat} {it : Addr} (I : Inv X pins σ H s) (k : ∀ b o,b≠it→s.heap.get? b = some o→h'.get? b = some o) (hn : H it = none) (hL : it≠X.env.locals)
    (h1 : it∈X.ex∨X.s₀.heap.objs.size≤it) (h2 : ∀ x c,X.env.cells.lookup x = some c→c≠it) (h3 : ∀ p∈X.pn ++ pins,p.1≠it) : Inv X pins σ H { s with heap:=h',toks:=t' }:=by
  have nit : ∀ b u,H b = some u→b≠it:=fun b u e z=>by rw [z,hn] at e;cases e
  refine I.step (g':=s.gens) (d':=s.drawn) (ch:=[it]) (fun b hb=>?_) (fun b o _ _ hc e _=>k b o (fun z=>hc (by simp [z])) e) (fun b o _ _ hc e _=>⟨o.slots,k b o (fun z=>hc (by simp [z])) e⟩) (fun _ _ _ _ n=>n)
    (fun b o hc e=>⟨o,k b o (fun z=>hc (by simp [z])) e⟩) (fun _ _ e=>e) (fun _ _ _ e=>e) (fun b ps e=>⟨#[],by rw [e];simp⟩) (fun m hm=>?_) (fun b u e=>?_) I.bare
  · have e : b = it:=by simpa using hb
    subst e
    exact ⟨h1,hL,h2,h3⟩
  · obtain ⟨o,es,ep,ho,r⟩:=hm
    exact ⟨o,es,ep,k _ o (Ne.symm hL) ho,r⟩
  · refine (I.hok b u e).stay (fun c v hc q=>k c v ?_ q) (fun _ q=>q) (fun _ _ q=>q) fun _ _ _ q=>q
    rcases hc with z | z
    · rw [z];exact nit b u e
    · exact nit c _ z
theorem Inv.tok (I : Inv X pins σ H s) (t : Nat) : Inv X pins σ H { s with toks:=t }:=I.un (h':=s.heap) (t':=t) Un.refl I.hok
theorem Inv.kept {t' : Nat} (I : Inv X pins σ H s) (k : ∀ b u,s.heap.get? b = some u→h'.get? b = some u) : Inv X pins σ H { s with heap:=h',toks:=t' }:=I.un (Un.kept k) (I.hok.kept k)
theorem Inv.laid {a : Addr} {o : HO} {t' : Nat} (I : Inv X pins σ H s) (k : ∀ b u,s.heap.get? b = some u→h'.get? b = some u) (hp : s.heap.objs.size≤a) (new : ObjOk X.prog X.w (upd H a o) h' a o) :
    Inv X pins σ (upd H a o) { s with heap:=h',toks:=t' }:=I.un (Un.laid k hp (I.hok.fresh hp)) (I.hok.laid k hp new)
theorem Inv.write {x e : Addr} {o : HO} {t' : Nat} (I : Inv X pins σ H s) (mu : Mut (H x)) (he : e = x∨H e = some (.own x)) (k : ∀ b u,b≠e→s.heap.get? b = some u→h'.get? b = some u) (heo : ∃ u,h'.get? e = some u)
    (new : ObjOk X.prog X.w (upd H x o) h' x o) : Inv X pins σ (upd H x o) { s with heap:=h',toks:=t' }:=I.un (Un.write mu he k heo) (I.hok.write mu he k heo new)
theorem Inv.pins_of {pins' : List (Addr × Obj)} (I : Inv X pins σ H s) (h : ∀ p∈pins',s.heap.get? p.1 = some p.2∧H p.1 = none∧p.1≠X.env.locals∧p.1 ∉ X.fs∧∀ v,p.2.data≠.cell v) : Inv X pins' σ H s :=
  ⟨I.ok,I.os,I.bare,I.base,I.loc,I.cell,I.free,I.freeC,fun p hp=>(List.mem_append.mp hp).elim (fun z=>I.pin p (List.mem_append_left _ z)) (h p),I.hok,I.len⟩
theorem nodup_ix {N : List Str} (hN : N.Nodup) {i j : Nat} {x : Str} (a : N[i]? = some x) (b : N[j]? = some x) : i = j:=by
  obtain ⟨h1,e1⟩:=List.getElem?_eq_some_iff.mp a
  obtain ⟨h2,e2⟩:=List.getElem?_eq_some_iff.mp b
  exact (List.getElem_inj hN).mp (e1.trans e2.symm)
theorem store_ok2 {M : Model} {A : Around} {E : Value→Shared→Prop} {i : Nat} {x : Str} {v : V} {u : Value} {Q : Unit→Shared→Prop} (I : Inv X pins σ H s) (hN : X.N.Nodup) (hi : X.N[i]? = some x) (hx : Loc X.env.scope x) (r : RelV v u)
    (h : ∀ s',Inv X pins (σ.set i (some v)) H s'→(∃ a,Heap.SameBut a s.heap s'.heap∧(a = X.env.locals∨X.env.cells.lookup x = some a))→Q () s') (hf : X.fn x = true∨X.env.scope.names.lookup x = some .local:=by first | exact .inl rfl | exact .inr rfl | assumption) : wpAny M A (storeName X.env x u) Q E s:=by
  obtain ⟨m,hn,hl⟩:=id I.loc
  have hcls : (X.env.scope.kind == .class || (X.env.scope.kind == .module && X.env.locals != X.env.globals)) = false:=by rw [I.ok.kind];rfl
  have hiσ : i < σ.length:=by rw [I.len];exact (List.getElem?_eq_some_iff.mp hi).1
  have cne:=I.cne
  have tracked : ∀ {a : Addr} {h' : Heap},(∃ o,s.heap.get? a = some o∧H a = none)→Heap.SameBut a s.heap h'→HOk X.prog X.w H h':=fun {a h'} ha hs b ob e=>by
    obtain ⟨_,_,hfree⟩:=ha
    refine (I.hok b ob e).stay (fun c w' hc q=>(hs.2 c ?_).trans q) (fun _ q=>q) (fun _ _ q=>q) fun _ _ _ q=>q
    rintro rfl
    rcases hc with rfl | hc
    · rw [hfree] at e;cases e
    · rw [hfree] at hc;cases hc
  rcases hx with hk | hk
  · refine wpAny_storeName_local hk hn (fun h' hn' hs=>?_) hcls
    obtain ⟨oL,_,_,hoL,_⟩:=id hn
    refine h _ ⟨I.ok,I.os,I.bare,⟨fun b o e n hb hx=>?_,fun b o e n hb hx=>?_,I.base.free,fun b o e hx=>?_,I.base.tups,I.base.frzs,I.base.tbls⟩,⟨_,hn',fun j y v' e1 e2 e3=>?_⟩,fun y c e=>?_,I.free,I.freeC,fun p hp=>?_,tracked ⟨oL,hoL,I.free⟩ hs,by simpa using I.len⟩ ⟨_,hs,.inl rfl⟩
    · exact (hs.2 b (Nat.ne_of_lt (Nat.lt_of_lt_of_le (Heap.lt_size e) I.ok.above))).trans (I.base.keep b o e n hb hx)
    · obtain ⟨sl,e1⟩:=I.base.slot b o e n hb hx
      exact ⟨sl,(hs.2 b (Nat.ne_of_lt (Nat.lt_of_lt_of_le (Heap.lt_size e) I.ok.above))).trans e1⟩
    · obtain ⟨o',e1⟩:=I.base.there b o e hx
      exact ⟨o',(hs.2 b (Nat.ne_of_lt (Nat.lt_of_lt_of_le (Heap.lt_size e) I.ok.above))).trans e1⟩
    · by_cases hj : j = i
      · subst hj
        rw [hi] at e1;cases e1
        rw [List.getElem?_set_self hiσ] at e2
        cases e2
        exact ⟨u,r,.inl ⟨hk,by simp⟩⟩
      · rw [List.getElem?_set_ne (Ne.symm hj)] at e2
        obtain ⟨u',r',q⟩:=hl j y v' e1 e2 e3
        refine ⟨u',r',?_⟩
        rcases q with ⟨k,e⟩ | ⟨k,c,e,z⟩
        · refine .inl ⟨k,?_⟩
          have : y≠x:=fun e=>hj (nodup_ix hN e1 (e ▸ hi))
          simp [this,e]
        · exact .inr ⟨k,c,e,z.sameBut hs (cne y c e)⟩
    · obtain ⟨w',z⟩:=I.cell y c e
      exact ⟨w',z.sameBut hs (cne y c e)⟩
    · obtain ⟨e,n,ne,nf,d⟩:=I.pin p hp
      exact ⟨(hs.2 p.1 ne).trans e,n,ne,nf,d⟩
  · have hfn : X.fn x = true:=by
      rcases hf with z | z
      · exact z
      · rw [z] at hk;cases hk
    obtain ⟨c,hc⟩:=I.ok.has x (.inl hk)
    obtain ⟨w',z⟩:=I.cell x c hc
    refine wpAny_storeName_cell I.ok.kind hk hc z (fun h' hc' hs=>?_)
    obtain ⟨oc,hoc,hocd⟩:=id z
    refine h { s with heap:=h' } ⟨I.ok,I.os,I.bare,⟨fun b o e n hb hx=>?_,fun b o e n hb hx=>?_,I.base.free,fun b o e hx=>?_,I.base.tups,I.base.frzs,I.base.tbls⟩,⟨m,hn.sameBut hs (Ne.symm (cne x c hc)),fun j y v' e1 e2 e3=>?_⟩,fun y c' e=>?_,I.free,I.freeC,fun p hp=>?_,tracked ⟨oc,hoc,I.freeC x c hc⟩ hs,by simpa using I.len⟩ ⟨c,hs,.inr hc⟩
    · exact (hs.2 b (Nat.ne_of_lt (Nat.lt_of_lt_of_le (Heap.lt_size e) (I.ok.cab x c hfn hc)))).trans (I.base.keep b o e n hb hx)
    · obtain ⟨sl,e1⟩:=I.base.slot b o e n hb hx
      exact ⟨sl,(hs.2 b (Nat.ne_of_lt (Nat.lt_of_lt_of_le (Heap.lt_size e) (I.ok.cab x c hfn hc)))).trans e1⟩
    · obtain ⟨o',e1⟩:=I.base.there b o e hx
      exact ⟨o',(hs.2 b (Nat.ne_of_lt (Nat.lt_of_lt_of_le (Heap.lt_size e) (I.ok.cab x c hfn hc)))).trans e1⟩
    · by_cases hj : j = i
      · subst hj
        rw [hi] at e1;cases e1
        rw [List.getElem?_set_self hiσ] at e2
        cases e2
        exact ⟨u,r,.inr ⟨.inl hk,c,hc,hc'⟩⟩
      · rw [List.getElem?_set_ne (Ne.symm hj)] at e2
        obtain ⟨u',r',q⟩:=hl j y v' e1 e2 e3
        refine ⟨u',r',?_⟩
        rcases q with q | ⟨k,c',e,z'⟩
        · exact .inl q
        · refine .inr ⟨k,c',e,z'.sameBut hs ?_⟩
          rintro rfl
          exact hj (nodup_ix hN e1 (I.ok.inj _ _ _ e hc ▸ hi))
    · by_cases hcc : c' = c
      · subst hcc;exact ⟨_,hc'⟩
      · obtain ⟨w2,z2⟩:=I.cell y c' e
        exact ⟨w2,z2.sameBut hs hcc⟩
    · obtain ⟨e,n,ne,nf,d⟩:=I.pin p hp
      refine ⟨(hs.2 p.1 ?_).trans e,n,ne,nf,d⟩
      intro q
      rw [q,hoc] at e
      have q' : oc = p.2:=Option.some.inj e
      exact d w' (by rw [← q'];exact hocd)
theorem store_ok {M : Model} {A : Around} {E : Value→Shared→Prop} {i : Nat} {x : Str} {v : V} {u : Value} {Q : Unit→Shared→Prop} (I : Inv X pins σ H s) (hN : X.N.Nodup) (hi : X.N[i]? = some x) (hx : Loc X.env.scope x) (r : RelV v u)
    (h : ∀ s',Inv X pins (σ.set i (some v)) H s'→Q () s') (hf : X.fn x = true∨X.env.scope.names.lookup x = some .local:=by first | exact .inl rfl | exact .inr rfl | assumption) : wpAny M A (storeName X.env x u) Q E s :=
  store_ok2 I hN hi hx r (fun s' I' _=>h s' I') hf
theorem Inv.call' {s' : Shared} {ch : List Addr} (I : Inv X pins σ H s) (ho : s'.os = s.os) (u : Un (frs X.stack) ch H H' s.heap s'.heap) (hok : HOk X.prog X.w H' s'.heap) (hg : AllBare s'.gens)
    (hch : ∀ b∈ch,(b∈X.ex∨X.s₀.heap.objs.size≤b)∧b≠X.env.locals∧(∀ x c,X.env.cells.lookup x = some c→c≠b)∧∀ p∈X.pn ++ pins,p.1≠b) : Inv X pins σ H' s':=by
  obtain ⟨h',g',d',t',o'⟩:=s'
  have e : o' = s.os:=ho
  subst e
  exact I.call (g':=g') (t':=t') (d':=d') u hok hg hch
end
abbrev XK:=Value→Option Addr→Hp→Prop
abbrev St:=List (Option V)
abbrev VK:=V→Hp→Prop
abbrev TE:=St→Hp→VK→Prop
abbrev TT:=St→Hp→(Bool→Hp→Prop)→Prop
abbrev TA:=St→Hp→(List V→Hp→Prop)→Prop
structure Ends where
  nx : St→Hp→Prop
  rt : VK
  bk : St→Hp→Prop:=fun _ _=>False
  ct : St→Hp→Prop:=fun _ _=>False
abbrev TS:=Ends→St→Hp→Prop
def EP (X : Cx) (pins : List (Addr × Obj)) (σ : St) (Q : VK) (u : Value) (s' : Shared) : Prop:=∃ v H',Inv X pins σ H' s'∧RelV v u∧Q v H'
def TP (X : Cx) (pins : List (Addr × Obj)) (σ : St) (Q : Bool→Hp→Prop) (b : Bool) (s' : Shared) : Prop:=∃ H',Inv X pins σ H' s'∧Q b H'
def AP (X : Cx) (pins : List (Addr × Obj)) (σ : St) (Q : List V→Hp→Prop) (us : List Value) (s' : Shared) : Prop:=∃ vs H',Inv X pins σ H' s'∧Vals vs us∧Q vs H'
def SP (X : Cx) (pins : List (Addr × Obj)) (D : Ends) (f : Flow) (s' : Shared) : Prop :=
  match f with
  | .next=>∃ σ' H',Inv X pins σ' H' s'∧D.nx σ' H'
  | .brk=>∃ σ' H',Inv X pins σ' H' s'∧D.bk σ' H'
  | .cont=>∃ σ' H',Inv X pins σ' H' s'∧D.ct σ' H'
  | .ret u=>∃ v σ' H',Inv X pins σ' H' s'∧RelV v u∧D.rt v H'
def PEd (X : Cx) (e : Expr) (t : TE) : Prop :=
  ∀ (pins : List (Addr × Obj)) (s : Shared) (σ : St) (H : Hp) (Q : VK),Inv X pins σ H s→t σ H Q→wpAny (model X.prog X.w) X.A (eval e X.env) (EP X pins σ Q) X.xe s
structure PE (X : Cx) (e : Expr) (t : TE) : Prop where
  run : PEd X e t
instance {X : Cx} {e : Expr} {t : TE} : CoeFun (PE X e t) (fun _=>PEd X e t):=⟨PE.run⟩
instance {X : Cx} {e : Expr} {t : TE} : Coe (PE X e t) (PEd X e t):=⟨PE.run⟩
def PT (X : Cx) (e : Expr) (t : TT) : Prop :=
  ∀ (pins : List (Addr × Obj)) (s : Shared) (σ : St) (H : Hp) (Q : Bool→Hp→Prop),Inv X pins σ H s→t σ H Q→wpAny (model X.prog X.w) X.A (isTrue e X.env (eval e X.env)) (TP X pins σ Q) X.xe s
def PW (X : Cx) (e : Expr) (t : TT) : Prop :=
  ∀ (whole : Sem Value) (pins : List (Addr × Obj)) (s : Shared) (σ : St) (H : Hp) (Q : Bool→Hp→Prop),Inv X pins σ H s→t σ H Q→wpAny (model X.prog X.w) X.A (isTrue e X.env whole) (TP X pins σ Q) X.xe s
theorem PW.pt {X : Cx} {e : Expr} {t : TT} (h : PW X e t) : PT X e t:=h _
def PAd (X : Cx) (es : List Expr) (t : TA) : Prop :=
  ∀ (pos : Pos) (pins : List (Addr × Obj)) (s : Shared) (σ : St) (H : Hp) (Q : List V→Hp→Prop),Inv X pins σ H s→t σ H Q→wpAny (model X.prog X.w) X.A (spliced (backTo pos (starEach es X.env))) (AP X pins σ Q) X.xe s
structure PA (X : Cx) (es : List Expr) (t : TA) : Prop where
  run : PAd X es t
instance {X : Cx} {es : List Expr} {t : TA} : CoeFun (PA X es t) (fun _=>PAd X es t):=⟨PA.run⟩
instance {X : Cx} {es : List Expr} {t : TA} : Coe (PA X es t) (PAd X es t):=⟨PA.run⟩
def PSd (X : Cx) (st : Stmt) (t : TS) : Prop :=
  ∀ (pins : List (Addr × Obj)) (s : Shared) (σ : St) (H : Hp) (D : Ends),Inv X pins σ H s→t D σ H→wpAny (model X.prog X.w) X.A (exec st X.env) (SP X pins D) X.xe s
structure PS (X : Cx) (st : Stmt) (t : TS) : Prop where
  run : PSd X st t
instance {X : Cx} {st : Stmt} {t : TS} : CoeFun (PS X st t) (fun _=>PSd X st t):=⟨PS.run⟩
instance {X : Cx} {st : Stmt} {t : TS} : Coe (PS X st t) (PSd X st t):=⟨PS.run⟩
def PSsd (X : Cx) (st : List Stmt) (t : TS) : Prop :=
  ∀ (pins : List (Addr × Obj)) (s : Shared) (σ : St) (H : Hp) (D : Ends),Inv X pins σ H s→t D σ H→wpAny (model X.prog X.w) X.A (execs st X.env) (SP X pins D) X.xe s
structure PSs (X : Cx) (st : List Stmt) (t : TS) : Prop where
  run : PSsd X st t
instance {X : Cx} {st : List Stmt} {t : TS} : CoeFun (PSs X st t) (fun _=>PSsd X st t):=⟨PSs.run⟩
instance {X : Cx} {st : List Stmt} {t : TS} : Coe (PSs X st t) (PSsd X st t):=⟨PSs.run⟩
theorem thn {α : Type} {t : Sem α} {Q Q' : α→Shared→Prop} {M : Model} {A : Around} {E : Value→Shared→Prop} {s : Shared} (h : wpAny M A t Q E s) (hQ : ∀ a s,Q a s→Q' a s) : wpAny M A t Q' E s:=wpAny_mono h hQ fun _ _ x=>x
section
variable {X : Cx}
def tVar (i : Nat) : TE:=fun σ H Q=>∃ v,σ[i]? = some (some v)∧Q v H
def tC (v : V) : TE:=fun _ H Q=>Q v H
theorem pe_var {i : Nat} {x : Str} {pos : Pos} (hN : X.N[i]? = some x) (hv : Vis X.env.scope x) (hd : (x == ("__debug__" : Str)) = false:=by decide) (hcd : (x == ("__classdict__" : Str)) = false:=by decide) : PE X (.Name x pos) (tVar i):=.mk <| by
  intro pins s σ H Q I h
  obtain ⟨v,e,h⟩:=h
  obtain ⟨m,hn,hl⟩:=I.loc
  obtain ⟨u,r,l⟩:=hl i x v hN e hv
  have fin : EP X pins σ Q u s:=⟨v,H,I,r,h⟩
  rcases l with ⟨hk,hm⟩ | ⟨hk,c,hc,hcell⟩
  · exact wpAny_Name (wpAny_loadName_local I.ok.kind hk hn hm fin) hd
  · rcases hk with hk | hk
    · exact wpAny_Name (wpAny_loadName_cell I.ok.kind hk hc hcell fin) hd
    · exact wpAny_Name (wpAny_loadName_free I.ok.kind hk hc hcell fin hcd) hd
theorem pe_int {i j pos} : PE X (.Constant (.int i) j pos) (tC (.int i)):=.mk <| fun _ _ _ H _ I h=>wpAny_Constant_int ⟨.int i,H,I.tok _,⟨_,rfl⟩,h⟩
theorem pe_bl {b j pos} : PE X (.Constant (.bool b) j pos) (tC (.bl b)):=.mk <| fun _ _ _ H _ I h=>Constant_bool ⟨.bl b,H,I,rfl,h⟩
theorem pe_non {j pos} : PE X (.Constant .none j pos) (tC .non):=.mk <| fun _ _ _ H _ I h=>Constant_none ⟨.non,H,I,rfl,h⟩
theorem pe_str {x j pos} : PE X (.Constant (.str x) j pos) (tC (.str x)):=.mk <| fun _ _ _ H _ I h=>Calls.Constant_str ⟨.str x,H,I.tok _,⟨_,rfl⟩,h⟩
def Gl (X : Cx) (x : Str) : Prop:=X.env.kindOf x = some .globalImplicit
theorem ld_glob {E : Value→Shared→Prop} {pins : List (Addr × Obj)} {s : Shared} {σ : St} {H : Hp} {x : Str} {u : Value} {pos : Pos} {Q : Value→Shared→Prop} (I : Inv X pins σ H s) (hg : Gl X x) (hm : X.mg x = some u) (h : Q u s)
    (hd : (x == ("__debug__" : Str)) = false:=by decide) : wpAny (model X.prog X.w) X.A (eval (.Name x pos) X.env) Q E s :=
  Calls.Name_function_global I.ok.kind hg (Calls.loadGlobal_global (by rw [I.ok.glob];exact I.mod.glob.keeps I.bk) hm h) hd
theorem ld_blt {E : Value→Shared→Prop} {pins : List (Addr × Obj)} {s : Shared} {σ : St} {H : Hp} {x : Str} {u : Value} {pos : Pos} {Q : Value→Shared→Prop} (I : Inv X pins σ H s) (hg : Gl X x) (hm : X.mg x = none) (hv : bootBuiltins x = some u) (h : Q u s)
    (hn : x≠"__name__":=by decide) (hd : (x == ("__debug__" : Str)) = false:=by decide) : wpAny (model X.prog X.w) X.A (eval (.Name x pos) X.env) Q E s:=by
  obtain ⟨mb,h1,h2⟩:=I.mod.blt
  exact Calls.Name_function_global I.ok.kind hg (Calls.loadGlobal_builtin (by rw [I.ok.glob];exact I.mod.glob.keeps I.bk) hm (by rw [I.ok.blt];exact h1.keeps I.bk) ((h2 x hn).trans hv) h) hd
theorem pe_glob {x : Str} {v : V} {u : Value} {pos : Pos} (hg : Gl X x) (hm : X.mg x = some u) (r : RelV v u) (hd : (x == ("__debug__" : Str)) = false:=by decide) : PE X (.Name x pos) (tC v):=.mk <|
  fun _ _ _ H _ I h=>ld_glob I hg hm ⟨v,H,I,r,h⟩ hd
variable {a b : Expr} {ta tb : TE} {pos : Pos}
variable {tA tB' : TT} {rest : List Expr}
def tAnd (t u : TT) : TT:=fun σ H Q=>t σ H fun c H1=>if c = true then u σ H1 Q else Q false H1
def tOr (t u : TT) : TT:=fun σ H Q=>t σ H fun c H1=>if c = true then Q true H1 else u σ H1 Q
def tNot (t : TT) : TT:=fun σ H Q=>t σ H fun c H1=>Q (!c) H1
theorem pw_and1 (ha : PT X a tA) : PW X (.BoolOp .And [a] pos) tA:=by
  intro wh pins s σ H Q I h
  refine isTrue_and (thn (ha pins s σ H Q I h) fun c s1 e=>?_)
  cases c with
  | true=>exact isTrue_and_nil e
  | false=>exact e
theorem pw_or1 (ha : PT X a tA) : PW X (.BoolOp .Or [a] pos) tA:=by
  intro wh pins s σ H Q I h
  refine isTrue_or (thn (ha pins s σ H Q I h) fun c s1 e=>?_)
  cases c with
  | false=>exact isTrue_or_nil e
  | true=>exact e
theorem pw_and (ha : PT X a tA) (hb : PW X (.BoolOp .And (b :: rest) pos) tB') : PW X (.BoolOp .And (a :: b :: rest) pos) (tAnd tA tB'):=by
  intro wh pins s σ H Q I h
  refine isTrue_and (thn (ha pins s σ H _ I h) fun c s1 ⟨H1,I1,q1⟩=>?_)
  cases c with
  | true=>exact hb wh pins s1 σ H1 Q I1 q1
  | false=>exact ⟨H1,I1,q1⟩
theorem pw_or (ha : PT X a tA) (hb : PW X (.BoolOp .Or (b :: rest) pos) tB') : PW X (.BoolOp .Or (a :: b :: rest) pos) (tOr tA tB'):=by
  intro wh pins s σ H Q I h
  refine isTrue_or (thn (ha pins s σ H _ I h) fun c s1 ⟨H1,I1,q1⟩=>?_)
  cases c with
  | true=>exact ⟨H1,I1,q1⟩
  | false=>exact hb wh pins s1 σ H1 Q I1 q1
theorem pt_not (ha : PT X a tA) : PT X (.UnaryOp .Not a pos) (tNot tA):=by
  intro pins s σ H Q I h
  exact isTrue_not (ha pins s σ H (fun c H1=>Q (!c) H1) I h)
theorem pe_one {op} {t : TE} (h : PE X a t) : PE X (.BoolOp op [a] pos) t:=.mk <| fun pins s σ H Q I hw=>BoolOp_one (h pins s σ H Q I hw)
def tIf (t : TT) (ta tb : TE) : TE:=fun σ H Q=>t σ H fun c H1=>if c = true then ta σ H1 Q else tb σ H1 Q
theorem pe_ifExp {c : Expr} (hc : PT X c tA) (ha : PE X a ta) (hb : PE X b tb) : PE X (.IfExp c a b pos) (tIf tA ta tb):=.mk <| by
  intro pins s σ H Q I h
  refine wpAny_IfExp (thn (hc pins s σ H _ I h) fun d s1 ⟨H1,I1,q1⟩=>?_)
  cases d with
  | true=>exact ha pins s1 σ H1 Q I1 q1
  | false=>exact hb pins s1 σ H1 Q I1 q1
end
def SqL (K : PySem.W.Frag) (H : Hp) (a : Addr) (xs : List V) : Prop :=
  Rd H a (.lst xs) ∨
    ∃ (o : Obj) (its : Array Value) (n : Nat),K.lookup a = some o∧o.cls = .type "list"∧o.dict = none∧o.data = .seq its n∧its.size≤sizeLine∧Vals xs its.toList
def SqT (K : PySem.W.Frag) (H : Hp) (a : Addr) (xs : List V) : Prop :=
  Rd H a (.tup xs) ∨
    ∃ (o : Obj) (its : Array Value) (n : Nat),K.lookup a = some o∧o.cls = .type "tuple"∧o.data = .seq its n∧its.size≤sizeLine∧Vals xs its.toList
def absV : Value→Option V
  | .none=>some .non
  | .bool b=>some (.bl b)
  | .int i _=>some (.int i)
  | .str x _=>some (.str x)
  | .bytes b _=>some (.byt b)
  | .float b _=>some (.flt b)
  | .ref a=>some (.ref a)
  | .type n=>some (.ty n)
  | _=>none
theorem RelV.abs {x : V} {u : Value} (r : RelV x u) : absV u = some x:=by
  cases x with
  | non=>cases r;rfl
  | bl _=>cases r;rfl
  | int _=>obtain ⟨t,rfl⟩:=r;rfl
  | str _=>obtain ⟨t,rfl⟩:=r;rfl
  | byt _=>obtain ⟨t,rfl⟩:=r;rfl
  | flt _=>obtain ⟨t,rfl⟩:=r;rfl
  | ref _=>cases r;rfl
  | ty _=>cases r;rfl
theorem RelV.inj {x y : V} {u : Value} (r : RelV x u) (q : RelV y u) : x = y:=Option.some.inj (r.abs.symm.trans q.abs)
theorem Vals.inj : ∀ {xs ys : List V} {us : List Value},Vals xs us→Vals ys us→xs = ys
  | _,_,_,.nil,.nil=>rfl
  | _,_,_,.cons r t,.cons r' t'=>by rw [r.inj r',Vals.inj t t']
section
variable {X : Cx} {pins : List (Addr × Obj)} {σ : St} {H : Hp} {s : Shared} {a : Addr} {xs ys : List V}
theorem SqL.of {K : PySem.W.Frag} (h : H a = some (.lst xs)) : SqL K H a xs:=.inl (.inl h)
theorem SqT.of {K : PySem.W.Frag} (h : H a = some (.tup xs)) : SqT K H a xs:=.inl (.inl h)
theorem Inv.list (I : Inv X pins σ H s) (h : SqL X.K H a xs) : ∃ its : List Value,Vals xs its∧PlainL s.heap a its.toArray∧xs.length≤sizeLine:=by
  rcases h with h | ⟨o,its,n,hk,hc,hd,hs,hz,r⟩
  · obtain ⟨z,its,n,r,e⟩:=h.ok I.hok
    exact ⟨its,r,⟨_,n,e,rfl,rfl,rfl⟩,z⟩
  · refine ⟨its.toList,r,⟨o,n,I.kIn a o hk,hc,hd,by simpa using hs⟩,?_⟩
    have e:=r.length
    simp only [Array.length_toList] at e
    omega
theorem Inv.tuple (I : Inv X pins σ H s) (h : SqT X.K H a xs) : ∃ its : List Value,Vals xs its∧IsTup s.heap a its.toArray∧xs.length≤sizeLine:=by
  rcases h with h | ⟨o,its,n,hk,hc,hs,hz,r⟩
  · obtain ⟨z,its,r,p⟩:=h.ok I.hok
    exact ⟨its,r,p.1,z⟩
  · refine ⟨its.toList,r,⟨o,I.kIn a o hk,hc,n,by simpa using hs⟩,?_⟩
    have e:=r.length
    simp only [Array.length_toList] at e
    omega
theorem Inv.list_inj (I : Inv X pins σ H s) (h : SqL X.K H a xs) (h' : SqL X.K H a ys) : xs = ys:=by
  obtain ⟨its,r,⟨o,n,e,_,_,d⟩,_⟩:=I.list h
  obtain ⟨its',r',⟨o',n',e',_,_,d'⟩,_⟩:=I.list h'
  rw [e] at e';cases e'
  rw [d] at d'
  injection d' with d1 _
  have : its = its':=by simpa using congrArg Array.toList d1
  subst this
  exact r.inj r'
theorem Inv.tuple_inj (I : Inv X pins σ H s) (h : SqT X.K H a xs) (h' : SqT X.K H a ys) : xs = ys:=by
  obtain ⟨its,r,⟨o,e,_,n,d⟩,_⟩:=I.tuple h
  obtain ⟨its',r',⟨o',e',_,n',d'⟩,_⟩:=I.tuple h'
  rw [e] at e';cases e'
  rw [d] at d'
  injection d' with d1 _
  have : its = its':=by simpa using congrArg Array.toList d1
  subst this
  exact r.inj r'
end
abbrev Cx.wish (X : Cx) (E : Value→Shared→Prop) : Cx:={ X with xe:=E }
abbrev Cx.nox (X : Cx) : Cx:=X.wish fun _ _=>False
theorem Cx.Ok.wish {X : Cx} (ok : X.Ok) (E : Value→Shared→Prop) : (X.wish E).Ok :=
  ⟨ok.mod,ok.kind,ok.glob,ok.blt,ok.above,ok.inj,ok.has,ok.cab,ok.hd,ok.frames,ok.stk,ok.exf,ok.bs,ok.bsz,ok.noex,ok.exfs,ok.funs,ok.frf,ok.tt⟩
theorem Cx.Ok.unwish {X : Cx} {E : Value→Shared→Prop} (ok : (X.wish E).Ok) : X.Ok :=
  ⟨ok.mod,ok.kind,ok.glob,ok.blt,ok.above,ok.inj,ok.has,ok.cab,ok.hd,ok.frames,ok.stk,ok.exf,ok.bs,ok.bsz,ok.noex,ok.exfs,ok.funs,ok.frf,ok.tt⟩
section
variable {X : Cx} {pins : List (Addr × Obj)} {σ : St} {H : Hp} {s : Shared} {E : Value→Shared→Prop}
theorem Inv.wish (I : Inv X pins σ H s) (E : Value→Shared→Prop) : Inv (X.wish E) pins σ H s:=⟨I.ok.wish E,I.os,I.bare,I.base,I.loc,I.cell,I.free,I.freeC,I.pin,I.hok,I.len⟩
theorem Inv.unwish (I : Inv (X.wish E) pins σ H s) : Inv X pins σ H s:=⟨I.ok.unwish,I.os,I.bare,I.base,I.loc,I.cell,I.free,I.freeC,I.pin,I.hok,I.len⟩
theorem SP.unwish {D : Ends} {f : Flow} {s' : Shared} (h : SP (X.wish E) pins D f s') : SP X pins D f s':=by
  cases f with
  | next=>obtain ⟨σ',H',I,q⟩:=h;exact ⟨σ',H',I.unwish,q⟩
  | brk=>obtain ⟨σ',H',I,q⟩:=h;exact ⟨σ',H',I.unwish,q⟩
  | cont=>obtain ⟨σ',H',I,q⟩:=h;exact ⟨σ',H',I.unwish,q⟩
  | ret u=>obtain ⟨v,σ',H',I,r,q⟩:=h;exact ⟨v,σ',H',I.unwish,r,q⟩
theorem PSs.nox {st : List Stmt} {t : TS} (h : PSs X.nox st t) : PSs X st t:=.mk <| fun pins s σ H D I hw =>
  wpAny_mono (h pins s σ H D (I.wish _) hw) (fun _ _ q=>q.unwish) fun _ _ z=>False.elim z
end
section
variable {X : Cx} {st : Stmt} {rest : List Stmt} {t u : TS} {e : Expr} {te : TE} {pos : Pos}
def tNext : TS:=fun D σ H=>D.nx σ H
def tSeq (t u : TS) : TS:=fun D σ H=>t { D with nx:=u D } σ H
theorem pss_nil : PSs X [] tNext:=.mk <| fun _ _ σ H _ I h=>wpAny_execs_nil ⟨σ,H,I,h⟩
theorem pss_cons (h1 : PS X st t) (h2 : PSs X rest u) : PSs X (st :: rest) (tSeq t u):=.mk <| by
  intro pins s σ H D I h
  refine wpAny_execs_cons (thn (h1 pins s σ H { D with nx:=u D } I h) fun f s1 q=>?_)
  cases f with
  | next =>
    obtain ⟨σ',H',I',q⟩:=q
    exact h2 pins s1 σ' H' D I' q
  | ret v=>exact q
  | brk=>exact q
  | cont=>exact q
theorem pss_one (h1 : PS X st t) : PSs X [st] t:=.mk <| by
  intro pins s σ H D I h
  refine wpAny_execs_cons (thn (h1 pins s σ H D I h) fun f s1 q=>?_)
  cases f with
  | next=>exact wpAny_execs_nil q
  | ret v=>exact q
  | brk=>exact q
  | cont=>exact q
def tCont : TS:=fun D σ H=>D.ct σ H
theorem ps_continue : PS X (.Continue pos) tCont:=.mk <| fun _ _ σ H _ I h=>wpAny_Continue ⟨σ,H,I,h⟩
theorem Inv.quiet {pins : List (Addr × Obj)} {σ : St} {H : Hp} {s : Shared} (I : Inv X pins σ H s) : interactive X.env = false:=by simp [interactive,I.ok.kind]
def tDrop (te : TE) : TS:=fun D σ H=>te σ H fun _ H1=>D.nx σ H1
theorem ps_expr (he : PE X e te) (hs : swapsWith e none pos.line X.env = pure false:=by rfl) : PS X (.Expr e pos) (tDrop te):=.mk <| by
  intro pins s σ H D I h
  exact wpAny_Expr_any (thn (he pins s σ H _ I h) fun v s1 ⟨x,H1,I1,r1,q1⟩=>⟨σ,H1,I1,q1⟩) I.quiet hs
def tRet (te : TE) : TS:=fun D σ H=>te σ H D.rt
theorem ps_ret (he : PE X e te) : PS X (.Return (some e) pos) (tRet te):=.mk <| by
  intro pins s σ H D I h
  exact wpAny_Return_some (thn (he pins s σ H _ I h) fun v s1 ⟨x,H1,I1,r1,q1⟩=>⟨x,σ,H1,I1,r1,q1⟩)
def tIfS (c : TT) (t u : TS) : TS:=fun D σ H=>c σ H fun b H1=>if b = true then t D σ H1 else u D σ H1
theorem ps_if {c : Expr} {a b : List Stmt} {tc : TT} (hc : PT X c tc) (ha : PSs X a t) (hb : PSs X b u) : PS X (.If c a b pos) (tIfS tc t u):=.mk <| by
  intro pins s σ H D I h
  refine wpAny_If (thn (hc pins s σ H _ I h) fun d s1 ⟨H1,I1,q1⟩=>?_)
  cases d with
  | true=>exact ha pins s1 σ H1 D I1 q1
  | false=>exact hb pins s1 σ H1 D I1 q1
def tNever : TS:=fun _ _ _=>False
theorem ps_never : PS X st tNever:=.mk <| fun _ _ _ _ _ _ h=>h.elim
end
abbrev TG:=V→St→Hp→(St→Hp→Prop)→Prop
abbrev TGs:=List V→St→Hp→(St→Hp→Prop)→Prop
def PG (X : Cx) (target : Expr) (t : TG) : Prop :=
  ∀ (pins : List (Addr × Obj)) (s : Shared) (σ : St) (H : Hp) (v : V) (u : Value) (Q : St→Hp→Prop),Inv X pins σ H s→RelV v u→t v σ H Q →
    wpAny (model X.prog X.w) X.A (assign target X.env u) (fun _ s'=>∃ σ' H',Inv X pins σ' H' s'∧Q σ' H') X.xe s
def PGs (X : Cx) (ts : List Expr) (t : TGs) : Prop :=
  ∀ (pins : List (Addr × Obj)) (s : Shared) (σ : St) (H : Hp) (vs : List V) (us : List Value) (Q : St→Hp→Prop),Inv X pins σ H s→Vals vs us→t vs σ H Q →
    wpAny (model X.prog X.w) X.A (assignInOrder ((assignEach ts X.env).map (·.2)) us) (fun _ s'=>∃ σ' H',Inv X pins σ' H' s'∧Q σ' H') X.xe s
abbrev TSet:=V→V→V→Hp→(Hp→Prop)→Prop
def PSet (X : Cx) (t : TSet) : Prop :=
  ∀ (pins : List (Addr × Obj)) (s : Shared) (σ : St) (H : Hp) (o i v : V) (ov iv u : Value) (Q : Hp→Prop),Inv X pins σ H s→RelV o ov→RelV i iv→RelV v u→t o i v H Q →
    wpAny (model X.prog X.w) X.A (setItem ov iv u) (fun _ s'=>∃ H',Inv X pins σ H' s'∧Q H') X.xe s
section
variable {X : Cx} {pos : Pos}
def gName (i : Nat) : TG:=fun v σ H Q=>Q (σ.set i (some v)) H
theorem pg_name {i : Nat} {x : Str} (hN : X.N.Nodup) (hi : X.N[i]? = some x) (hx : Loc X.env.scope x) (hf : X.fn x = true∨X.env.scope.names.lookup x = some .local:=by first | exact .inl rfl | exact .inr rfl | assumption) : PG X (.Name x pos) (gName i):=by
  intro pins s σ H v u Q I r h
  exact wpAny_assign_Name (store_ok I hN hi hx r (fun s' I'=>⟨_,H,I',h⟩) hf)
def gNil : TGs:=fun vs σ H Q=>vs = []∧Q σ H
def gCons (t : TG) (u : TGs) : TGs:=fun vs σ H Q=>∃ v r,vs = v :: r∧t v σ H fun σ' H'=>u r σ' H' Q
theorem pgs_nil : PGs X [] gNil:=by
  intro pins s σ H vs us Q I r h
  obtain ⟨e,h⟩:=h
  subst e
  cases r
  exact assignInOrder_nil ⟨σ,H,I,h⟩
theorem pgs_cons {e : Expr} {es : List Expr} {t : TG} {u : TGs} (h1 : PG X e t) (h2 : PGs X es u)
    (hs : (assignEach (e :: es) X.env).map (·.2) = assign e X.env :: (assignEach es X.env).map (·.2):=by rfl) : PGs X (e :: es) (gCons t u):=by
  intro pins s σ H vs us Q I r h
  obtain ⟨v,vr,e1,h⟩:=h
  subst e1
  cases r with
  | cons r rr =>
    rw [hs]
    refine assignInOrder_cons (thn (h1 pins s σ H _ _ _ I r h) fun _ s1 ⟨σ1,H1,I1,q1⟩=>?_)
    exact h2 pins s1 σ1 H1 _ _ Q I1 rr q1
def gTup (K : PySem.W.Frag) (n : Nat) (t : TGs) : TG:=fun v σ H Q=>∃ a xs,v = .ref a∧SqT K H a xs∧xs.length = n∧t xs σ H Q
theorem pg_tup {es : List Expr} {k : Nat} {t : TGs} {n : Nat} (hc : X.calm = true) (h : PGs X es t)
    (hn : (assignEach es X.env).length = n:=by rfl) (hst : (assignEach es X.env).findIdx? (·.1) = none:=by rfl) : PG X (.Tuple es k pos) (gTup X.K n t):=by
  intro pins s σ H v u Q I r hw
  obtain ⟨a,xs,e1,hq,hl,hw⟩:=hw
  subst e1
  cases r
  obtain ⟨its,rv,ht,hz⟩:=I.tuple hq
  refine assign_Tuple_tuple (I.ok.hd hc) ht (by simp [hn,← hl,rv.length]) hst fun h' hx=>?_
  have I1 : Inv X pins σ H { s with heap:=h' }:=I.kept (t':=s.toks) fun b o e=>hx b o (Nat.ne_of_lt (Heap.lt_size e)) e
  exact h pins _ σ H xs _ Q I1 (by simpa using rv) hw
def gSub (to ti : TE) (t : TSet) : TG:=fun v σ H Q=>to σ H fun o H1=>ti σ H1 fun i H2=>t o i v H2 fun H3=>Q σ H3
theorem pg_sub {o i : Expr} {to ti : TE} {t : TSet} (ho : PE X o to) (hi : PE X i ti) (hs : PSet X t)
    (ha : ∀ v,assign (.Subscript o i pos) X.env v = (do
      let ov ← holding [v] (eval o X.env)
      let iv ← holding [v,ov] (eval i X.env)
      standAt pos
      holding [v,ov,iv] (setItem ov iv v)
      release [v,ov,iv] []):=by intro _;rfl) : PG X (.Subscript o i pos) (gSub to ti t):=by
  intro pins s σ H v u Q I r h
  rw [ha]
  refine wpAny_bind (wpAny_holding (thn (ho pins s σ H _ I h) fun ov s1 ⟨x,H1,I1,r1,q1⟩=>?_))
  refine wpAny_bind (wpAny_holding (thn (hi pins s1 σ H1 _ I1 q1) fun iv s2 ⟨y,H2,I2,r2,q2⟩=>?_))
  refine wpAny_bind (wpAny_standAt (wpAny_bind (wpAny_holding (thn (hs pins s2 σ H2 x y v ov iv u _ I2 r1 r2 r q2) fun _ s3 ⟨H3,I3,q3⟩=>?_))))
  exact wpAny_release ⟨σ,H3,I3,q3⟩
def tAsg (te : TE) (g : TG) : TS:=fun D σ H=>te σ H fun x H1=>g x σ H1 D.nx
theorem ps_asg {tg e : Expr} {te : TE} {g : TG} (he : PE X e te) (hg : PG X tg g) (hs : swapsWithSole [tg] e pos.line X.env = pure false:=by rfl) (hw : swappedStores [tg] e X.env = pure none:=by rfl)
    (h1 : (assignEach [tg] X.env).map (·.2) = [assign tg X.env]:=by rfl) : PS X (.Assign [tg] e pos) (tAsg te g):=.mk <| by
  intro pins s σ H D I h
  refine wpAny_Assign_stores (thn (he pins s σ H _ I h) fun v s1 ⟨x,H1,I1,r1,q1⟩=>?_) hs hw
  rw [h1]
  exact thn (hg pins s1 σ H1 x v _ I1 r1 q1) fun _ s2 q=>q
theorem ps_set {i : Nat} {x : Str} {e : Expr} {te : TE} {pos' : Pos} (hN : X.N.Nodup) (hi : X.N[i]? = some x) (hx : Loc X.env.scope x) (he : PE X e te) (hs : swapsWith e (some (.Name x pos')) pos.line X.env = pure false:=by rfl) (hf : X.fn x = true∨X.env.scope.names.lookup x = some .local:=by first | exact .inl rfl | exact .inr rfl | assumption) :
    PS X (.Assign [.Name x pos'] e pos) (tAsg te (gName i)):=.mk <| by
  intro pins s σ H D I h
  refine wpAny_Assign_Name (thn (he pins s σ H _ I h) fun v s1 ⟨y,H1,I1,r1,q1⟩=>?_) hs
  exact store_ok I1 hN hi hx r1 (fun s2 I2=>⟨_,H1,I2,q1⟩) hf
end
section
variable {X : Cx} {pos : Pos}
def tWhile (c : TT) (tb : TS) : TS:=fun D σ H=>∃ W : Nat→St→Hp→Prop,(∃ m,W m σ H)∧∀ m σ H,W m σ H →
  c σ H fun b H1=>if b = true then ∃ N : St→Hp→Prop,(∀ σ' H',N σ' H'→∃ m',m' < m∧W m' σ' H')∧tb { D with nx:=N,ct:=N,bk:=D.nx } σ H1 else D.nx σ H1
theorem ps_while {c : Expr} {body : List Stmt} {tc : TT} {tb : TS} (hp : PassesOwn (model X.prog X.w) X.A X.env X.xe) (hc : PT X c tc) (hb : PSs X body tb) : PS X (.While c body [] pos) (tWhile tc tb):=.mk <| by
  intro pins s σ H D I h
  obtain ⟨W,⟨m0,w0⟩,turn⟩:=h
  refine wpAny_While (codeAny_whileLoop (fun n s'=>∃ σ' H',Inv X pins σ' H' s'∧W n σ' H') ?_ m0 ⟨σ,H,I,w0⟩)
  rintro n s1 ⟨σ1,H1,I1,w1⟩
  refine wpAny_passesOwn hp (thn (hc pins s1 σ1 H1 _ I1 (turn n σ1 H1 w1)) fun b s2 ⟨H2,I2,q2⟩=>?_)
  cases b with
  | true =>
    obtain ⟨N,hN,q2⟩:=q2
    rw [if_pos rfl]
    refine wpAny_passesOwn hp (thn (hb pins s2 σ1 H2 _ I2 q2) fun f s3 q3=>?_)
    cases f with
    | next =>
      obtain ⟨σ3,H3,I3,n3⟩:=q3
      obtain ⟨m',hm,w3⟩:=hN σ3 H3 n3
      exact ⟨m',hm,σ3,H3,I3,w3⟩
    | cont =>
      obtain ⟨σ3,H3,I3,n3⟩:=q3
      obtain ⟨m',hm,w3⟩:=hN σ3 H3 n3
      exact ⟨m',hm,σ3,H3,I3,w3⟩
    | brk=>exact q3
    | ret v=>exact q3
  | false =>
    rw [if_neg Bool.false_ne_true]
    exact wpAny_execs_nil ⟨σ1,H2,I2,q2⟩
end
structure It where
  go : Nat→Hp→Prop
  yld : Nat→Hp→V→Hp→Prop
  stop : Nat→Hp→Prop
def FpOk (X : Cx) (pins : List (Addr × Obj)) (H : Hp) (b : Addr) : Prop :=
  H b = none∧b≠X.env.locals∧b ∉ X.fs∧(b∈X.ex∨X.s₀.heap.objs.size≤b)∧(∀ x c,X.env.cells.lookup x = some c→c≠b)∧∀ p∈X.pn ++ pins,p.1≠b
theorem Inv.fpOk {X : Cx} {pins : List (Addr × Obj)} {σ : St} {H H' : Hp} {s : Shared} {b : Addr} (I : Inv X pins σ H s) (hb : s.heap.objs.size≤b) (hn : H' b = none) : FpOk X pins H' b:=by
  refine ⟨hn,Nat.ne_of_gt (Nat.lt_of_lt_of_le I.lt hb),I.nofs hb,.inr (Nat.le_trans I.sz hb),fun x c e z=>?_,fun p hp z=>?_⟩
  · obtain ⟨v,q⟩:=I.cell x c e
    exact absurd (Nat.lt_of_lt_of_le q.lt (by rw [z];exact hb)) (Nat.lt_irrefl _)
  · exact absurd (Nat.lt_of_lt_of_le (Heap.lt_size (I.pin p hp).1) (by rw [z];exact hb)) (Nat.lt_irrefl _)
structure Turn (P : Program) (w : World) (K : PySem.W.Frag) (tg : Expr) (J : It) (fp : List Addr) (it : Addr) (tn : Nat→Heap→Prop) : Prop where
  mem : it∈fp
  obj : ∀ i h,tn i h→∀ b∈fp,∃ o,h.get? b = some o∧∀ v,o.data≠.cell v
  keep : ∀ i h h',tn i h→(∀ b∈fp,∀ o,h.get? b = some o→h'.get? b = some o)→tn i h'
  item : ∀ (X : Cx),X.prog = P→X.w = w→X.K = K→X.calm = true→∀ (i : Nat) (pins : List (Addr × Obj)) (s : Shared) (σ : St) (H : Hp) (E : Value→Shared→Prop),Inv X pins σ H s→(∀ b∈fp,FpOk X pins H b)→tn i s.heap→J.go i H →
    wpAny (model P w) X.A (pyNext (.ref it)) (fun r s1=>∃ u,r = some u ∧
      wpAny (model P w) X.A (letOwnedTupleGo tg (.ref it) u) (fun _ s2=>∃ x H',Inv X pins σ H' s2∧RelV x u∧J.yld i H x H'∧tn (i + 1) s2.heap∧∀ b∈fp,H' b = none) E s1) E s
  done : ∀ (X : Cx),X.prog = P→X.w = w→X.K = K→X.calm = true→∀ (i : Nat) (pins : List (Addr × Obj)) (s : Shared) (σ : St) (H : Hp) (E : Value→Shared→Prop),Inv X pins σ H s→(∀ b∈fp,FpOk X pins H b)→tn i s.heap→J.stop i H →
    wpAny (model P w) X.A (pyNext (.ref it)) (fun r s1=>r = none∧Inv X pins σ H s1) E s
  self : ∀ (A : Around) (i : Nat) (s : Shared) (Q : Value→Shared→Prop) (E : Value→Shared→Prop),tn i s.heap→Q (.ref it) s→wpAny (model P w) A (pyIter (.ref it)) Q E s
abbrev TI:=St→Hp→(It→Hp→Prop)→Prop
def PIE (X : Cx) (pins : List (Addr × Obj)) (σ : St) (tg : Expr) (R : It→Hp→Prop) (itv : Value) (s2 : Shared) : Prop :=
  ∃ (it : Addr) (fp : List Addr) (tn : Nat→Heap→Prop) (J : It) (H' : Hp),itv = .ref it∧Inv X pins σ H' s2∧Turn X.prog X.w X.K tg J fp it tn∧tn 0 s2.heap∧(∀ b∈fp,FpOk X pins H' b)∧R J H'
def PI (X : Cx) (tg iter : Expr) (wi : TI) : Prop :=
  ∀ (pins : List (Addr × Obj)) (s : Shared) (σ : St) (H : Hp) (R : It→Hp→Prop),Inv X pins σ H s→wi σ H R →
    wpAny (model X.prog X.w) X.A (eval iter X.env) (fun v s1=>wpAny (model X.prog X.w) X.A (pyIter v) (PIE X pins σ tg R) X.xe s1) X.xe s
theorem go_of {M : Model} {A : Around} {E : Value→Shared→Prop} {s : Shared} {tg : Expr} {it : Addr} {u : Value} {o : Obj} {n : String} {vs : Array Value} {Q : Unit→Shared→Prop} (ho : s.heap.get? it = some o) (hc : o.cls = .type n) (hd : o.data = .fields vs)
    (hn : ["enumerate","zip","dict_itemiterator","dict_reverseitemiterator","odict_iterator","itertools.zip_longest","itertools.pairwise"].contains n = false) (hQ : Q () s) : wpAny M A (letOwnedTupleGo tg (.ref it) u) Q E s:=by
  unfold letOwnedTupleGo
  cases tg<;>first
    | exact wpAny_pure hQ
    | (cases u<;>first
        | exact wpAny_pure hQ
        | (refine wpAny_bind (wpAny_load ho ?_)
           rw [hc,hd]
           show wpAny M A (if (["enumerate","zip","dict_itemiterator","dict_reverseitemiterator","odict_iterator","itertools.zip_longest","itertools.pairwise"].contains n && vs[0]? == some (rawInt _)) = true then _ else _) Q E s
           rw [if_neg (by intro h;rw [hn,Bool.false_and] at h;cases h)]
           exact wpAny_pure hQ))
def Itl (K : PySem.W.Frag) (a : Addr) : It :=
  ⟨fun i H=>∃ xs x,SqL K H a xs∧xs[i]? = some x,fun i H x H'=>H' = H∧∀ xs,SqL K H a xs→xs[i]? = some x,fun i H=>∃ xs,SqL K H a xs∧xs.length≤i⟩
def Itt (K : PySem.W.Frag) (a : Addr) : It :=
  ⟨fun i H=>∃ xs x,SqT K H a xs∧xs[i]? = some x,fun i H x H'=>H' = H∧∀ xs,SqT K H a xs→xs[i]? = some x,fun i H=>∃ xs,SqT K H a xs∧xs.length≤i⟩
def Itr (lo : Int) (n : Nat) : It:=⟨fun i _=>i < n,fun i H x H'=>H' = H∧x = .int (lo + i),fun i _=>n≤i⟩
theorem turn_list {P : Program} {w : World} {K : PySem.W.Frag} {tg : Expr} (a it : Addr) : Turn P w K tg (Itl K a) [it] it (fun i h=>h.IsListIter it a i) where
  mem:=by simp
  obj:=fun i h st b hb=>by
    have e : b = it:=by simpa using hb
    subst e
    obtain ⟨o,e,c,d⟩:=st
    exact ⟨o,e,fun v z=>by rw [d] at z;cases z⟩
  keep:=fun i h h' st k=>st.at fun o e=>k it (by simp) o e
  item:=by
    intro X hP hw hK hc i pins s σ H E I hf st hg
    subst hP hw hK
    obtain ⟨xs,x,hq,hx⟩:=hg
    obtain ⟨its,rv,p,hz⟩:=I.list hq
    obtain ⟨u,hu,ru⟩:=rv.get hx
    obtain ⟨f0,f1,f2,f3,f4,f5⟩:=hf it (by simp)
    refine wpAny_pyNext_list_item st p.isList (x:=u) (by simpa using hu) fun h' st' sb=>?_
    have I1 : Inv X pins σ H { s with heap:=h' }:=I.turned (t':=s.toks) (fun b o hb e=>(sb.2 b hb).trans e) f0 f1 f3 f4 f5
    obtain ⟨o,e,c,d⟩:=id st'
    exact ⟨u,rfl,go_of (s:={ s with heap:=h' }) e c d (by decide) ⟨x,H,I1,ru,⟨rfl,fun ys hy=>by rw [I.list_inj hy hq];exact hx⟩,st',fun b hb=>(hf b hb).1⟩⟩
  done:=by
    intro X hP hw hK hc i pins s σ H E I hf st hg
    subst hP hw hK
    obtain ⟨xs,hq,hx⟩:=hg
    obtain ⟨its,rv,p,hz⟩:=I.list hq
    obtain ⟨f0,f1,f2,f3,f4,f5⟩:=hf it (by simp)
    have hl:=rv.length
    exact wpAny_pyNext_list_end (I.ok.hd hc) st p.isList (by simp;omega) fun h' eb=>⟨rfl,I.turned (t':=s.toks) (fun b o hb e=>eb b o hb e) f0 f1 f3 f4 f5⟩
  self:=fun _ _ _ _ _ st h=>wpAny_pyIter_listiter st h
theorem turn_tuple {P : Program} {w : World} {K : PySem.W.Frag} {tg : Expr} (a it : Addr) : Turn P w K tg (Itt K a) [it] it (fun i h=>h.IsTupleIter it a i) where
  mem:=by simp
  obj:=fun i h st b hb=>by
    have e : b = it:=by simpa using hb
    subst e
    obtain ⟨o,e,c,d⟩:=st
    exact ⟨o,e,fun v z=>by rw [d] at z;cases z⟩
  keep:=fun i h h' st k=>st.at fun o e=>k it (by simp) o e
  item:=by
    intro X hP hw hK hc i pins s σ H E I hf st hg
    subst hP hw hK
    obtain ⟨xs,x,hq,hx⟩:=hg
    obtain ⟨its,rv,p,hz⟩:=I.tuple hq
    obtain ⟨u,hu,ru⟩:=rv.get hx
    obtain ⟨f0,f1,f2,f3,f4,f5⟩:=hf it (by simp)
    refine wpAny_pyNext_tuple_item st (show s.heap.IsTuple a its.toArray from p) (x:=u) (by simpa using hu) fun h' st' sb=>?_
    have I1 : Inv X pins σ H { s with heap:=h' }:=I.turned (t':=s.toks) (fun b o hb e=>(sb.2 b hb).trans e) f0 f1 f3 f4 f5
    obtain ⟨o,e,c,d⟩:=id st'
    exact ⟨u,rfl,go_of (s:={ s with heap:=h' }) e c d (by decide) ⟨x,H,I1,ru,⟨rfl,fun ys hy=>by rw [I.tuple_inj hy hq];exact hx⟩,st',fun b hb=>(hf b hb).1⟩⟩
  done:=by
    intro X hP hw hK hc i pins s σ H E I hf st hg
    subst hP hw hK
    obtain ⟨xs,hq,hx⟩:=hg
    obtain ⟨its,rv,p,hz⟩:=I.tuple hq
    obtain ⟨f0,f1,f2,f3,f4,f5⟩:=hf it (by simp)
    have hl:=rv.length
    exact wpAny_pyNext_tuple_end (I.ok.hd hc) st (show s.heap.IsTuple a its.toArray from p) (by simp;omega) fun h' eb=>⟨rfl,I.turned (t':=s.toks) (fun b o hb e=>eb b o hb e) f0 f1 f3 f4 f5⟩
  self:=fun _ _ _ _ _ st h=>wpAny_pyIter_tupleiter st h
theorem turn_range {P : Program} {w : World} {K : PySem.W.Frag} {tg : Expr} (it : Addr) (lo : Int) (n : Nat) : Turn P w K tg (Itr lo n) [it] it (fun i h=>IsRangeIter h it (lo + (i : Nat) * 1) ((n : Int) - (i : Nat)) 1) where
  mem:=by simp
  obj:=fun i h st b hb=>by
    have e : b = it:=by simpa using hb
    subst e
    exact ⟨_,st,fun v z=>by
      have z' : Data.fields _ = Data.cell v:=z
      cases z'⟩
  keep:=fun i h h' st k=>k it (by simp) _ st
  item:=by
    intro X hP hw hK hc i pins s σ H E I hf st hg
    subst hP hw hK
    obtain ⟨f0,f1,f2,f3,f4,f5⟩:=hf it (by simp)
    have W:=Walks.range (prog:=X.prog) (w:=X.w) (I.ok.hd hc) it lo 1 n
    refine W.item i s _ _ hg st fun v h' tk hv st' kk=>?_
    obtain ⟨t,rfl⟩:=hv
    have I1 : Inv X pins σ H { s with heap:=h',toks:=tk }:=I.turned (fun b o hb e=>kk b o (by simpa using hb) e) f0 f1 f3 f4 f5
    refine ⟨_,rfl,go_of (s:={ s with heap:=h',toks:=tk }) (n:="range_iterator") st' rfl rfl (by decide) ⟨.int (lo + i),H,I1,⟨t,?_⟩,⟨rfl,rfl⟩,st',fun b hb=>(hf b hb).1⟩⟩
    rw [Int.mul_one]
  done:=by
    intro X hP hw hK hc i pins s σ H E I hf st hg
    subst hP hw hK
    obtain ⟨f0,f1,f2,f3,f4,f5⟩:=hf it (by simp)
    exact wpAny_pyNext_range_end (I.ok.hd hc) st (by have : n≤i:=hg;omega) fun h' eb=>⟨rfl,I.turned (t':=s.toks) (fun b o hb e=>eb b o hb e) f0 f1 f3 f4 f5⟩
  self:=fun _ _ _ _ _ st h=>wpAny_pyIter_rangeiter st h
section
variable {X : Cx} {tg : Expr}
theorem range_it {pins : List (Addr × Obj)} {σ : St} {H : Hp} {s : Shared} {R : It→Hp→Prop} {E : Value→Shared→Prop} {lo hi : Int} {t u v : Tok} {tk : Nat} (I : Inv X pins σ H s) (h1 : -(2 ^ 62)≤lo) (h2 : lo < 2 ^ 62) (h3 : -(2 ^ 62)≤hi) (h4 : hi < 2 ^ 62)
    (q : R (Itr lo (hi - lo).toNat) H) : wpAny (model X.prog X.w) X.A (pyIter (.ref s.heap.objs.size)) (PIE X pins σ tg R) E { s with heap:=s.heap.push { cls:=.type "range",data:=.fields #[.int lo t,.int hi u,.int 1 v] },toks:=tk }:=by
  refine wpAny_pyIter_range (IsRange.new ..) (small_one h1 h2 h3 h4) ?_
  have I1 : Inv X pins σ H { s with heap:=s.heap.push { cls:=.type "range",data:=.fields #[.int lo t,.int hi u,.int 1 v] },toks:=tk }:=I.kept fun b o e=>Heap.get?_push_of_some _ e
  refine ⟨(s.heap.push { cls:=.type "range",data:=.fields #[.int lo t,.int hi u,.int 1 v] }).objs.size,[(s.heap.push { cls:=.type "range",data:=.fields #[.int lo t,.int hi u,.int 1 v] }).objs.size],_,_,H,rfl,
    I1.kept (t':=tk) fun b o e=>Heap.get?_push_of_some _ e,turn_range _ lo (hi - lo).toNat,?_,fun b hb=>?_,q⟩
  · have e1 : lo + ((0 : Nat) : Int) * 1 = lo:=by simp
    have e2 : (((hi - lo).toNat : Nat) : Int) - ((0 : Nat) : Int) = Builtin.Range.rangeSize lo hi 1:=by rw [rangeSize_one];split<;>omega
    show IsRangeIter _ _ (lo + ((0 : Nat) : Int) * 1) ((((hi - lo).toNat : Nat) : Int) - ((0 : Nat) : Int)) 1
    rw [e1,e2]
    exact Heap.get?_push_size _ rfl
  · have e : b = (s.heap.push { cls:=.type "range",data:=.fields #[.int lo t,.int hi u,.int 1 v] }).objs.size:=by simpa using hb
    subst e
    exact I1.fpOk (Nat.le_refl _) (I1.hok.fresh (Nat.le_refl _))
def iRng1 (ta : TA) : TI:=fun σ H R=>ta σ H fun vs H1=>∃ j : Int,vs = [.int j]∧-(2 ^ 62)≤j∧j < 2 ^ 62∧R (Itr 0 j.toNat) H1
theorem pi_range1 {a : Expr} {ta : TA} {p pos : Pos} (hg : Gl X "range") (hm : X.mg "range" = none) (ha : PA X [a] ta) (hs : starEach [a] X.env = [(false,eval a X.env)]:=by rfl) : PI X tg (.Call (.Name "range" p) [a] [] pos) (iRng1 ta):=by
  intro pins s σ H R I h
  refine Call_ (ld_blt I hg hm boot_range (PyProof.Rows.callWith_type1 (thn (ha pos pins s σ H _ I h) fun us s1 ⟨vs,H1,I1,r1,q1⟩=>?_) hs rfl))
  obtain ⟨j,e,q1,q2,q⟩:=q1
  subst e
  cases r1 with
  | cons r rr =>
    cases rr
    obtain ⟨t,rfl⟩:=r
    exact call_range_1 (range_it I1 (by omega) (by omega) q1 q2 (by simpa using q))
def tFor (wi : TI) (g : TG) (tb : TS) : TS:=fun D σ H=>wi σ H fun J H1=>∃ W : Nat→Nat→St→Hp→Prop,(∃ m,W 0 m σ H1)∧∀ i m σ H,W i m σ H →
  (J.stop i H∧D.nx σ H)∨(J.go i H∧∃ N : St→Hp→Prop,(∀ σ' H',N σ' H'→∃ m',m' < m∧W (i + 1) m' σ' H')∧∀ x H',J.yld i H x H'→g x σ H' fun σ2 H2=>tb { D with nx:=N,ct:=N,bk:=D.nx } σ2 H2)
def pinsAt (fp : List Addr) (h : Heap) : List (Addr × Obj):=fp.filterMap fun b=>(h.get? b).map fun o=>(b,o)
theorem mem_pinsAt {fp : List Addr} {h : Heap} {b : Addr} {o : Obj} (hb : b∈fp) (e : h.get? b = some o) : (b,o)∈pinsAt fp h:=List.mem_filterMap.mpr ⟨b,hb,by rw [e];rfl⟩
theorem of_pinsAt {fp : List Addr} {h : Heap} {p : Addr × Obj} (hp : p∈pinsAt fp h) : p.1∈fp∧h.get? p.1 = some p.2:=by
  obtain ⟨b,hb,e⟩:=List.mem_filterMap.mp hp
  cases q : h.get? b with
  | none=>rw [q] at e;cases e
  | some o =>
    rw [q] at e
    have e' : (b,o) = p:=Option.some.inj e
    subst e'
    exact ⟨hb,q⟩
theorem Inv.pinned {pins : List (Addr × Obj)} {σ : St} {H : Hp} {s : Shared} {fp : List Addr} (I : Inv X pins σ H s) (hf : ∀ b∈fp,FpOk X pins H b) (ho : ∀ b∈fp,∃ o,s.heap.get? b = some o∧∀ v,o.data≠.cell v) : Inv X (pins ++ pinsAt fp s.heap) σ H s :=
  I.pins_of fun p hp=>(List.mem_append.mp hp).elim (fun z=>I.pin p (List.mem_append_right _ z)) fun z=>by
    obtain ⟨hb,e⟩:=of_pinsAt z
    obtain ⟨f0,f1,f2,_⟩:=hf p.1 hb
    obtain ⟨o,e',d⟩:=ho p.1 hb
    rw [e] at e';cases e'
    exact ⟨e,f0,f1,f2,d⟩
theorem Inv.unpinned {pins pl : List (Addr × Obj)} {σ : St} {H : Hp} {s : Shared} (I : Inv X (pins ++ pl) σ H s) : Inv X pins σ H s:=I.pins_of fun p hp=>I.pin p (List.mem_append_right _ (List.mem_append_left _ hp))
theorem ps_for {iter : Expr} {body : List Stmt} {wi : TI} {g : TG} {tb : TS} {pos : Pos} (hp : PassesOwn (model X.prog X.w) X.A X.env X.xe) (hc : X.calm = true) (hi : PI X tg iter wi) (hg : PG X tg g) (hb : PSs X body tb)
    (hs : ∀ x,foldedSetIterable iter X.env x = pure x:=by intro _;rfl) : PS X (.For tg iter body [] pos) (tFor wi g tb):=.mk <| by
  intro pins s σ H D I h
  refine wpAny_For (thn (hi pins s σ H _ I h) fun v s1 h1=>thn h1 fun itv s2 h2=>?_) hs
  obtain ⟨it,fp,tn,J,H2,e,I2,T,st2,f2,W,⟨m0,w0⟩,turn⟩:=h2
  subst e
  have stat : ∀ {H' : Hp},(∀ b∈fp,H' b = none)→∀ b∈fp,FpOk X pins H' b:=fun hn b hb=>⟨hn b hb,(f2 b hb).2⟩
  refine codeAny_forLoop_any (fun n s'=>∃ i σ' H',Inv X pins σ' H' s'∧tn i s'.heap∧(∀ b∈fp,H' b = none)∧W i n σ' H') ?_ m0 ⟨0,σ,H2,I2,st2,fun b hb=>(f2 b hb).1,w0⟩
  rintro n s3 ⟨i,σ3,H3,I3,st3,fr3,w3⟩
  rcases turn i n σ3 H3 w3 with ⟨stop,qn⟩ | ⟨go,N,hN,step⟩
  · refine wpAny_passesOwn hp (thn (T.done X rfl rfl rfl hc i pins s3 σ3 H3 X.xe I3 (stat fr3) st3 stop) fun r s4 ⟨hr,I4⟩=>?_)
    subst hr
    exact wpAny_execs_nil ⟨σ3,H3,I4,qn⟩
  · refine wpAny_passesOwn hp (thn (T.item X rfl rfl rfl hc i pins s3 σ3 H3 X.xe I3 (stat fr3) st3 go) fun r s4 ⟨u,hr,h4⟩=>?_)
    subst hr
    refine wpAny_passesOwn hp (thn h4 fun _ s5 ⟨x,H5,I5,r5,y5,st5,fr5⟩=>?_)
    have I5':=I5.pinned (stat fr5) (T.obj _ _ st5)
    refine wpAny_passesOwn hp (thn (hg _ s5 σ3 H5 x u _ I5' r5 (step x H5 y5)) fun _ s6 ⟨σ6,H6,I6,q6⟩=>?_)
    refine wpAny_passesOwn hp (thn (hb _ s6 σ6 H6 _ I6 q6) fun f s7 q7=>?_)
    have again : ∀ {σ7 : St} {H7 : Hp},Inv X (pins ++ pinsAt fp s5.heap) σ7 H7 s7→N σ7 H7→∃ m,m < n∧∃ i σ' H',Inv X pins σ' H' s7∧tn i s7.heap∧(∀ b∈fp,H' b = none)∧W i m σ' H':=fun {σ7 H7} I7 n7=>by
      obtain ⟨m',hm,w7⟩:=hN σ7 H7 n7
      refine ⟨m',hm,i + 1,σ7,H7,I7.unpinned,T.keep _ _ _ st5 fun b hb o e=>(I7.pin (b,o) (List.mem_append_right _ (List.mem_append_right _ (mem_pinsAt hb e)))).1,fun b hb=>?_,w7⟩
      obtain ⟨o,e,d⟩:=T.obj _ _ st5 b hb
      exact (I7.pin (b,o) (List.mem_append_right _ (List.mem_append_right _ (mem_pinsAt hb e)))).2.1
    cases f with
    | next=>obtain ⟨σ7,H7,I7,n7⟩:=q7;exact again I7 n7
    | cont=>obtain ⟨σ7,H7,I7,n7⟩:=q7;exact again I7 n7
    | brk=>obtain ⟨σ7,H7,I7,q7⟩:=q7;exact ⟨σ7,H7,I7.unpinned,q7⟩
    | ret v=>obtain ⟨x7,σ7,H7,I7,r7,q7⟩:=q7;exact ⟨x7,σ7,H7,I7.unpinned,r7,q7⟩
end
abbrev R2:=V→V→Hp→VK→Prop
def OpR (X : Cx) (f : Value→Value→Sem Value) (r : R2) : Prop :=
  ∀ (pins : List (Addr × Obj)) (s : Shared) (σ : St) (H : Hp) (x y : V) (v u : Value) (Q : VK),Inv X pins σ H s→RelV x v→RelV y u→r x y H Q →
    wpAny (model X.prog X.w) X.A (f v u) (EP X pins σ Q) X.xe s
def UnR (X : Cx) (f : Value→Sem Value) (r : V→Hp→VK→Prop) : Prop :=
  ∀ (pins : List (Addr × Obj)) (s : Shared) (σ : St) (H : Hp) (x : V) (v : Value) (Q : VK),Inv X pins σ H s→RelV x v→r x H Q →
    wpAny (model X.prog X.w) X.A (f v) (EP X pins σ Q) X.xe s
def CallR (X : Cx) (f : Value) (r : List V→Hp→VK→Prop) : Prop :=
  ∀ (pins : List (Addr × Obj)) (s : Shared) (σ : St) (H : Hp) (xs : List V) (us : List Value) (Q : VK),Inv X pins σ H s→Vals xs us→r xs H Q →
    wpAny (model X.prog X.w) X.A (call f us) (EP X pins σ Q) X.xe s
def TruR (X : Cx) (r : V→Hp→(Bool→Hp→Prop)→Prop) : Prop :=
  ∀ (pins : List (Addr × Obj)) (s : Shared) (σ : St) (H : Hp) (x : V) (v : Value) (Q : Bool→Hp→Prop),Inv X pins σ H s→RelV x v→r x H Q →
    wpAny (model X.prog X.w) X.A (truthy v) (TP X pins σ Q) X.xe s
def tOp (r : R2) (ta tb : TE) : TE:=fun σ H Q=>ta σ H fun x H1=>tb σ H1 fun y H2=>r x y H2 Q
def tUn (r : V→Hp→VK→Prop) (ta : TE) : TE:=fun σ H Q=>ta σ H fun x H1=>r x H1 Q
def rI (C : Int→Int→Prop) (g : Int→Int→V) : R2:=fun x y H Q=>∃ i j,x = .int i∧y = .int j∧C i j∧Q (g i j) H
def rI0 (g : Int→Int→V) : R2:=fun x y H Q=>∃ i j,x = .int i∧y = .int j∧Q (g i j) H
def rU (g : Int→V) : V→Hp→VK→Prop:=fun x H Q=>∃ i,x = .int i∧Q (g i) H
section
variable {X : Cx} {a b c : Expr} {ta tb tc : TE} {pos : Pos}
theorem binT (ha : PE X a ta) (hb : PE X b tb) {pins : List (Addr × Obj)} {s : Shared} {σ : St} {H : Hp} {R : V→V→Hp→Prop} (I : Inv X pins σ H s)
    (h : ta σ H fun x H1=>tb σ H1 fun y H2=>R x y H2) {Q : Value→Shared→Prop} {f : Value→Value→Sem Value}
    (hf : ∀ v u s2 x y H2,Inv X pins σ H2 s2→RelV x v→RelV y u→R x y H2→wpAny (model X.prog X.w) X.A (f v u) Q X.xe s2) :
    wpAny (model X.prog X.w) X.A (eval a X.env) (fun v s₁=>wpAny (model X.prog X.w) X.A (eval b X.env) (fun u s₂=>wpAny (model X.prog X.w) X.A (f v u) Q X.xe s₂) X.xe s₁) X.xe s:=by
  refine thn (ha pins s σ H _ I h) fun v s1 ⟨x,H1,I1,r1,q1⟩=>?_
  refine thn (hb pins s1 σ H1 _ I1 q1) fun u s2 ⟨y,H2,I2,r2,q2⟩=>?_
  exact hf v u s2 x y H2 I2 r1 r2 q2
theorem pe_op {op : Operator} {r : R2} (ho : OpR X (binaryOp op) r) (ha : PE X a ta) (hb : PE X b tb) : PE X (.BinOp a op b pos) (tOp r ta tb):=.mk <| by
  intro pins s σ H Q I h
  exact wpAny_BinOp (binT ha hb I h fun v u s2 x y H2 I2 rx ry q=>ho pins s2 σ H2 x y v u Q I2 rx ry q)
theorem pe_un {op : UnaryOp} {r : V→Hp→VK→Prop} (ho : UnR X (unaryOp op) r) (ha : PE X a ta) : PE X (.UnaryOp op a pos) (tUn r ta):=.mk <| by
  intro pins s σ H Q I h
  exact UnaryOp_ (thn (ha pins s σ H _ I h) fun v s1 ⟨x,H1,I1,r1,q1⟩=>ho pins s1 σ H1 x v Q I1 r1 q1)
theorem opI {f : Value→Value→Sem Value} {C : Int→Int→Prop} {g : Int→Int→Int}
    (rule : ∀ (i j : Int) (t u : Tok) (s : Shared) (Q : Value→Shared→Prop) (E : Value→Shared→Prop),C i j→Q (.int (g i j) s.toks) { s with toks:=s.toks + 1 }→wpAny (model X.prog X.w) X.A (f (.int i t) (.int j u)) Q E s) :
    OpR X f (rI C fun i j=>.int (g i j)):=by
  intro pins s σ H x y v u Q I rx ry h
  obtain ⟨i,j,rfl,rfl,hc,q⟩:=h
  obtain ⟨t,rfl⟩:=rx
  obtain ⟨t',rfl⟩:=ry
  exact rule i j t t' s _ _ hc ⟨.int (g i j),H,I.tok _,⟨_,rfl⟩,q⟩
theorem opI0 {f : Value→Value→Sem Value} {g : Int→Int→Int}
    (rule : ∀ (i j : Int) (t u : Tok) (s : Shared) (Q : Value→Shared→Prop) (E : Value→Shared→Prop),Q (.int (g i j) s.toks) { s with toks:=s.toks + 1 }→wpAny (model X.prog X.w) X.A (f (.int i t) (.int j u)) Q E s) :
    OpR X f (rI0 fun i j=>.int (g i j)):=by
  intro pins s σ H x y v u Q I rx ry h
  obtain ⟨i,j,rfl,rfl,q⟩:=h
  obtain ⟨t,rfl⟩:=rx
  obtain ⟨t',rfl⟩:=ry
  exact rule i j t t' s _ _ ⟨.int (g i j),H,I.tok _,⟨_,rfl⟩,q⟩
theorem opB0 {f : Value→Value→Sem Value} {g : Int→Int→Bool}
    (rule : ∀ (i j : Int) (t u : Tok) (s : Shared) (Q : Value→Shared→Prop) (E : Value→Shared→Prop),Q (.bool (g i j)) s→wpAny (model X.prog X.w) X.A (f (.int i t) (.int j u)) Q E s) :
    OpR X f (rI0 fun i j=>.bl (g i j)):=by
  intro pins s σ H x y v u Q I rx ry h
  obtain ⟨i,j,rfl,rfl,q⟩:=h
  obtain ⟨t,rfl⟩:=rx
  obtain ⟨t',rfl⟩:=ry
  exact rule i j t t' s _ _ ⟨.bl (g i j),H,I,rfl,q⟩
def CDiv (i j : Int) : Prop:=0 < j∧j < 1073741824
def CPow (i j : Int) : Prop:=0≤j∧j≤1000000∧i.natAbs < 2 ^ 64
def CMul (i j : Int) : Prop:=(-(2 ^ 64) < i∧i < 2 ^ 64)∨(-(2 ^ 64) < j∧j < 2 ^ 64)
theorem CMul.ok {i j : Int} (h : CMul i j) : IntMulOk i j:=by
  rcases h with ⟨h1,h2⟩ | ⟨h1,h2⟩
  · exact .of_left (intBits_le_64 h1 h2)
  · exact .of_right (intBits_le_64 h1 h2)
theorem op_add : OpR X (binaryOp .Add) (rI0 fun i j=>.int (i + j)):=opI0 fun _ _ _ _ _ _ _ q=>add_int q
theorem op_sub : OpR X (binaryOp .Sub) (rI0 fun i j=>.int (i - j)):=opI0 fun _ _ _ _ _ _ _ q=>sub_int q
theorem op_mul : OpR X (binaryOp .Mult) (rI CMul fun i j=>.int (i * j)):=opI fun _ _ _ _ _ _ _ hc q=>mul_int q hc.ok
theorem op_fdiv : OpR X (binaryOp .FloorDiv) (rI CDiv fun i j=>.int (i / j)):=opI fun i j _ _ _ _ _ hc q=>by
  have h1 : (0 : Int) < j:=hc.1
  have h2 : j < 1073741824:=hc.2
  exact floordiv_int (by omega) (by rw [Int.fdiv_eq_ediv_of_nonneg i (by omega)];exact q) (.inl (PyProof.noPylong_small (by omega)))
theorem op_mod : OpR X (binaryOp .Mod) (rI (fun _ j=>0 < j) fun i j=>.int (i % j)):=opI fun i j _ _ _ _ _ hc q=>by
  have h1 : (0 : Int) < j:=hc
  exact mod_int' (by omega) (by rw [Int.fmod_eq_emod_of_nonneg i (by omega)];exact q)
theorem op_pow : OpR X (binaryOp .Pow) (rI CPow fun i j=>.int (i ^ j.toNat)):=opI fun _ _ _ _ _ _ _ hc q=>pow_int_small hc.1 hc.2.1 hc.2.2 q
theorem op_shl : OpR X (binaryOp .LShift) (rI CPow fun i j=>.int (i * 2 ^ j.toNat)):=opI fun _ _ _ _ _ _ _ hc q=>lshift_int_small hc.1 hc.2.1 hc.2.2 q
theorem unI {f : Value→Sem Value} {g : Int→Int}
    (rule : ∀ (i : Int) (t : Tok) (s : Shared) (Q : Value→Shared→Prop) (E : Value→Shared→Prop),Q (.int (g i) s.toks) { s with toks:=s.toks + 1 }→wpAny (model X.prog X.w) X.A (f (.int i t)) Q E s) :
    UnR X f (rU fun i=>.int (g i)):=by
  intro pins s σ H x v Q I rx h
  obtain ⟨i,rfl,q⟩:=h
  obtain ⟨t,rfl⟩:=rx
  exact rule i t s _ _ ⟨.int (g i),H,I.tok _,⟨_,rfl⟩,q⟩
theorem un_neg : UnR X (unaryOp .USub) (rU fun i=>.int (-i)):=unI fun _ _ _ _ _ q=>neg_int q
end
section
variable {X : Cx} {a b c : Expr} {ta tb tc : TE} {pos : Pos}
theorem fin_bl {pins : List (Addr × Obj)} {σ : St} {H : Hp} {s : Shared} {Q : VK} {k k' : Bool} (I : Inv X pins σ H s) (q : Q (.bl k) H) (e : k = k') : EP X pins σ Q (.bool k') s:=by
  subst e
  exact ⟨.bl k,H,I,rfl,q⟩
theorem op_lt : OpR X (compareOp .Lt) (rI0 fun i j=>.bl (decide (i < j))):=opB0 fun _ _ _ _ _ _ _ q=>lt_int q
theorem op_gt : OpR X (compareOp .Gt) (rI0 fun i j=>.bl (decide (j < i))):=opB0 fun _ _ _ _ _ _ _ q=>gt_int q
theorem op_ge : OpR X (compareOp .GtE) (rI0 fun i j=>.bl (decide (j≤i))):=opB0 fun _ _ _ _ _ _ _ q=>ge_int q
theorem op_isN : OpR X (compareOp .Is) (fun x y H Q=>y = .non∧Q (.bl (decide (x = .non))) H):=by
  intro pins s σ H x y v u Q I rx ry h
  obtain ⟨rfl,q⟩:=h
  cases ry
  refine is_none_gen (fin_bl I q ?_)
  cases x<;>first
    | (cases rx;rfl)
    | (obtain ⟨t,rfl⟩:=rx;rfl)
theorem nomark (b : Expr) {op : CmpOp} (h : op≠.In:=by decide) (h2 : op≠.NotIn:=by decide) : behindInMarks op b = false:=by
  have e1 : (op == CmpOp.In) = false:=by cases op<;>first | rfl | exact absurd rfl h
  have e2 : (op == CmpOp.NotIn) = false:=by cases op<;>first | rfl | exact absurd rfl h2
  cases b<;>simp [behindInMarks,e1,e2]
theorem pe_cmpR {op : CmpOp} {r : R2} (ho : OpR X (compareOp op) r) (ha : PE X a ta) (hb : PE X b tb) (hm : behindInMarks op b = false) : PE X (.Compare a [op] [b] pos) (tOp r ta tb):=.mk <| by
  intro pins s σ H Q I h
  exact wpAny_Compare1 (binT ha hb I h fun v u s2 x y H2 I2 rx ry q=>ho pins s2 σ H2 x y v u Q I2 rx ry q) hm
def tTest (t : TE) : TT:=fun σ H Q=>t σ H fun x H'=>∃ k,x = .bl k∧Q k H'
theorem pt_cmpR {op : CmpOp} {r : R2} (ho : OpR X (compareOp op) r) (ha : PE X a ta) (hb : PE X b tb) (hm : behindInMarks op b = false) : PT X (.Compare a [op] [b] pos) (tTest (tOp r ta tb)):=by
  intro pins s σ H Q I h
  refine wpAny_isTrue_Compare1 (thn (ha pins s σ H _ I h) fun v s1 ⟨x,H1,I1,r1,q1⟩=>thn (hb pins s1 σ H1 _ I1 q1) fun u s2 ⟨y,H2,I2,r2,q2⟩ =>
    thn (ho pins s2 σ H2 x y v u _ I2 r1 r2 q2) fun c s3 ⟨z,H3,I3,r3,k,e,q3⟩=>?_) hm
  subst e
  cases r3
  exact wpAny_truthy_bool ⟨H3,I3,q3⟩
def TruV (K : PySem.W.Frag) (x : V) (H : Hp) (k : Bool) : Prop :=
  match x with
  | .non=>k = false
  | .bl b=>k = b
  | .int i=>k = (i != 0)
  | .str y=>y.length≤sizeLine∧k = ((y.length : Int) != 0)
  | .byt y=>y.size≤sizeLine∧k = ((y.size : Int) != 0)
  | .ref p=>(∃ xs,SqL K H p xs∧k = !xs.isEmpty)∨(∃ xs,SqT K H p xs∧k = !xs.isEmpty)∨∃ kvs,H p = some (.dK kvs)∧k = !kvs.isEmpty
  | _=>False
theorem isEmpty_kv {κ : Type} {kvs : List (κ × V)} {vs : List (κ × Value)} (r : KV kvs vs) : (!vs.isEmpty) = !kvs.isEmpty:=by
  cases r<;>rfl
theorem isEmpty_of {xs : List V} {its : List Value} (r : Vals xs its) : (!its.toArray.isEmpty) = !xs.isEmpty:=by
  cases r<;>simp
theorem line63 : (sizeLine : Nat) < 2 ^ 63:=by rw [sizeLine_eq];decide
theorem tru_ok : TruR X (fun x H Q=>∃ k,TruV X.K x H k∧Q k H):=by
  intro pins s σ H x v Q I rx h
  obtain ⟨k,e,q⟩:=h
  have hl:=line63
  have hs : sizeLine = 16777216:=sizeLine_eq
  cases x with
  | non =>
    cases rx
    have e' : k = false:=e
    subst e'
    exact truthy_none ⟨H,I,q⟩
  | bl b =>
    cases rx
    have e' : k = b:=e
    subst e'
    exact wpAny_truthy_bool ⟨H,I,q⟩
  | int i =>
    obtain ⟨t,rfl⟩:=rx
    have e' : k = (i != 0):=e
    subst e'
    exact PySem.P.truthy_int ⟨H,I,q⟩
  | str y =>
    obtain ⟨t,rfl⟩:=rx
    obtain ⟨hy,e'⟩ : y.length≤sizeLine∧k = ((y.length : Int) != 0):=e
    subst e'
    exact PySem.P.truthy_str (by omega) ⟨H,I.tok _,q⟩
  | byt y =>
    obtain ⟨t,rfl⟩:=rx
    obtain ⟨hy,e'⟩ : y.size≤sizeLine∧k = ((y.size : Int) != 0):=e
    subst e'
    exact PySem.W.truthy_bytes (by omega) ⟨H,I.tok _,q⟩
  | ref p =>
    cases rx
    have e' : (∃ xs,SqL X.K H p xs∧k = !xs.isEmpty)∨(∃ xs,SqT X.K H p xs∧k = !xs.isEmpty)∨∃ kvs,H p = some (.dK kvs)∧k = !kvs.isEmpty:=e
    rcases e' with ⟨xs,hx,e'⟩ | ⟨xs,hx,e'⟩ | ⟨kvs,hx,e'⟩
    · subst e'
      obtain ⟨its,r,pl,hz⟩:=I.list hx
      have hlen:=r.length
      exact wpAny_truthy_list pl.isList (by simp only [List.size_toArray];omega) ⟨H,I.tok _,by rw [isEmpty_of r];exact q⟩
    · subst e'
      obtain ⟨its,r,pl,hz⟩:=I.tuple hx
      have hlen:=r.length
      exact truthy_tuple pl (by simp only [List.size_toArray];omega) ⟨H,I.tok _,by rw [isEmpty_of r];exact q⟩
    · subst e'
      obtain ⟨hz,hS,vs,r,m⟩ : kvs.length≤sizeLine∧(p == sysModules) = false∧∃ vs,KV kvs vs∧s.heap.DictOf (mixKind X.prog X.w) p vs:=I.hok p _ hx
      have hlen : kvs.length = vs.length:=Paired.length r
      exact wpAny_truthy_dict hS m (by omega) ⟨H,I.tok _,by rw [isEmpty_kv r];exact q⟩
  | _=>exact (show False from e).elim
theorem pt_truth (ha : PE X a ta) (he : ∀ whole,isTrue a X.env whole = (do let v ← whole;standAt a.pos;holding [v] (truthy v))) :
    PT X a (fun σ H Q=>ta σ H fun x H'=>∃ k,TruV X.K x H' k∧Q k H'):=by
  intro pins s σ H Q I h
  exact isTrue_plain (thn (ha pins s σ H _ I h) fun v s1 ⟨x,H1,I1,r1,q1⟩=>tru_ok pins s1 σ H1 x v Q I1 r1 q1) (he _)
theorem vals1 {x : V} {us : List Value} (r : Vals [x] us) : ∃ u,us = [u]∧RelV x u:=by
  cases r with
  | cons r1 r2=>cases r2;exact ⟨_,rfl,r1⟩
theorem vals2 {x y : V} {us : List Value} (r : Vals [x,y] us) : ∃ u w',us = [u,w']∧RelV x u∧RelV y w':=by
  cases r with
  | cons r1 r2 =>
    cases r2 with
    | cons r3 r4=>cases r4;exact ⟨_,_,rfl,r1,r3⟩
theorem call_abs : CallR X (.builtin "abs") (fun xs H Q=>∃ i,xs = [.int i]∧Q (.int (if i < 0 then -i else i)) H):=by
  intro pins s σ H xs us Q I r h
  obtain ⟨i,rfl,q⟩:=h
  obtain ⟨u,rfl,t,rfl⟩:=vals1 r
  exact call_abs_int fun u tk=>⟨.int (if i < 0 then -i else i),H,I.tok _,⟨_,rfl⟩,q⟩
theorem call_max2 (hc : X.calm = true) : CallR X (.builtin "max") (fun xs H Q=>∃ i j,xs = [.int i,.int j]∧Q (.int (if j > i then j else i)) H):=by
  intro pins s σ H xs us Q I r h
  obtain ⟨i,j,rfl,q⟩:=h
  obtain ⟨u,w',rfl,⟨t,rfl⟩,⟨t',rfl⟩⟩:=vals2 r
  refine max_two_ints (I.ok.hd hc) fun h' tk k=>⟨_,H,I.kept k,?_,q⟩
  by_cases hj : j > i
  · rw [if_pos hj,if_pos hj];exact ⟨_,rfl⟩
  · rw [if_neg hj,if_neg hj];exact ⟨_,rfl⟩
theorem call_min2 (hc : X.calm = true) : CallR X (.builtin "min") (fun xs H Q=>∃ i j,xs = [.int i,.int j]∧Q (.int (if j < i then j else i)) H):=by
  intro pins s σ H xs us Q I r h
  obtain ⟨i,j,rfl,q⟩:=h
  obtain ⟨u,w',rfl,⟨t,rfl⟩,⟨t',rfl⟩⟩:=vals2 r
  refine min_two_ints (I.ok.hd hc) fun h' tk k=>⟨_,H,I.kept k,?_,q⟩
  by_cases hj : j < i
  · rw [if_pos hj,if_pos hj];exact ⟨_,rfl⟩
  · rw [if_neg hj,if_neg hj];exact ⟨_,rfl⟩
def LenV (K : PySem.W.Frag) (x : V) (H : Hp) (n : Nat) : Prop :=
  match x with
  | .str y=>y.length≤sizeLine∧n = y.length
  | .byt y=>y.size≤sizeLine∧n = y.size
  | .ref p=>(∃ xs,SqL K H p xs∧n = xs.length)∨∃ xs,SqT K H p xs∧n = xs.length
  | _=>False
theorem call_len : CallR X (.builtin "len") (fun xs H Q=>∃ x n,xs = [x]∧LenV X.K x H n∧Q (.int n) H):=by
  intro pins s σ H xs us Q I r h
  obtain ⟨x,n,rfl,e,q⟩:=h
  obtain ⟨u,rfl,rx⟩:=vals1 r
  have hl:=line63
  have hs : sizeLine = 16777216:=sizeLine_eq
  cases x with
  | str y =>
    obtain ⟨t,rfl⟩:=rx
    obtain ⟨hy,e'⟩ : y.length≤sizeLine∧n = y.length:=e
    subst e'
    exact len_str (by omega) ⟨.int _,H,I.tok _,⟨_,rfl⟩,q⟩
  | byt y =>
    obtain ⟨t,rfl⟩:=rx
    obtain ⟨hy,e'⟩ : y.size≤sizeLine∧n = y.size:=e
    subst e'
    exact PySem.W.len_bytes (by omega) ⟨.int _,H,I.tok _,⟨_,rfl⟩,q⟩
  | ref p =>
    cases rx
    have e' : (∃ xs,SqL X.K H p xs∧n = xs.length)∨∃ xs,SqT X.K H p xs∧n = xs.length:=e
    rcases e' with ⟨xs,hx,e'⟩ | ⟨xs,hx,e'⟩
    · subst e'
      obtain ⟨its,r',pl,hz⟩:=I.list hx
      have hlen:=r'.length
      exact Calls.call_len_list pl.isList (by simp only [List.size_toArray];omega) ⟨.int xs.length,H,I.tok _,⟨_,by simp only [List.size_toArray];rw [hlen]⟩,q⟩
    · subst e'
      obtain ⟨its,r',pl,hz⟩:=I.tuple hx
      have hlen:=r'.length
      exact len_tuple pl (by simp only [List.size_toArray];omega) ⟨.int xs.length,H,I.tok _,⟨_,by simp only [List.size_toArray];rw [hlen]⟩,q⟩
  | _=>exact (show False from e).elim
end
structure ObjM (h : Heap) (x dx C : Addr) (mA : Str→Option Value) : Prop where
  obj : h.get? x = some (PySem.W.instObj C dx)
  ns : h.Ns1 dx mA
  ne : dx≠x
section
variable {prog : Program} {w : World} {A : Around} {E : Value→Shared→Prop} {s : Shared} {K : PySem.W.Frag} {x dx C f : Addr} {mA : Str→Option Value} {name : Str} {v : Value}
end
theorem RelO.some_of {v : V} {o : Option Value} (r : RelO (some v) o) : ∃ u,o = some u∧RelV v u:=by
  cases o with
  | none=>exact (show False from r).elim
  | some u=>exact ⟨u,rfl,r⟩
section
variable {P : Program} {w : World} {H H' : Hp} {h h' : Heap} {a C dx : Addr} {fs fs' : List (Str × V)}
end
structure Cls (K : PySem.W.Frag) (C : Addr) : Prop where
  pg : PySem.W.plainGet K C Str.empty = true
  hd : PySem.W.hasDictIn K C = true
  po : PySem.W.plainOver K C = true
  sa : PySem.W.findIn K (.ref C) "__setattr__" = some (some (.builtin "object.__setattr__"))
structure Con (K : PySem.W.Frag) (C : Addr) (f : Str) (v : V) (u : Value) : Prop where
  at_ : PySem.W.findIn K (.ref C) f = some (some u)
  rel : RelV v u
  get : PySem.W.specialIn K u "__get__" = some none
  cp : PySem.W.copiedNames.contains f = false
structure Meth (K : PySem.W.Frag) (C : Addr) (m : Str) (f : Addr) : Prop where
  at_ : PySem.W.findIn K (.ref C) m = some (some (.ref f))
  fn : PySem.W.isFn K (.ref f) = true
  kp : PySem.W.keepIn K (.ref f) = true
section
variable {X : Cx} {pins : List (Addr × Obj)} {σ : St} {H : Hp} {s : Shared} {a C dx : Addr} {fs : List (Str × V)} {f : Str} {v : V} {A : Around} {E : Value→Shared→Prop}
end
section
variable {X : Cx} {o e value : Expr} {f : Str} {pos pos' tpos : Pos} {ta tv : TE}
end
section
variable {X : Cx} {pins : List (Addr × Obj)} {σ : St} {H : Hp} {s : Shared} {A : Around} {E : Value→Shared→Prop} {Q : Value→Shared→Prop} {c : Value} {b : Bool}
inductive TyOf (K : PySem.W.Frag) (H : Hp) : V→Value→Prop where
  | non : TyOf K H .non (.type "NoneType")
  | bl (x : Bool) : TyOf K H (.bl x) (.type "bool")
  | int (i : Int) : TyOf K H (.int i) (.type "int")
  | str (x : Str) : TyOf K H (.str x) (.type "str")
  | flt (x : UInt64) : TyOf K H (.flt x) (.type "float")
  | lst {a : Addr} {xs : List V} (e : H a = some (.lst xs)) : TyOf K H (.ref a) (.type "list")
  | frz {a : Addr} {o : Obj} {xs : List V} (e : H a = some (.frz o (.lst xs))) : TyOf K H (.ref a) (.type "list")
  | tup {a : Addr} {xs : List V} (e : H a = some (.tup xs)) : TyOf K H (.ref a) (.type "tuple")
  | dK {a : Addr} {kvs : List (Key × V)} (e : H a = some (.dK kvs)) : TyOf K H (.ref a) (.type "dict")
  | dT {a : Addr} {kvs : List (List Key × V)} (e : H a = some (.dT kvs)) : TyOf K H (.ref a) (.type "dict")
  | ins {a C dx : Addr} {fs : List (Str × V)} (e : H a = some (.ins C dx fs)) (cl : Cls K C) (ha : PySem.W.findIn K (.ref C) "__class__" = some (some (.builtin "object.__class__")))
      (hn : PySem.W.specialIn K (.builtin "object.__class__") "__get__" = some (some (.builtin "getset_descriptor.__get__"))) (htk : PySem.W.takesIn K (.builtin "object.__class__") = some true)
      (hm : PySem.W.mroIn K C (.type "object") = some true) : TyOf K H (.ref a) (.ref C)
end
structure Room (k : Nat) (A : Around) : Prop where
  hd : A.handled = none
  dp : A.depth + 3 * k + 5 < recursionLimit
  un : A.units + 16 * k + 200 < cLine
  gd : A.guards = some []
theorem Room.mono {j k : Nat} {A : Around} (r : Room k A) (h : j≤k) : Room j A:=⟨r.hd,by have:=r.dp;omega,by have:=r.un;omega,r.gd⟩
theorem Room.deeper {k : Nat} {A : Around} (r : Room (k + 1) A) (env : Env) : Room k (A.deeper env) :=
  ⟨r.hd,by have:=r.dp;show A.depth + 1 + 3 * k + 5 < _;omega,by have:=r.un;show A.units + 3 + 16 * k + 200 < _;omega,r.gd⟩
theorem Room.depth {k : Nat} {A : Around} (r : Room k A) : A.depth < recursionLimit:=by have:=r.dp;omega
theorem Room.units {k : Nat} {A : Around} (r : Room k A) : A.units + 64 < cLine:=by have:=r.un;omega
def tNil : TA:=fun _ H Q=>Q [] H
def tCons (ta : TE) (tr : TA) : TA:=fun σ H Q=>ta σ H fun x H1=>tr σ H1 fun xs H2=>Q (x :: xs) H2
section
variable {X : Cx} {e : Expr} {es : List Expr} {te : TE} {t : TA} {pos : Pos}
theorem pa_nil : PA X [] tNil:=.mk <| fun _ _ _ _ H Q I h=>Calls.spliced_nil ⟨[],H,I,.nil,h⟩
theorem pa_cons (ha : PE X e te) (hr : PA X es t) (hs : starEach (e :: es) X.env = (false,eval e X.env) :: starEach es X.env:=by rfl) : PA X (e :: es) (tCons te t):=.mk <| by
  intro pos pins s σ H Q I h
  rw [hs]
  show wpAny _ _ (spliced ((false,eval e X.env) :: backTo pos (starEach es X.env))) _ _ s
  refine Calls.spliced_cons (thn (ha pins s σ H _ I h) fun u s1 ⟨x,H1,I1,r1,q1⟩=>?_)
  exact thn (hr pos pins s1 σ H1 _ I1 q1) fun us s2 ⟨xs,H2,I2,r2,q2⟩=>⟨x :: xs,H2,I2,.cons r1 r2,q2⟩
def tTup (t : TA) : TE:=fun σ H Q=>t σ H fun xs H1=>xs.length≤sizeLine∧∀ p,H1 p = none→Q (.ref p) (upd H1 p (.tup xs))
def tLst (t : TA) : TE:=fun σ H Q=>t σ H fun xs H1=>xs.length≤sizeLine∧∀ p,H1 p = none→Q (.ref p) (upd H1 p (.lst xs))
theorem pe_tup {x1} (h : PA X es t) : PE X (.Tuple es x1 pos) (tTup t):=.mk <| by
  intro pins s σ H Q I hq
  refine wpAny_Tuple_spliced (thn (h pos pins s σ H _ I hq) fun us s1 ⟨xs,H1,I1,r,z,q⟩=>⟨by rw [← r.length];exact z,?_⟩)
  have hf : H1 s1.heap.objs.size = none:=I1.hok.fresh (Nat.le_refl _)
  refine ⟨.ref s1.heap.objs.size,upd H1 s1.heap.objs.size (.tup xs),I1.laid (t':=s1.toks) (fun b u e=>Heap.get?_push_of_some _ e) (Nat.le_refl _) ?_,rfl,q _ hf⟩
  exact ⟨z,us,r,⟨_,Heap.get?_push_size _ rfl,rfl,_,rfl⟩,_,Heap.get?_push_size _ rfl,rfl⟩
theorem pe_lst (h : PA X es t) : PE X (.List es pos) (tLst t):=.mk <| by
  intro pins s σ H Q I hq
  refine wpAny_List_spliced (thn (h pos pins s σ H _ I hq) fun us s1 ⟨xs,H1,I1,r,z,q⟩=>⟨by rw [← r.length];exact z,?_⟩)
  have hf : H1 s1.heap.objs.size = none:=I1.hok.fresh (Nat.le_refl _)
  refine ⟨.ref s1.heap.objs.size,upd H1 s1.heap.objs.size (.lst xs),I1.laid (t':=s1.toks) (fun b u e=>Heap.get?_push_of_some _ e) (Nat.le_refl _) ?_,rfl,q _ hf⟩
  exact ⟨z,us,0,r,Heap.get?_push_size _ rfl⟩
end
abbrev Sp:=List V→Hp→VK→XK→Prop
abbrev CXT:=List Env→Hp→Shared→XK→Value→Shared→Prop
structure Env0 (P : Program) (w : World) (K : PySem.W.Frag) (mg : Str→Option Value) (base : Heap) (A : Around) (outer : List Env) (s : Shared) (H : Hp) : Prop where
  frames : A.frames = some outer
  mod : Mod K mg base
  bs : ∀ b o,base.get? b = some o→s.heap.get? b = some o∧H b = none
  bsz : base.objs.size≤s.heap.objs.size
  funs : s.heap.FunFrames base outer
  frf : ∀ b∈frs outer,H b = none
  tt : TabT K H
  hok : HOk P w H s.heap
  bare : AllBare s.gens
def CE (outer : List Env) (P : Program) (w : World) (H : Hp) (s : Shared) (Q : VK) (u : Value) (s' : Shared) : Prop :=
  ∃ v H',s'.os = s.os∧AllBare s'.gens∧Un (frs outer) [] H H' s.heap s'.heap∧HOk P w H' s'.heap∧RelV v u∧Q v H'
def CR (CX : CXT) (outer : List Env) (P : Program) (w : World) (H : Hp) (s : Shared) (Q : VK) (E : XK) (r : Result) (s' : Shared) : Prop :=
  match r with
  | .ok (.ret u)=>CE outer P w H s Q u s'
  | .ok _=>False
  | .error e=>CX outer H s E e s'
structure FnOk (P : Program) (w : World) (K : PySem.W.Frag) (mg : Str→Option Value) (base : Heap) (CX : CXT) (k : Nat) (f : Addr) (fd : FuncData) (ps : List Str) (sp : Sp) : Prop where
  len : ∀ vs H Q E,sp vs H Q E→vs.length = ps.length
  run : ∀ (A : Around) (outer : List Env) (s : Shared) (H : Hp) (args : Args) (us : List Value) (vs : List V) (Q : VK) (E : XK),Room k A→Env0 P w K mg base A outer s H→BindsTo s fd args (ps.zip us)→Vals vs us→sp vs H Q E →
    codeAny (model P w) A (.call (.ref f) args) (CR CX outer P w H s Q E) s
section
variable {X : Cx} {pins : List (Addr × Obj)} {σ : St} {H : Hp} {s s' : Shared}
theorem Inv.env0 (I : Inv X pins σ H s) : Env0 X.prog X.w X.K X.mg X.base X.A X.stack s H :=
  ⟨I.ok.frames,I.ok.mod,I.bs,Nat.le_trans I.ok.bsz I.sz,I.stack,I.stkFree,I.ok.tt.mono I.base.tbls,I.hok,I.bare⟩
theorem Inv.after {Q : VK} {u : Value} (I : Inv X pins σ H s) (h : CE X.stack X.prog X.w H s Q u s') : EP X pins σ Q u s':=by
  obtain ⟨v,H',os,bare,un,hok,r,q⟩:=h
  obtain ⟨hh,g,d,t,os'⟩:=s'
  obtain rfl : os' = s.os:=os
  exact ⟨v,H',I.call (h':=hh) (g':=g) (d':=d) (t':=t) (ch:=[]) un hok bare (fun b z=>absurd z (by simp)),r,q⟩
end
def tCall (sp : Sp) (dvs : List V) (E : XK) (t : TA) : TE:=fun σ H Q=>t σ H fun vs H1=>sp (vs ++ dvs) H1 Q E
def Binds (K : PySem.W.Frag) (fd : FuncData) (ps : List Str) (ds : List Value) : Prop :=
  ∀ (s : Shared) (us : List Value),K.In s.heap→(us ++ ds).length = ps.length→BindsTo s fd ⟨us,[]⟩ (ps.zip (us ++ ds))
theorem Binds.all {K : PySem.W.Frag} {fd : FuncData} {ps : List Str} (h : ∀ us : List Value,us.length = ps.length→bindArgs fd ⟨us,[]⟩ = pure (ps.zip us)) : Binds K fd ps []:=fun s us _ hl=>by
  rw [List.append_nil] at hl ⊢
  exact .of_eq (h us hl)
def Passes (CX : CXT) (X : Cx) (E : XK) : Prop:=∀ (pins : List (Addr × Obj)) (σ : St) (H : Hp) (s : Shared) (e : Value) (s' : Shared),Inv X pins σ H s→CX X.stack H s E e s'→X.xe e s'
section
variable {X : Cx} {CX : CXT} {k : Nat} {f C : Addr} {fd : FuncData} {ps : List Str} {sp : Sp} {dvs : List V} {ds : List Value} {E : XK} {x m : Str} {p pos apos : Pos} {e o : Expr} {es : List Expr} {ta : TE} {t : TA}
theorem run_fn {pins : List (Addr × Obj)} {σ : St} {H : Hp} {s : Shared} {Q : VK} {us : List Value} {vs : List V} (F : FnOk X.prog X.w X.K X.mg X.base CX k f fd ps sp) (hr : Room k X.A) (hb : Binds X.K fd ps ds) (hd : Vals dvs ds) (hx : Passes CX X E)
    (I : Inv X pins σ H s) (r : Vals vs us) (h : sp (vs ++ dvs) H Q E) : wpAny (model X.prog X.w) X.A (call (.ref f) us) (EP X pins σ Q) X.xe s:=by
  have r2 : Vals (vs ++ dvs) (us ++ ds):=r.append hd
  have hl : (us ++ ds).length = ps.length:=by rw [← r2.length];exact F.len _ _ _ _ h
  refine wpAny_call (codeAny_mono (F.run X.A X.stack s H ⟨us,[]⟩ (us ++ ds) (vs ++ dvs) Q E hr I.env0 (hb s us I.kIn hl) r2 h) fun r s' hq=>?_)
  cases r with
  | error e=>exact hx pins σ H s e s' I hq
  | ok fl =>
    cases fl with
    | ret u=>exact I.after hq
    | next=>exact False.elim hq
    | brk=>exact False.elim hq
    | cont=>exact False.elim hq
theorem pe_call (F : FnOk X.prog X.w X.K X.mg X.base CX k f fd ps sp) (hr : Room k X.A) (hg : Gl X x) (hm : X.mg x = some (.ref f)) (hk : PySem.W.keepIn X.K (.ref f) = true) (hb : Binds X.K fd ps ds) (hd : Vals dvs ds) (hx : Passes CX X E)
    (ha : PA X (e :: es) t) (hdb : (x == ("__debug__" : Str)) = false:=by decide) (he : starEach (e :: es) X.env = (false,eval e X.env) :: starEach es X.env:=by rfl) (hpl : (backTo pos (starEach es X.env)).any (·.1) = false:=by rfl) :
    PE X (.Call (.Name x p) (e :: es) [] pos) (tCall sp dvs E t):=.mk <| by
  intro pins s σ H Q I h
  refine wpAny_Call_Name_kw (ld_glob I hg hm ?_ hdb)
  refine PySem.W.callWith_K (h₀:=X.base) I.ok.mod.kin hk (thn (ha pos pins s σ H _ I h) fun us s1 ⟨vs,H1,I1,r,q⟩=>⟨I1.kIn,?_⟩) he hpl
  exact run_fn F hr hb hd hx I1 r q
structure Mk (K : PySem.W.Frag) (C f : Addr) : Prop where
  makes : PySem.W.makesIn K C = true
  init : PySem.W.findIn K (.ref C) "__init__" = some (some (.ref f))
  fn : PySem.W.isFn K (.ref f) = true
  kp : PySem.W.keepIn K (.ref C) = true
end
section
variable {X : Cx} {CX : CXT} {k : Nat} {f C : Addr} {fd : FuncData} {ps ks : List Str} {sp : Sp} {E : XK} {x m : Str} {p pos apos kpos : Pos} {e o : Expr} {es : List Expr} {kws : List Keyword} {te ta : TE} {t tk : TA} {nm : Option Str}
structure KBinds (K : PySem.W.Frag) (fd : FuncData) (ps ks : List Str) (g : List Value→List Value→List Value) (gV : List V→List V→List V) : Prop where
  to : ∀ (s : Shared) (us ws : List Value),K.In s.heap→(g us ws).length = ps.length→BindsTo s fd ⟨us,ks.zip ws⟩ (ps.zip (g us ws))
  rel : ∀ {vs : List V} {us : List Value} {zs : List V} {ws : List Value},Vals vs us→Vals zs ws→Vals (gV vs zs) (g us ws)
variable {g : List Value→List Value→List Value} {gV : List V→List V→List V}
end
structure FnScope (N P : List Str) (sc : Scope) : Prop where
  kind : sc.kind = .function
  co : sc.isCoroutine = false
  gen : sc.isGenerator = false
  nd : N.Nodup
  pre : N.take P.length = P
  par : ∀ x∈P,sc.names.lookup x = some .local∨sc.names.lookup x = some .cell
  nofree : ∀ y∈sc.names,y.2≠.free
theorem bindL_out {kindOf : Str→Option NameKind} {x : Str} : ∀ {binds : List (Str × Value)} {m : Str→Option Value},(∀ v,(x,v) ∉ binds)→bindL kindOf binds m x = m x
  | [],_,_=>rfl
  | (n,v) :: r,m,h=>by
    unfold bindL
    rw [bindL_out fun w hw=>h w (List.mem_cons_of_mem _ hw)]
    split
    · have : x≠n:=by rintro rfl;exact h v List.mem_cons_self
      simp [this]
    · rfl
theorem bindC_out {kindOf : Str→Option NameKind} {x : Str} : ∀ {binds : List (Str × Value)} {m : Str→Option Value},(∀ v,(x,v) ∉ binds)→bindC kindOf binds m x = m x
  | [],_,_=>rfl
  | (n,v) :: r,m,h=>by
    unfold bindC
    rw [bindC_out fun w hw=>h w (List.mem_cons_of_mem _ hw)]
    split
    · rfl
    · have : x≠n:=by rintro rfl;exact h v List.mem_cons_self
      simp [this]
theorem bindL_get {kindOf : Str→Option NameKind} {x : Str} {v : Value} : ∀ {P : List Str} {vs : List Value} {i : Nat} {m : Str→Option Value},P.Nodup→P[i]? = some x→vs[i]? = some v→kindOf x = some .local →
    bindL kindOf (P.zip vs) m x = some v
  | [],_,_,_,_,h,_,_=>by simp at h
  | _ :: _,[],_,_,_,_,h,_=>by simp at h
  | p :: P,w :: vs,0,m,nd,h1,h2,hk=>by
    simp at h1 h2;subst h1;subst h2
    show bindL kindOf ((p,w) :: P.zip vs) m p = _
    unfold bindL
    rw [bindL_out fun v hv=>(List.nodup_cons.mp nd).1 (List.of_mem_zip hv).1,if_pos hk]
    simp
  | p :: P,w :: vs,i + 1,m,nd,h1,h2,hk=>by
    show bindL kindOf ((p,w) :: P.zip vs) m x = _
    unfold bindL
    exact bindL_get (i:=i) (List.nodup_cons.mp nd).2 (by simpa using h1) (by simpa using h2) hk
theorem bindC_get {kindOf : Str→Option NameKind} {x : Str} {v : Value} : ∀ {P : List Str} {vs : List Value} {i : Nat} {m : Str→Option Value},P.Nodup→P[i]? = some x→vs[i]? = some v→kindOf x≠some .local →
    bindC kindOf (P.zip vs) m x = some v
  | [],_,_,_,_,h,_,_=>by simp at h
  | _ :: _,[],_,_,_,_,h,_=>by simp at h
  | p :: P,w :: vs,0,m,nd,h1,h2,hk=>by
    simp at h1 h2;subst h1;subst h2
    show bindC kindOf ((p,w) :: P.zip vs) m p = _
    unfold bindC
    rw [bindC_out fun v hv=>(List.nodup_cons.mp nd).1 (List.of_mem_zip hv).1,if_neg hk]
    simp
  | p :: P,w :: vs,i + 1,m,nd,h1,h2,hk=>by
    show bindC kindOf ((p,w) :: P.zip vs) m x = _
    unfold bindC
    exact bindC_get (i:=i) (List.nodup_cons.mp nd).2 (by simpa using h1) (by simpa using h2) hk
def start (N : List Str) (vs : List V) : St:=vs.map some ++ List.replicate (N.length - vs.length) none
def cxOf (CX : CXT) (P : Program) (w : World) (K : PySem.W.Frag) (mg : Str→Option Value) (base : Heap) (N : List Str) (qual : Str) (scope : Scope) (f : Addr) (cd : Value) (A : Around) (outer : List Env) (s : Shared) (H : Hp) (E : XK) : Cx where
  prog:=P
  w:=w
  K:=K
  mg:=mg
  base:=base
  A:=A.deeper (envOfC qual scope s.heap.objs.size f cd)
  N:=N
  s₀:=s
  H₀:=H
  env:=envOfC qual scope s.heap.objs.size f cd
  outer:=outer
  stack:=envOfC qual scope s.heap.objs.size f cd :: outer
  ex:=[]
  calm:=true
  fn:=fun _=>true
  pn:=[]
  xe:=fun e s'=>wpAny (model P w) (A.deeper (envOfC qual scope s.heap.objs.size f cd)) (leaving (envOfC qual scope s.heap.objs.size f cd) e) (fun _ s''=>CX outer H s E e s'') (fun e' s''=>CX outer H s E e' s'') s'
theorem cell_has {sc : Scope} {n : Nat} {x : Str} (h : sc.names.lookup x = some .cell) : ∃ c,(cellsFrom n sc.names []).lookup x = some c:=by
  have q:=PySem.W.cellsFrom_some sc.names n [] (.inl h)
  exact Option.isSome_iff_exists.mp q
theorem inv_start {CX : CXT} {P : Program} {w : World} {K : PySem.W.Frag} {mg : Str→Option Value} {base : Heap} {N ps : List Str} {qual : Str} {scope : Scope} {f : Addr} {cd : Value} {A : Around} {outer : List Env} {s s1 : Shared} {H : Hp} {E : XK} {us : List Value} {vs : List V}
    (S : FnScope N ps scope) (hd : A.handled = none) (e0 : Env0 P w K mg base A outer s H) (hl : vs.length = ps.length) (r : Vals vs us)
    (x : InCallC s s.heap.objs.size (bindL (envOfC qual scope s.heap.objs.size f cd).kindOf (ps.zip us) fun _=>none) (cellsFrom (s.heap.objs.size + 1) scope.names []) (bindC (envOfC qual scope s.heap.objs.size f cd).kindOf (ps.zip us) fun _=>none) s1) :
    Inv (cxOf CX P w K mg base N qual scope f cd A outer s H E) [] (start N vs) H s1:=by
  have hpl : ps.length≤N.length:=by have:=congrArg List.length S.pre;rw [List.length_take] at this;omega
  obtain ⟨h1,tk,rfl,hk⟩:=x.done
  have noA : ∀ b : Addr,b ∉ (cxOf CX P w K mg base N qual scope f cd A outer s H E).ex:=fun b z=>absurd (show b∈([] : List Addr) from z) (by simp)
  refine ⟨⟨e0.mod,S.kind,rfl,rfl,Nat.le_refl _,fun y z c h1 h2=>?_,fun y hy=>?_,fun y c _ h=>?_,fun _=>hd,Around.frames_deeper e0.frames,.inr ⟨rfl,rfl⟩,fun b z=>absurd z (noA b),e0.bs,e0.bsz,fun b _ _=>noA b,fun b z=>absurd z (noA b),e0.funs,e0.frf,e0.tt⟩,
    rfl,e0.bare,Un.kept hk,⟨_,x.toInCall.ns,fun i y v h1 h2 h3=>?_⟩,fun y c h=>⟨_,x.cell y c h⟩,e0.hok.fresh (Nat.le_refl _),fun y c h=>?_,fun p hp=>absurd (show p∈([] : List (Addr × Obj)) from hp) (by simp),e0.hok.kept hk,?_⟩
  · exact name_of_addr x.apart (PySem.mem_of_lookup h1) (PySem.mem_of_lookup h2)
  · have hy : scope.names.lookup y = some .cell∨scope.names.lookup y = some .free:=hy
    rcases hy with hy | hy
    · exact cell_has hy
    · exact absurd rfl (S.nofree _ (PySem.mem_of_lookup hy))
  · exact Nat.le_of_lt (x.above y c (PySem.mem_of_lookup h))
  · have hi : i < vs.length:=by
      unfold start at h2
      by_cases hi : i < vs.length
      · exact hi
      · rw [List.getElem?_append_right (by simpa using hi)] at h2
        rw [List.getElem?_replicate] at h2
        split at h2<;>cases h2
    have ha : vs[i]? = some v:=by
      unfold start at h2
      rw [List.getElem?_append_left (by simpa using hi),List.getElem?_map] at h2
      cases e : vs[i]? with
      | none=>rw [e] at h2;cases h2
      | some a=>rw [e] at h2;cases h2;rfl
    obtain ⟨u,hu,rv⟩:=r.get ha
    have hp : ps[i]? = some y:=by
      rw [← S.pre,List.getElem?_take_of_lt (by omega)];exact h1
    have ndP : ps.Nodup:=by rw [← S.pre];exact S.nd.sublist (List.take_sublist _ _)
    refine ⟨u,rv,?_⟩
    rcases S.par y (List.mem_of_getElem? hp) with k | k
    · exact .inl ⟨k,bindL_get ndP hp hu k⟩
    · obtain ⟨c,e⟩:=cell_has (n:=s.heap.objs.size + 1) k
      refine .inr ⟨.inl k,c,e,?_⟩
      have q:=x.cell y c e
      rw [bindC_get ndP hp hu (by show scope.names.lookup y≠_;rw [k];decide)] at q
      exact q
  · exact e0.hok.fresh (Nat.le_of_lt (x.above y c (PySem.mem_of_lookup h)))
  · unfold start
    show _ = N.length
    rw [List.length_append,List.length_map,List.length_replicate]
    omega
theorem fn_of {CX : CXT} {P : Program} {w : World} {K : PySem.W.Frag} {mg : Str→Option Value} {base : Heap} {k : Nat} {f : Addr} {name qual : Str} {params : Arguments} {body : List Stmt} {scope : Scope} {dV kV doc pm cdv ct oc : Value} {an od : Option Addr}
    {osl : Array (Option Value)} {N ps : List Str} {sp : Sp} (lk : K.lookup f = some ⟨oc,od,.func (PySem.W.fnOf name qual params body scope dV kV doc pm an cdv ct),osl⟩) (hcd : PySem.W.codeIn K cdv qual = true) (S : FnScope N ps scope)
    (len : ∀ vs H Q E,sp vs H Q E→vs.length = ps.length)
    (hbody : ∀ (A : Around) (outer : List Env) (s : Shared) (H : Hp) (vs : List V) (Q : VK) (E : XK),Room k (A.deeper (envOfC qual scope s.heap.objs.size f cdv))→sp vs H Q E →
      ∃ t,PSs (cxOf CX P w K mg base N qual scope f cdv A outer s H E) body t∧t { nx:=fun _ H'=>Q .non H',rt:=Q } (start N vs) H) :
    FnOk P w K mg base CX (k + 1) f (PySem.W.fnOf name qual params body scope dV kV doc pm an cdv ct) ps sp:=by
  refine ⟨len,fun A outer s H args us vs Q E hr e0 hb r hsp=>?_⟩
  have hl:=len _ _ _ _ hsp
  have KX : K.In s.heap:=e0.mod.kin.keeps fun b o e=>(e0.bs b o e).1
  have lim : s.heap.NoLimit:=e0.mod.nolimit.keeps fun b o e=>(e0.bs b o e).1
  have hkind : ∀ y∈ps.zip us,scope.names.lookup y.1 = some .local∨(scope.names.lookup y.1 = some .cell∧((cellsFrom (s.heap.objs.size + 1) scope.names []).lookup y.1).isSome = true):=fun ⟨n,v⟩ hy=>by
    rcases S.par n (List.of_mem_zip hy).1 with q | q
    · exact .inl q
    · exact .inr ⟨q,PySem.W.cellsFrom_some _ _ _ (.inl q)⟩
  refine codeAny_call_function hr.depth (KX _ _ lk) rfl S.co S.gen rfl (PySem.W.codeRec_of KX hcd) (hb _ _ _ _ ?_)
  refine wpAny_newFunctionEnv_cells S.kind hkind fun env he s1 x=>?_
  subst he
  refine ⟨lim.keeps x.toInCall.keep,codeAny_func ?_⟩
  obtain ⟨t,ht,hq⟩:=hbody A outer s H vs Q E (hr.deeper _) hsp
  have I : Inv (cxOf CX P w K mg base N qual scope f cdv A outer s H E) [] (start N vs) H s1:=inv_start S hr.hd e0 hl r x
  refine wpAny_mono (ht [] s1 (start N vs) H _ I hq) (fun fl s' hs=>?_) fun e s' hs=>hs
  have fin : ∀ {σ' : St} {H' : Hp} {v : V} {u : Value},Inv (cxOf CX P w K mg base N qual scope f cdv A outer s H E) [] σ' H' s'→RelV v u→Q v H'→CE outer P w H s Q u s' :=
    fun {σ' H' v u} J rv q=>⟨v,H',J.os,J.bare,J.base,J.hok,rv,q⟩
  cases fl with
  | ret u =>
    obtain ⟨v,σ',H',J,rv,q⟩:=hs
    exact fin J rv q
  | next =>
    obtain ⟨σ',H',J,q⟩:=hs
    exact fin (v:=V.non) (u:=Value.none) J rfl q
  | brk =>
    obtain ⟨_,_,_,q⟩:=hs
    exact False.elim q
  | cont =>
    obtain ⟨_,_,_,q⟩:=hs
    exact False.elim q
section
variable {X : Cx} {x : Str} {p pos : Pos} {e : Expr} {es : List Expr} {t : TA} {id T : String} {r : List V→Hp→VK→Prop}
def tCB (r : List V→Hp→VK→Prop) (t : TA) : TE:=fun σ H Q=>t σ H fun vs H1=>r vs H1 Q
theorem pe_callB (hc : CallR X (.builtin id) r) (hg : Gl X x) (hm : X.mg x = none) (hv : bootBuiltins x = some (.builtin id)) (ha : PA X (e :: es) t) (hn : x≠"__name__":=by decide) (hdb : (x == ("__debug__" : Str)) = false:=by decide)
    (he : starEach (e :: es) X.env = (false,eval e X.env) :: starEach es X.env:=by rfl) (hpl : (backTo pos (starEach es X.env)).any (·.1) = false:=by rfl) : PE X (.Call (.Name x p) (e :: es) [] pos) (tCB r t):=.mk <| by
  intro pins s σ H Q I h
  refine wpAny_Call_Name_kw (ld_blt I hg hm hv ?_ hn hdb)
  exact PyProof.Rows.callWith_builtin1 (thn (ha pos pins s σ H _ I h) fun us s1 ⟨vs,H1,I1,r1,q1⟩=>hc pins s1 σ H1 vs us Q I1 r1 q1) he hpl
theorem pe_callTy (hc : CallR X (.type T) r) (hg : Gl X x) (hm : X.mg x = none) (hv : bootBuiltins x = some (.type T)) (ha : PA X (e :: es) t) (hn : x≠"__name__":=by decide) (hdb : (x == ("__debug__" : Str)) = false:=by decide)
    (he : starEach (e :: es) X.env = (false,eval e X.env) :: starEach es X.env:=by rfl) (hpl : (backTo pos (starEach es X.env)).any (·.1) = false:=by rfl) : PE X (.Call (.Name x p) (e :: es) [] pos) (tCB r t):=.mk <| by
  intro pins s σ H Q I h
  refine wpAny_Call_Name_kw (ld_blt I hg hm hv ?_ hn hdb)
  exact PyProof.Rows.callWith_type1 (thn (ha pos pins s σ H _ I h) fun us s1 ⟨vs,H1,I1,r1,q1⟩=>hc pins s1 σ H1 vs us Q I1 r1 q1) he hpl
end
end L2
namespace HT
open PySem PyProof.Rows
section
open PySem.SeqAt
open PySem.AutoSeq1 (wpAny_loadPart')
open PySem.MeetsSeq PySem.MeetsSeq2 PySem.MeetsSeq3
end
section
variable {prog : Program} {w : World} {A : Around} {E : Value→Shared→Prop} {s : Shared}
theorem cat_tup {t b : Addr} {vs ws : List Value} {Q : Value→Shared→Prop} (ht : IsTup s.heap t vs.toArray) (hb : IsTup s.heap b ws.toArray) (hv : vs≠[])
    (h1 : ws = []→Q (.ref t) s) (h2 : ws≠[]→Q (.ref s.heap.objs.size) { s with heap:=s.heap.push { cls:=.type "tuple",data:=.seq (vs ++ ws).toArray } })
    (hsz : vs.length + ws.length≤sizeLine) : wpAny (model prog w) A (binaryOp .Add (.ref t) (.ref b)) Q E s:=by
  obtain ⟨⟨cls,dd,data,sl⟩,ho,hc,n,hd⟩:=id ht
  obtain ⟨⟨cls2,dd2,data2,sl2⟩,ho2,hc2,n2,hd2⟩:=id hb
  simp only at hc hd hc2 hd2
  subst hc hd hc2 hd2
  have e : vs.toArray ++ ws.toArray = (vs ++ ws).toArray:=by simp
  by_cases hw : ws = []
  · exact concat_meets ⟨_,ho,rfl⟩ ⟨_,ho2,rfl⟩ noFill_tuple_add seq_tuple_add PySem.F.slot_tuple_add PySem.F.entry_tuple_add (PySem.F.args_tuple_add_2 _ _)
      (tuple_addW1 t b vs.toArray ws.toArray n n2 dd dd2 sl sl2 (by simpa using hv) (by simp [hw])) ⟨ho,ho2,h1 hw⟩
  · refine concat_meets ⟨_,ho,rfl⟩ ⟨_,ho2,rfl⟩ noFill_tuple_add seq_tuple_add PySem.F.slot_tuple_add PySem.F.entry_tuple_add (PySem.F.args_tuple_add_2 _ _)
      (tuple_addW2 t b vs.toArray ws.toArray n n2 dd dd2 sl sl2 (by simpa using hv) (by simpa using hw) (by rw [List.size_toArray,List.size_toArray];exact hsz)) ⟨ho,ho2,?_⟩
    rw [e]
    exact h2 hw
def sIx (n d : Nat) : Option Int→Nat
  | none=>d
  | some v=>if v < 0 then (v + (n : Int)).toNat else min v.toNat n
theorem sIx_none (n d : Nat) : sIx n d none = d:=rfl
theorem sIx_nat (n d k : Nat) : sIx n d (some (k : Int)) = min k n:=by
  show (if (k : Int) < 0 then ((k : Int) + (n : Int)).toNat else min (k : Int).toNat n) = min k n
  rw [if_neg (by omega),Int.toNat_natCast]
theorem sIx_le (n d : Nat) (hd : d≤n) (o : Option Int) : sIx n d o≤n:=by
  cases o with
  | none=>exact hd
  | some v =>
    show (if v < 0 then (v + (n : Int)).toNat else min v.toNat n)≤n
    by_cases hv : v < 0
    · rw [if_pos hv];omega
    · rw [if_neg hv];exact Nat.min_le_right _ _
theorem clip_eq (v : Int) (n d : Nat) : (if v < 0 then max (v + (n : Int)) 0 else min v (n : Int)) = ((sIx n d (some v) : Nat) : Int):=by
  show (if v < 0 then max (v + (n : Int)) 0 else min v (n : Int)) = (((if v < 0 then (v + (n : Int)).toNat else min v.toNat n) : Nat) : Int)
  by_cases hv : v < 0
  · simp only [if_pos hv];omega
  · simp only [if_neg hv];omega
theorem adjust_gen (lo hi : Option Int) (n : Nat) : Builtin.Slice.sliceAdjust lo hi 1 (n : Int) = (((sIx n 0 lo : Nat) : Int),((sIx n n hi : Nat) : Int)):=by
  have h1 : ¬ ((1 : Int) < 0):=by omega
  unfold Builtin.Slice.sliceAdjust
  simp only [h1,if_false]
  refine Prod.ext ?_ ?_
  · cases lo with
    | none=>rfl
    | some v=>exact clip_eq v n 0
  · cases hi with
    | none=>rfl
    | some v=>exact clip_eq v n n
theorem places_gen (i j : Nat) : Builtin.Slice.slicePlaces (i : Int) (j : Int) 1 = j - i:=by
  unfold Builtin.Slice.slicePlaces
  have h1 : (1 : Int) > 0:=by omega
  simp only [h1,if_true,Int.ediv_one]
  split<;>omega
theorem slicePart_ {v : Value} {o : Option Int} {Q : Option Int→Shared→Prop} (p : IsPart v o) (h : Q o s) : wpAny (model prog w) A (Builtin.Slice.slicePartIndex v) Q E s:=by
  cases p with
  | none=>exact slicePart_none h
  | int i t=>exact slicePart_int h
theorem sliceApplied_gen {sl : Addr} {vl vu : Value} {lo hi : Option Int} {n : Nat} {Q : Int × Int × Nat→Shared→Prop} (hs : s.heap.IsSliceOf sl vl vu .none) (pl : IsPart vl lo) (pu : IsPart vu hi)
    (h : Q (((sIx n 0 lo : Nat) : Int),1,sIx n n hi - sIx n 0 lo) s) : wpAny (model prog w) A (Builtin.Slice.sliceApplied (.ref sl) (pure (n : Int))) Q E s:=by
  obtain ⟨os,hos,hcs,hds⟩:=id hs
  unfold Builtin.Slice.sliceApplied Builtin.Slice.sliceFields
  refine wpAny_bind (wpAny_bind (wpAny_field hos hds (x:=vl) rfl (wpAny_bind (wpAny_field hos hds (x:=vu) rfl (wpAny_bind (wpAny_field hos hds (x:=.none) rfl (wpAny_pure ?_)))))))
  refine wpAny_bind (slicePart_none ?_)
  show wpAny _ _ (if ((1 : Int) == 0) = true then _ else _) _ _ s
  rw [if_neg (by decide)]
  refine wpAny_bind (slicePart_ pl (wpAny_bind (slicePart_ pu (wpAny_bind (wpAny_pure ?_)))))
  show wpAny _ _ (match Builtin.Slice.sliceAdjust lo hi 1 (n : Int) with | (lo,hi)=>pure (lo,(1 : Int),Builtin.Slice.slicePlaces lo hi 1)) _ _ s
  rw [adjust_gen lo hi n]
  show wpAny _ _ (pure (((sIx n 0 lo : Nat) : Int),(1 : Int),Builtin.Slice.slicePlaces ((sIx n 0 lo : Nat) : Int) ((sIx n n hi : Nat) : Int) 1)) _ _ s
  rw [places_gen]
  exact wpAny_pure h
theorem pick_gen (xs : Array Value) (i k : Nat) : ((List.range k).filterMap fun (m : Nat)=>xs[((i : Int) + (m : Int) * 1).toNat]?).toArray = ((xs.toList.drop i).take k).toArray:=by
  have e : (fun (m : Nat)=>xs[((i : Int) + (m : Int) * 1).toNat]?) = fun m=>xs[i + m]?:=by
    funext m
    have : ((i : Int) + (m : Int) * 1).toNat = i + m:=by omega
    rw [this]
  rw [e]
  have:=pick_run xs i k
  rw [List.filterMap_map] at this
  have e2 : ((fun x=>xs[x]?) ∘ fun x=>i + x) = fun m=>xs[i + m]?:=rfl
  rw [e2] at this
  rw [this]
theorem getItem_tuple_cut {t sl : Addr} {items : Array Value} {vl vu : Value} {lo hi : Option Int} {Q : Value→Shared→Prop} (ht : IsTup s.heap t items) (hs : s.heap.IsSliceOf sl vl vu .none) (pl : IsPart vl lo) (pu : IsPart vu hi)
    (hw : ¬ (sIx items.size 0 lo = 0∧sIx items.size items.size hi = items.size))
    (h : Q (.ref s.heap.objs.size) { s with heap:=s.heap.push { cls:=.type "tuple",data:=.seq ((items.toList.drop (sIx items.size 0 lo)).take (sIx items.size items.size hi - sIx items.size 0 lo)).toArray } })
    (hsz : items.size≤sizeLine) : wpAny (model prog w) A (getItem (.ref t) (.ref sl)) Q E s:=by
  have htake : sizeOk (.seq ((items.toList.drop (sIx items.size 0 lo)).take (sIx items.size items.size hi - sIx items.size 0 lo)).toArray):=by
    show ((items.toList.drop (sIx items.size 0 lo)).take (sIx items.size items.size hi - sIx items.size 0 lo)).toArray.size≤sizeLine
    rw [List.size_toArray,List.length_take,List.length_drop,Array.length_toList]
    omega
  have hj : sIx items.size items.size hi≤items.size:=sIx_le _ _ (Nat.le_refl _) hi
  obtain ⟨os,hos,hcs,hds⟩:=id hs
  have hTs : s.TypeIs (.ref sl) "slice":=⟨os,hos,hcs⟩
  unfold getItem
  try with_reducible refine wpAny_holding ?_
  first | refine wpAny_bind (wpAny_pure ?_) | skip
  refine wpAny_bind (wpAny_sequenceKey ht.typeIs (by decide) ?_)
  refine wpAny_bind (wpAny_callSpecial?_slot (name:=Str.ofString "__getitem__") ht.typeIs PyProof.Rows.slot_tuple_getitem
    (wpAny_call_entry PyProof.Rows.slot_tuple_getitem ht.typeIs entry_tuple_getitem ?_ (args_tuple_getitem _ _)))
  show wpAny _ _ (Builtin.Tuple.tupleItemsOf (.ref t) >>= _) _ _ s
  refine wpAny_bind (tupleItemsOf_ ht ?_)
  refine wpAny_bind (wpAny_typeOf hTs ?_)
  rw [if_pos (by decide)]
  refine wpAny_bind (sliceApplied_gen hs pl pu ?_)
  have hno : ¬ ((((sIx items.size 0 lo : Nat) : Int) == 0 && (1 : Int) == 1 && (sIx items.size items.size hi - sIx items.size 0 lo) == items.size) = true):=by
    intro q
    rw [Bool.and_eq_true,Bool.and_eq_true] at q
    have q1 : ((sIx items.size 0 lo : Nat) : Int) = 0:=eq_of_beq q.1.1
    have q2 : sIx items.size items.size hi - sIx items.size 0 lo = items.size:=eq_of_beq q.2
    exact hw ⟨by omega,by omega⟩
  show wpAny _ _ (if (((sIx items.size 0 lo : Nat) : Int) == 0 && (1 : Int) == 1 && (sIx items.size items.size hi - sIx items.size 0 lo) == items.size) = true then _ else _) _ _ s
  rw [if_neg hno,pick_gen]
  first
    | exact wpAny_bind (m:=Builtin.Tuple.tupleExact _) (wpAny_newObj_type (wpAny_pure ⟨_,rfl,wpAny_pure h⟩) htake)
    | exact wpAny_bind (m:=Builtin.Tuple.tupleExact _) (wpAny_newObj_type (wpAny_bind (wpAny_pure (wpAny_pure ⟨_,rfl,wpAny_pure h⟩))) htake)
    | exact wpAny_bind (wpAny_bind (m:=Builtin.Tuple.tupleExact _) (wpAny_newObj_type (wpAny_pure (wpAny_pure ⟨_,rfl,wpAny_pure h⟩)) htake))
    | exact wpAny_bind (wpAny_bind (m:=Builtin.Tuple.tupleExact _) (wpAny_newObj_type (wpAny_pure ⟨_,rfl,wpAny_pure h⟩) htake))
end
end HT
namespace L2
open PySem PySem.Spec PyProof.Rows
abbrev TO:=St→Hp→(Option Int→Hp→Prop)→Prop
def PO (X : Cx) (e : Option Expr) (t : TO) : Prop :=
  ∀ (pins : List (Addr × Obj)) (s : Shared) (σ : St) (H : Hp) (Q : Option Int→Hp→Prop),Inv X pins σ H s→t σ H Q →
    wpAny (model X.prog X.w) X.A (evalPart e X.env) (fun u s'=>∃ o H',Inv X pins σ H' s'∧IsPart u o∧Q o H') X.xe s
def tNoPart : TO:=fun _ H Q=>Q none H
def tPart (t : TE) : TO:=fun σ H Q=>t σ H fun x H1=>∃ i,x = .int i∧Q (some i) H1
theorem intsAre_of {ns : List Int} : ∀ {us : List Value},Vals (ns.map V.int) us→IntsAre us ns:=by
  induction ns with
  | nil=>intro us r;rw [List.map_nil] at r;cases r;exact .nil
  | cons n ns ih =>
    intro us r
    rw [List.map_cons] at r
    cases r with
    | cons r1 r2 =>
      obtain ⟨t,e⟩:=r1
      subst e
      exact .cons n t (ih r2)
section
variable {X : Cx} {e : Expr} {te : TE} {lo hi : Option Expr} {tl th : TO} {pos p2 : Pos}
theorem po_none : PO X none tNoPart:=by
  intro pins s σ H Q I h
  rw [evalPart_none]
  exact wpAny_pure ⟨none,H,I,.none,h⟩
theorem po_some (h : PE X e te) : PO X (some e) (tPart te):=by
  intro pins s σ H Q I hw
  rw [evalPart_some]
  refine thn (h pins s σ H _ I hw) fun u s1 ⟨x,H1,I1,r1,q1⟩=>?_
  obtain ⟨i,rfl,q⟩:=q1
  obtain ⟨t,rfl⟩:=r1
  exact ⟨some i,H1,I1,.int i t,q⟩
def SlR (X : Cx) (r : V→Option Int→Option Int→Hp→VK→Prop) : Prop :=
  ∀ (pins : List (Addr × Obj)) (s : Shared) (σ : St) (H : Hp) (x : V) (v vl vu : Value) (lo hi : Option Int) (sl : Addr) (Q : VK),Inv X pins σ H s→RelV x v→s.heap.IsSliceOf sl vl vu .none→IsPart vl lo→IsPart vu hi→r x lo hi H Q →
    ∃ T id,typeLookup (.type T) "__getitem__" = pure (some (.builtin id))∧s.TypeIs v T∧wpAny (model X.prog X.w) X.A (getItem v (.ref sl)) (EP X pins σ Q) X.xe s
def tSl (r : V→Option Int→Option Int→Hp→VK→Prop) (te : TE) (tl th : TO) : TE:=fun σ H Q=>te σ H fun x H1=>tl σ H1 fun l H2=>th σ H2 fun u H3=>r x l u H3 Q
theorem pe_slice {r : V→Option Int→Option Int→Hp→VK→Prop} (hr : SlR X r) (he : PE X e te) (hl : PO X lo tl) (hu : PO X hi th) : PE X (.Subscript e (.Slice lo hi none p2) pos) (tSl r te tl th):=.mk <| by
  intro pins s σ H Q I h
  refine Subscript_ (thn (he pins s σ H _ I h) fun v s1 ⟨x,H1,I1,r1,q1⟩=>?_)
  refine wpAny_Slice (thn (hl pins s1 σ H1 _ I1 q1) fun vl s2 ⟨l,H2,I2,pl,q2⟩=>thn (hu pins s2 σ H2 _ I2 q2) fun vu s3 ⟨u,H3,I3,pu,q3⟩=>?_)
  rw [evalPart_none]
  refine wpAny_pure ?_
  have I4 : Inv X pins σ H3 { s3 with heap:=s3.heap.push { cls:=.type "slice",data:=.fields #[vl,vu,.none] } }:=I3.kept (t':=s3.toks) fun b ob q=>Heap.get?_push_of_some _ q
  obtain ⟨T,id,hT,ht,hg⟩:=hr pins { s3 with heap:=s3.heap.push { cls:=.type "slice",data:=.fields #[vl,vu,.none] } } σ H3 x v vl vu l u s3.heap.objs.size Q I4 r1 (Heap.IsSliceOf.new ..) pl pu q3
  show wpAny (model X.prog X.w) X.A (subscriptTail e (.Slice lo hi none p2) v (.ref s3.heap.objs.size)) (EP X pins σ Q) X.xe { s3 with heap:=s3.heap.push { cls:=.type "slice",data:=.fields #[vl,vu,.none] } }
  exact tail_any (ops:=[.ref s3.heap.objs.size,v]) ht hT hg (by with_unfolding_all rfl)
def cutV (xs : List V) (lo hi : Option Int) : List V:=(xs.drop (HT.sIx xs.length 0 lo)).take (HT.sIx xs.length xs.length hi - HT.sIx xs.length 0 lo)
theorem cutV_length (xs : List V) (lo hi : Option Int) : (cutV xs lo hi).length≤xs.length:=by
  unfold cutV
  rw [List.length_take,List.length_drop]
  omega
def rSlT (K : PySem.W.Frag) : V→Option Int→Option Int→Hp→VK→Prop:=fun x lo hi H Q=>∃ a xs,x = .ref a∧SqT K H a xs ∧
  ¬ (HT.sIx xs.length 0 lo = 0∧HT.sIx xs.length xs.length hi = xs.length)∧∀ p,H p = none→Q (.ref p) (upd H p (.tup (cutV xs lo hi)))
theorem sl_tup : SlR X (rSlT X.K):=by
  intro pins s σ H x v vl vu lo hi sl Q I rx hs pl pu h
  obtain ⟨a,xs,rfl,hx,hw,q⟩:=h
  cases rx
  obtain ⟨its,r,ht,hz⟩:=I.tuple hx
  have hlen : its.toArray.size = xs.length:=by rw [List.size_toArray];exact r.length.symm
  refine ⟨"tuple",_,PyProof.Rows.slot_tuple_getitem.lookup,ht.typeIs,?_⟩
  refine HT.getItem_tuple_cut ht hs pl pu (by rw [hlen];exact hw) ?_ (by rw [hlen];exact hz)
  rw [hlen]
  refine ⟨.ref s.heap.objs.size,_,I.laid (t':=s.toks) (o:=.tup (cutV xs lo hi)) (fun b ob q=>Heap.get?_push_of_some _ q) (Nat.le_refl _) ?_,rfl,q _ (I.hok.fresh (Nat.le_refl _))⟩
  exact ⟨Nat.le_trans (cutV_length xs lo hi) hz,_,(r.drop (HT.sIx xs.length 0 lo)).take (HT.sIx xs.length xs.length hi - HT.sIx xs.length 0 lo),TupD.new _ _⟩
def rCatT (K : PySem.W.Frag) : R2:=fun x y H Q=>∃ a b xs ys,x = .ref a∧y = .ref b∧SqT K H a xs∧SqT K H b ys∧xs≠[]∧xs.length + ys.length≤sizeLine ∧
  (ys = []→Q (.ref a) H)∧(ys≠[]→∀ p,H p = none→Q (.ref p) (upd H p (.tup (xs ++ ys))))
theorem Vals.nil_iff {xs : List V} {us : List Value} (r : Vals xs us) : us = []↔xs = []:=by
  cases r with
  | nil=>simp
  | cons _ _=>simp
theorem op_catT : OpR X (binaryOp .Add) (rCatT X.K):=by
  intro pins s σ H x y v u Q I rx ry h
  obtain ⟨a,b,xs,ys,rfl,rfl,ha,hb,hx,hz,q1,q2⟩:=h
  cases rx
  cases ry
  obtain ⟨its,r1,p1,_⟩:=I.tuple ha
  obtain ⟨its2,r2,p2,_⟩:=I.tuple hb
  refine HT.cat_tup p1 p2 (fun z=>hx (r1.nil_iff.mp z)) (fun z=>⟨.ref a,H,I,rfl,q1 (r2.nil_iff.mp z)⟩) (fun z=>?_) (by rw [← r1.length,← r2.length];exact hz)
  refine ⟨.ref s.heap.objs.size,_,I.laid (t':=s.toks) (o:=.tup (xs ++ ys)) (fun b ob q=>Heap.get?_push_of_some _ q) (Nat.le_refl _) ?_,rfl,q2 (fun w=>z (r2.nil_iff.mpr w)) _ (I.hok.fresh (Nat.le_refl _))⟩
  exact ⟨by rw [List.length_append];exact hz,_,r1.append r2,TupD.new _ _⟩
end
def ixN (n : Nat) (i : Int) : Option Nat:=if 0≤i then (if i < n then some i.toNat else none) else if -(n : Int)≤i then some (i + n).toNat else none
def atI {α : Type} (xs : List α) (i : Int) : Option α:=(ixN xs.length i).bind fun j=>xs[j]?
theorem ixN_seq {n : Nat} {i : Int} {j : Nat} (h : ixN n i = some j) : seqIndex? i n = some j∧j < n∧-(n : Int)≤i∧i < n:=by
  unfold ixN at h
  by_cases h0 : 0≤i
  · rw [if_pos h0] at h
    by_cases h1 : i < n
    · rw [if_pos h1] at h
      have e : i.toNat = j:=Option.some.inj h
      exact ⟨by rw [seqIndex_of h0 h1,e],by omega,by omega,h1⟩
    · rw [if_neg h1] at h;cases h
  · rw [if_neg h0] at h
    by_cases h1 : -(n : Int)≤i
    · rw [if_pos h1] at h
      have e : (i + n).toNat = j:=Option.some.inj h
      exact ⟨by rw [seqIndex_neg (by omega) h1,e],by omega,h1,by omega⟩
    · rw [if_neg h1] at h;cases h
theorem atI_get {α : Type} {xs : List α} {i : Int} {v : α} (h : atI xs i = some v) : ∃ j,seqIndex? i xs.length = some j∧xs[j]? = some v∧j < xs.length∧-(xs.length : Int)≤i∧i < xs.length:=by
  unfold atI at h
  cases e : ixN xs.length i with
  | none=>rw [e] at h;cases h
  | some j =>
    rw [e] at h
    obtain ⟨h1,h2,h3,h4⟩:=ixN_seq e
    exact ⟨j,h1,h,h2,h3,h4⟩
def PlainIx (b : Expr) : Prop:=∀ o i,subscripted b false o i = operate [o,i] (getItem o i)
def IxR (X : Cx) (r : R2) : Prop :=
  ∀ (value slice : Expr) (pins : List (Addr × Obj)) (s : Shared) (σ : St) (H : Hp) (x y : V) (v u : Value) (Q : VK),Inv X pins σ H s→RelV x v→RelV y u→r x y H Q →
    subscripted slice false v u = operate [v,u] (getItem v u)→wpAny (model X.prog X.w) X.A (subscriptTail value slice v u) (EP X pins σ Q) X.xe s
def MtR (X : Cx) (id : String) (r : V→List V→Hp→VK→Prop) : Prop :=
  ∀ (pins : List (Addr × Obj)) (s : Shared) (σ : St) (H : Hp) (x : V) (xs : List V) (v : Value) (us : List Value) (Q : VK),Inv X pins σ H s→RelV x v→Vals xs us→r x xs H Q →
    wpAny (model X.prog X.w) X.A (call (.builtin id) (v :: us)) (EP X pins σ Q) X.xe s
section
variable {X : Cx} {a b : Expr} {ta tb : TE} {pos : Pos}
theorem IxR.or {r r' : R2} (h : IxR X r) (h' : IxR X r') : IxR X (fun x y H Q=>r x y H Q∨r' x y H Q):=by
  intro value slice pins s σ H x y v u Q I rx ry q hs
  rcases q with q | q
  · exact h value slice pins s σ H x y v u Q I rx ry q hs
  · exact h' value slice pins s σ H x y v u Q I rx ry q hs
theorem pe_ix {r : R2} (hr : IxR X r) (ha : PE X a ta) (hb : PE X b tb) (hs : PlainIx b) : PE X (.Subscript a b pos) (tOp r ta tb):=.mk <| by
  intro pins s σ H Q I h
  exact Subscript_ (binT ha hb I h fun v u s2 x y H2 I2 rx ry q=>hr a b pins s2 σ H2 x y v u Q I2 rx ry q (hs _ _))
def rIxL (K : PySem.W.Frag) : R2:=fun x y H Q=>∃ p xs i v,x = .ref p∧y = .int i∧SqL K H p xs∧atI xs i = some v∧Q v H
def rIxT (K : PySem.W.Frag) : R2:=fun x y H Q=>∃ p xs i v,x = .ref p∧y = .int i∧SqT K H p xs∧atI xs i = some v∧Q v H
def rIxS : R2:=fun x y H Q=>∃ z i c,x = .str z∧y = .int i∧z.length≤sizeLine∧atI z.cps.toList i = some c∧Q (.str ⟨#[c]⟩) H
theorem ix_list : IxR X (rIxL X.K):=by
  intro value slice pins s σ H x y v u Q I rx ry h hs
  obtain ⟨p,xs,i,z,rfl,rfl,hq,he,q⟩:=h
  cases rx
  obtain ⟨t,rfl⟩:=ry
  obtain ⟨its,r,pl,hz⟩:=I.list hq
  obtain ⟨j,h1,h2,h3,h4,h5⟩:=atI_get he
  obtain ⟨w,ew,rw'⟩:=r.get h2
  have hl:=r.length
  have hn:=line63
  have fin : EP X pins σ Q w s:=⟨z,H,I,rw',q⟩
  by_cases h0 : 0≤i
  · have hj : i.toNat = j:=by
      rw [seqIndex_of h0 h5] at h1
      exact Option.some.inj h1
    exact item_listR pl.isList h0 (by omega) (by rw [hj];simpa using ew) fin hs
  · have hj : (i + (its.toArray.size : Int)).toNat = j:=by
      rw [seqIndex_neg (by omega) h4] at h1
      rw [List.size_toArray,← hl]
      exact Option.some.inj h1
    exact subscriptTail_builtinR (x:=w) pl.isList.typeIs slot_list_getitem.lookup
      (wpAny_getItem_list_neg (Q:=fun r s'=>r = w∧EP X pins σ Q r s') pl.isList (by omega) (by rw [List.size_toArray]<;>omega) (by omega) (by rw [hj];simpa using ew) ⟨rfl,fin⟩) hs
theorem ix_tup : IxR X (rIxT X.K):=by
  intro value slice pins s σ H x y v u Q I rx ry h hs
  obtain ⟨p,xs,i,z,rfl,rfl,hq,he,q⟩:=h
  cases rx
  obtain ⟨t,rfl⟩:=ry
  obtain ⟨its,r,pl,hz⟩:=I.tuple hq
  obtain ⟨j,h1,h2,h3,h4,h5⟩:=atI_get he
  obtain ⟨w,ew,rw'⟩:=r.get h2
  have hl:=r.length
  have hn:=line63
  have fin : EP X pins σ Q w s:=⟨z,H,I,rw',q⟩
  exact subscriptTail_builtinR (x:=w) pl.typeIs slot_tuple_getitem.lookup
    (getItem_tuple (j:=j) (Q:=fun r s'=>r = w∧EP X pins σ Q r s') pl (by omega) (by omega) (by rw [List.size_toArray,← hl];exact h1) (by simpa using ew) ⟨rfl,fin⟩) hs
theorem ix_str : IxR X rIxS:=by
  intro value slice pins s σ H x y v u Q I rx ry h hs
  obtain ⟨z,i,c,rfl,rfl,hz,he,q⟩:=h
  obtain ⟨t,rfl⟩:=rx
  obtain ⟨t',rfl⟩:=ry
  obtain ⟨j,h1,h2,h3,h4,h5⟩:=atI_get he
  have hl : z.cps.toList.length = z.length:=by simp [Str.length]
  rw [hl] at h1 h4 h5
  have hn:=line63
  exact tail_any (typeIs_str s z t) slot_str_getitem.lookup (getItem_str (c:=c) (by
    have e1 : decide (i < -(2 ^ 63 : Int)) = false:=decide_eq_false (by omega)
    have e2 : decide (i ≥ 2 ^ 63) = false:=decide_eq_false (by omega)
    rw [e1,e2,Bool.or_false]) (by rw [h1];simpa using h2) ⟨.str ⟨#[c]⟩,H,I.tok _,⟨_,rfl⟩,q⟩) hs
def rIx (K : PySem.W.Frag) : R2:=fun x y H Q=>rIxL K x y H Q∨rIxT K x y H Q∨rIxS x y H Q
theorem ix_seq : IxR X (rIx X.K):=ix_list.or (ix_tup.or ix_str)
theorem mapSeq_set (its : List Value) (n j : Nat) (u : Value) : Obj.mapSeq (·.setIfInBounds j u) { cls:=.type "list",data:=.seq its.toArray n } = { cls:=.type "list",data:=.seq (its.set j u).toArray n }:=by
  simp [Obj.mapSeq]
theorem Inv.lst {pins : List (Addr × Obj)} {σ : St} {H : Hp} {s : Shared} {p : Addr} {xs : List V} (I : Inv X pins σ H s) (h : H p = some (.lst xs)) :
    ∃ (its : List Value) (n : Nat),Vals xs its∧s.heap.get? p = some { cls:=.type "list",data:=.seq its.toArray n }∧xs.length≤sizeLine:=by
  obtain ⟨z,its,n,r,e⟩:=I.hok p _ h
  exact ⟨its,n,r,e,z⟩
theorem Inv.lstUpd {pins : List (Addr × Obj)} {σ : St} {H : Hp} {s : Shared} {p : Addr} {xs ys : List V} {its its' : List Value} {n n' : Nat} {f : Obj→Obj} (I : Inv X pins σ H s) (h : H p = some (.lst xs))
    (ho : s.heap.get? p = some { cls:=.type "list",data:=.seq its.toArray n }) (hf : f { cls:=.type "list",data:=.seq its.toArray n } = { cls:=.type "list",data:=.seq its'.toArray n' }) (r : Vals ys its') (hz : ys.length≤sizeLine) (t : Nat) :
    Inv X pins σ (upd H p (.lst ys)) { s with heap:=s.heap.update p f,toks:=t }:=by
  have e : (s.heap.update p f).get? p = some { cls:=.type "list",data:=.seq its'.toArray n' }:=by
    rw [Heap.get?_update_self f ho (by rw [hf]<;>rfl),hf]
  refine I.write (x:=p) (e:=p) (by rw [h];trivial) (.inl rfl) (fun b u hb q=>(Heap.get?_update_other _ _ (Ne.symm hb)).trans q) ⟨_,e⟩ ?_
  exact ⟨hz,its',n',r,e⟩
def rSetL : V→V→V→Hp→(Hp→Prop)→Prop:=fun o i v H Q=>∃ p xs k j,o = .ref p∧i = .int k∧H p = some (.lst xs)∧ixN xs.length k = some j∧Q (upd H p (.lst (xs.set j v)))
theorem set_list : PSet X rSetL:=by
  intro pins s σ H o i v ov iv u Q I ro ri rv h
  obtain ⟨p,xs,k,j,rfl,rfl,hp,hj,q⟩:=h
  cases ro
  obtain ⟨t,rfl⟩:=ri
  obtain ⟨its,n,r,ho,hz⟩:=I.lst hp
  obtain ⟨h1,h2,h3,h4⟩:=ixN_seq hj
  have hl:=r.length
  have hn:=line63
  have I' : Inv X pins σ (upd H p (.lst (xs.set j v))) { s with heap:=s.heap.update p (Obj.mapSeq (·.setIfInBounds j u)) } :=
    I.lstUpd hp ho (mapSeq_set its n j u) (r.set rv j) (by rw [List.length_set];exact hz) s.toks
  by_cases h0 : 0≤k
  · have hk : k.toNat = j:=by
      rw [seqIndex_of h0 h4] at h1
      exact Option.some.inj h1
    exact PySem.W.ki_setAt ho h0 (by omega) (by rw [List.size_toArray,← hl];exact h4) (by rw [hk];exact ⟨_,I',q⟩)
  · have hk : (k + (its.toArray.size : Int)).toNat = j:=by
      rw [seqIndex_neg (by omega) h3] at h1
      rw [List.size_toArray,← hl]
      exact Option.some.inj h1
    exact PySem.W.ki_setBack ho (by omega) (by rw [List.size_toArray,← hl];exact h3) (by omega) (by rw [hk];exact ⟨_,I',q⟩)
theorem slice_bounds (lo hi : Option Int) (n : Nat) : (sliceBounds lo hi none n).1 = ((HT.sIx n 0 lo : Nat) : Int)∧(sliceBounds lo hi none n).2.1 = ((HT.sIx n n hi : Nat) : Int)∧(sliceBounds lo hi none n).2.2 = 1:=by
  refine ⟨?_,?_,rfl⟩
  · cases lo with
    | none=>simp [sliceBounds,HT.sIx]
    | some i =>
      simp only [sliceBounds,HT.sIx,Option.getD_none,show (1 : Int) > 0 by decide,if_true]
      by_cases h : i < 0
      · simp only [h,if_true]<;>omega
      · simp only [h,if_false]<;>omega
  · cases hi with
    | none=>simp [sliceBounds,HT.sIx]
    | some i =>
      simp only [sliceBounds,HT.sIx,Option.getD_none,show (1 : Int) > 0 by decide,if_true]
      by_cases h : i < 0
      · simp only [h,if_true]<;>omega
      · simp only [h,if_false]<;>omega
theorem slicePick_cut (its : List Value) (lo hi : Option Int) : slicePick its.toArray lo hi none = ((its.drop (HT.sIx its.length 0 lo)).take (HT.sIx its.length its.length hi - HT.sIx its.length 0 lo)).toArray:=by
  obtain ⟨h1,h2,h3⟩:=slice_bounds lo hi its.toArray.size
  unfold slicePick
  rw [h1,h2,h3]
  simp only [sliceRange_one,pick_run,List.size_toArray]<;>rfl
def rSlL (K : PySem.W.Frag) : V→Option Int→Option Int→Hp→VK→Prop:=fun x lo hi H Q=>∃ a xs,x = .ref a∧SqL K H a xs∧∀ p,H p = none→Q (.ref p) (upd H p (.lst (cutV xs lo hi)))
theorem sl_list : SlR X (rSlL X.K):=by
  intro pins s σ H x v vl vu lo hi sl Q I rx hs pl pu h
  obtain ⟨a,xs,rfl,hx,q⟩:=h
  cases rx
  obtain ⟨its,r,ht,hz⟩:=I.list hx
  have hlen:=r.length
  refine ⟨"list",_,slot_list_getitem.lookup,ht.isList.typeIs,?_⟩
  refine wpAny_getItem_list_slice ht.isList hs pl pu .none (by simp) ?_ (by rw [List.size_toArray]<;>omega)
  rw [slicePick_cut,← hlen]
  refine ⟨.ref s.heap.objs.size,_,I.laid (t':=s.toks) (o:=.lst (cutV xs lo hi)) (fun b ob q=>Heap.get?_push_of_some _ q) (Nat.le_refl _) ?_,rfl,q _ (I.hok.fresh (Nat.le_refl _))⟩
  exact ⟨Nat.le_trans (cutV_length xs lo hi) hz,_,0,(r.drop (HT.sIx xs.length 0 lo)).take (HT.sIx xs.length xs.length hi - HT.sIx xs.length 0 lo),Heap.get?_push_size _ rfl⟩
theorem call_list_of : CallR X (.type "list") (fun xs H Q=>∃ p ys,xs = [.ref p]∧(SqL X.K H p ys∨SqT X.K H p ys)∧∀ l,H l = none→Q (.ref l) (upd H l (.lst ys))):=by
  intro pins s σ H xs us Q I r h
  obtain ⟨p,ys,rfl,hq,q⟩:=h
  obtain ⟨u,rfl,rx⟩:=vals1 r
  cases rx
  have fin : ∀ (its : List Value),Vals ys its→ys.length≤sizeLine→∀ (h' : Heap) (c' : Nat),(∀ b o',s.heap.get? b = some o'→h'.get? b = some o') →
      h'.get? s.heap.objs.size = some { cls:=.type "list",dict:=none,data:=.seq its.toArray c',slots:=#[] }→EP X pins σ Q (.ref s.heap.objs.size) { s with heap:=h' }:=fun its r' hz h' c' kp e =>
    ⟨.ref s.heap.objs.size,_,I.laid (t':=s.toks) kp (Nat.le_refl _) (show ObjOk X.prog X.w _ h' _ (.lst ys) from ⟨hz,its,c',r',e⟩),rfl,q _ (I.hok.fresh (Nat.le_refl _))⟩
  rcases hq with hq | hq
  · obtain ⟨its,r',pl,hz⟩:=I.list hq
    have hlen:=r'.length
    obtain ⟨o,ho,hc,n,hd⟩:=pl.isList
    exact call_list_seq p (.inl rfl) ho hc hd (fun h' c' kp e=>fin its r' hz h' c' kp e) (by simp only [List.size_toArray]<;>omega)
  · obtain ⟨its,r',pl,hz⟩:=I.tuple hq
    have hlen:=r'.length
    obtain ⟨o,ho,hc,n,hd⟩:=pl
    exact call_list_seq p (.inr rfl) ho hc hd (fun h' c' kp e=>fin its r' hz h' c' kp e) (by simp only [List.size_toArray]<;>omega)
theorem call_tuple_of : CallR X (.type "tuple") (fun xs H Q=>∃ p ys,xs = [.ref p]∧((SqL X.K H p ys∧∀ l,H l = none→Q (.ref l) (upd H l (.tup ys)))∨(SqT X.K H p ys∧Q (.ref p) H))):=by
  intro pins s σ H xs us Q I r h
  obtain ⟨p,ys,rfl,h⟩:=h
  obtain ⟨u,rfl,rx⟩:=vals1 r
  cases rx
  rcases h with ⟨hq,q⟩ | ⟨hq,q⟩
  · obtain ⟨its,r',pl,hz⟩:=I.list hq
    have hlen:=r'.length
    refine call_tuple_list pl.isList (fun h' kp=>?_) (by simp only [List.size_toArray]<;>omega)
    have I1 : Inv X pins σ H { s with heap:=h' }:=I.kept (t':=s.toks) kp
    have I2 : Inv X pins σ (upd H h'.objs.size (.tup ys)) { s with heap:=h'.push { cls:=.type "tuple",data:=.seq its.toArray } } :=
      I1.laid (t':=s.toks) (fun b o e=>Heap.get?_push_of_some _ e) (Nat.le_refl _) (show ObjOk X.prog X.w _ _ _ (.tup ys) from ⟨hz,its,r',TupD.new _ _⟩)
    exact ⟨.ref h'.objs.size,_,I2,rfl,q _ (I1.hok.fresh (Nat.le_refl _))⟩
  · obtain ⟨its,r',pl,hz⟩:=I.tuple hq
    exact call_tuple_same pl ⟨.ref p,H,I,rfl,q⟩
def tyV (K : PySem.W.Frag) (T : String) (x : V) (H : Hp) : Prop:=match x with
  | .str _=>T = "str"
  | .int _=>T = "int"
  | .ref p=>(T = "list"∧∃ xs,SqL K H p xs)∨(T = "tuple"∧∃ o,K.lookup p = some o∧o.cls = .type "tuple"∧o.dict = none) ∨
      (T = "dict"∧((∃ kvs,H p = some (.dK kvs))∨∃ kvs,H p = some (.dT kvs)))∨(T = "set"∧∃ S n,H p = some (.set S n))
  | _=>False
theorem tyV_is {pins : List (Addr × Obj)} {σ : St} {H : Hp} {s : Shared} {T : String} {x : V} {v : Value} (I : Inv X pins σ H s) (r : RelV x v) (ty : tyV X.K T x H) :
    s.TypeIs v T∧∀ a,v = .ref a→∃ ob,s.heap.get? a = some ob∧ob.dict = none:=by
  cases x with
  | str z =>
    obtain ⟨t,rfl⟩:=r
    cases (show T = "str" from ty)
    exact ⟨typeIs_str s z t,fun _ e=>nomatch e⟩
  | int i =>
    obtain ⟨t,rfl⟩:=r
    cases (show T = "int" from ty)
    exact ⟨typeIs_int s i t,fun _ e=>nomatch e⟩
  | ref p =>
    cases r
    rcases ty with ⟨rfl,xs,hq⟩ | ⟨rfl,o,hk,hc,hd⟩ | ⟨rfl,hk⟩ | ⟨rfl,S,n,hk⟩
    · obtain ⟨its,_,pl,_⟩:=I.list hq
      refine ⟨pl.isList.typeIs,fun a e=>?_⟩
      cases e
      obtain ⟨o,n,e,c,hd,_⟩:=pl
      exact ⟨o,e,hd⟩
    · refine ⟨⟨o,I.kIn p o hk,hc⟩,fun a e=>?_⟩
      cases e
      exact ⟨o,I.kIn _ o hk,hd⟩
    · have z : ∃ o,s.heap.get? p = some o∧o.ExactDict:=by
        rcases hk with ⟨kvs,hk⟩ | ⟨kvs,hk⟩
        · obtain ⟨_,_,_,_,o,_,_,e,ex,_⟩:=I.hok p _ hk
          exact ⟨o,e,ex⟩
        · obtain ⟨_,_,_,_,o,_,_,e,ex,_⟩:=I.hok p _ hk
          exact ⟨o,e,ex⟩
      obtain ⟨o,e,ex⟩:=z
      refine ⟨⟨o,e,ex.1⟩,fun a e2=>?_⟩
      cases e2
      exact ⟨o,e,ex.2.1⟩
    · obtain ⟨o,_,_,_,e,ex,_⟩:=I.hok p _ hk
      refine ⟨⟨o,e,ex.1⟩,fun a e2=>?_⟩
      cases e2
      exact ⟨o,e,ex.2.1⟩
  | _=>exact False.elim ty
def tBM0 (K : PySem.W.Frag) (T : String) (r : V→List V→Hp→VK→Prop) (to : TE) : TE:=fun σ H Q=>to σ H fun x H1=>tyV K T x H1∧r x [] H1 Q
def tBM (K : PySem.W.Frag) (T : String) (r : V→List V→Hp→VK→Prop) (to : TE) (t : TA) : TE:=fun σ H Q=>to σ H fun x H1=>tyV K T x H1∧t σ H1 fun xs H2=>r x xs H2 Q
variable {o e : Expr} {es : List Expr} {to : TE} {t : TA} {name : Str} {apos cpos : Pos} {T id : String} {r : V→List V→Hp→VK→Prop}
theorem pe_bm0 (pa : PlainAttrs T) (slot : Slot T name id) (hty : typeOf (.builtin id) = pure (.type "method_descriptor")) (hm : MtR X id r) (ho : PE X o to)
    (hbase : attributeBase o name X.env (eval o X.env) = eval o X.env:=by rfl) (hline : (apos.endLine == cpos.line) = true:=by rfl) : PE X (.Call (.Attribute o name apos) [] [] cpos) (tBM0 X.K T r to):=.mk <| by
  intro pins s σ H Q I h
  refine wpAny_Call_method0_late hbase hline (thn (ho pins s σ H _ I h) fun v s1 ⟨x,H1,I1,r1,ty,q1⟩=>?_)
  obtain ⟨h1,h2⟩:=tyV_is I1 r1 ty
  exact ⟨T,id,pa,slot,hty,h1,h2,Calls.callWith_builtin rfl (PySem.evalArgs_none (hm pins s1 σ H1 x [] v [] Q I1 r1 .nil q1))⟩
theorem pe_bm (pa : PlainAttrs T) (slot : Slot T name id) (hty : typeOf (.builtin id) = pure (.type "method_descriptor")) (hm : MtR X id r) (ho : PE X o to) (ha : PA X (e :: es) t)
    (hbase : attributeBase o name X.env (eval o X.env) = eval o X.env:=by rfl)
    (hfew : ((backTo cpos (starEach (e :: es) X.env)).all (fun x=>!x.1) && (backToKw cpos (keywordEach [] X.env)).all (fun x=>x.1.isSome)
      && decide ((e :: es).length + ([] : List Keyword).length + (if ([] : List Keyword).isEmpty then 0 else 1) < 30)) = true:=by rfl)
    (hline : (apos.endLine == cpos.line) = true:=by rfl) (hs : starEach (e :: es) X.env = (false,eval e X.env) :: starEach es X.env:=by rfl) (hplain : (backTo cpos (starEach es X.env)).any (·.1) = false:=by rfl) :
    PE X (.Call (.Attribute o name apos) (e :: es) [] cpos) (tBM X.K T r to t):=.mk <| by
  intro pins s σ H Q I h
  refine wpAny_Call_method_late hbase hfew hline rfl (thn (ho pins s σ H _ I h) fun v s1 ⟨x,H1,I1,r1,ty,q1⟩=>?_)
  obtain ⟨h1,h2⟩:=tyV_is I1 r1 ty
  refine ⟨T,id,pa,slot,hty,h1,h2,?_⟩
  have hA:=ha cpos pins s1 σ H1 _ I1 q1
  rw [hs] at hA ⊢
  refine Calls.callWith_builtin (by show (false || (backTo cpos (starEach es X.env)).any (·.1)) = false;rw [hplain]<;>rfl) (Calls.evalArgs_plain ?_)
  exact thn hA fun us s2 ⟨vs,H2,I2,r2,q2⟩=>hm pins s2 σ H2 x vs v us Q I2 r1 r2 q2
end
def MtM (X : Cx) (id : String) (r : V→List V→Hp→VK→Prop) : Prop :=
  ∀ (pins : List (Addr × Obj)) (s : Shared) (σ : St) (H : Hp) (x : V) (xs : List V) (v : Value) (us : List Value) (Q : VK),Inv X pins σ H s→RelV x v→Vals xs us→r x xs H Q →
    wpAny (model X.prog X.w) X.A (call (.builtin id) (v :: us)) (EP X pins σ Q) X.xe s
theorem Vals.one : ∀ {x : V} {us : List Value},Vals [x] us→∃ u,us = [u]∧RelV x u
  | _,_,.cons r .nil=>⟨_,rfl,r⟩
theorem Vals.zero : ∀ {us : List Value},Vals [] us→us = []
  | _,.nil=>rfl
theorem Vals.dropLast {xs : List V} {us : List Value} (h : Vals xs us) : Vals xs.dropLast us.dropLast:=by
  induction h with
  | nil=>exact .nil
  | cons r t ih =>
    cases t with
    | nil=>exact .nil
    | cons q t'=>exact .cons r ih
theorem Vals.eraseIdx : ∀ {xs : List V} {us : List Value} (i : Nat),Vals xs us→Vals (xs.eraseIdx i) (us.eraseIdx i)
  | _,_,_,.nil=>.nil
  | _,_,0,.cons _ t=>t
  | _,_,i + 1,.cons r t=>.cons r (Vals.eraseIdx i t)
theorem Vals.reverse {xs : List V} {us : List Value} (h : Vals xs us) : Vals xs.reverse us.reverse:=by
  induction h with
  | nil=>exact .nil
  | cons r t ih=>rw [List.reverse_cons,List.reverse_cons];exact Vals.append ih (.cons r .nil)
theorem Vals.rep {xs : List V} {us : List Value} (h : Vals xs us) : ∀ k : Nat,Vals (List.replicate k xs).flatten (List.replicate k us).flatten
  | 0=>.nil
  | k + 1=>by
    rw [List.replicate_succ,List.replicate_succ,List.flatten_cons,List.flatten_cons]
    exact Vals.append h (Vals.rep h k)
theorem erase_last {α : Type} (l : List α) : l.eraseIdx (l.length - 1) = l.dropLast:=by
  induction l with
  | nil=>rfl
  | cons a r ih =>
    cases r with
    | nil=>rfl
    | cons b r =>
      have e : (a :: b :: r).length - 1 = ((b :: r).length - 1) + 1:=by
        have h1 : (a :: b :: r).length = r.length + 2:=rfl
        have h2 : (b :: r).length = r.length + 1:=rfl
        omega
      rw [e,List.eraseIdx_cons_succ,ih]
      all_goals rfl
theorem len_erase {α : Type} : ∀ (l : List α) (i : Nat),(l.eraseIdx i).length≤l.length
  | [],_=>Nat.le_refl _
  | _ :: _,0=>Nat.le_succ _
  | _ :: r,i + 1=>Nat.succ_le_succ (len_erase r i)
theorem foldl_rep (its : List Value) : ∀ (k : Nat) (acc : List Value),
    List.foldl (fun x1 x2=>x1 ++ x2) acc.toArray (List.replicate k its.toArray) = (acc ++ (List.replicate k its).flatten).toArray
  | 0,acc=>by simp
  | k + 1,acc=>by
    have e : acc.toArray ++ its.toArray = (acc ++ its).toArray:=by simp
    have e2 : (acc ++ its) ++ (List.replicate k its).flatten = acc ++ (List.replicate (k + 1) its).flatten:=by
      rw [List.replicate_succ,List.flatten_cons,List.append_assoc]
    rw [← e2,← foldl_rep its k (acc ++ its),← e,List.replicate_succ,List.foldl_cons]
section
variable {X : Cx} {pins : List (Addr × Obj)} {σ : St} {H : Hp} {s : Shared} {l b : Addr} {xs ys zs : List V}
theorem Inv.lset {its its' : List Value} {n : Nat} {f : Array Value→Array Value} {t' : Nat} (I : Inv X pins σ H s) (hH : H l = some (.lst xs))
    (e : s.heap.get? l = some { cls:=.type "list",data:=.seq its.toArray n }) (hf : f its.toArray = its'.toArray) (hv : Vals ys its') (hz : ys.length≤sizeLine) :
    Inv X pins σ (upd H l (.lst ys)) { s with heap:=s.heap.update l (Obj.mapSeq f),toks:=t' }:=by
  have q:=PySem.IsL.update e f
  rw [hf] at q
  refine I.write (x:=l) (e:=l) (by rw [hH];exact trivial) (.inl rfl) (fun b' u hb hu=>(Heap.get?_update_other s.heap (Obj.mapSeq f) (Ne.symm hb)).trans hu) ⟨_,q⟩ ?_
  exact ⟨hz,its',_,hv,q⟩
theorem Inv.lnew {its : List Value} {t' : Nat} (I : Inv X pins σ H s) (hv : Vals ys its) (hz : ys.length≤sizeLine) :
    Inv X pins σ (upd H s.heap.objs.size (.lst ys)) { s with heap:=s.heap.push { cls:=.type "list",data:=.seq its.toArray },toks:=t' } :=
  I.laid (fun _ _ q=>Heap.get?_push_of_some _ q) (Nat.le_refl _) ⟨hz,its,0,hv,Heap.get?_push_size _ rfl⟩
theorem Inv.fresh (I : Inv X pins σ H s) : H s.heap.objs.size = none:=I.hok.fresh (Nat.le_refl _)
theorem Inv.lstM (I : Inv X pins σ H s) (hH : H l = some (.lst xs)) : xs.length≤sizeLine∧∃ (its : List Value) (n : Nat),Vals xs its∧xs.length = its.length∧s.heap.get? l = some { cls:=.type "list",data:=.seq its.toArray n }:=by
  obtain ⟨z,its,n,r,e⟩:=I.hok l _ hH
  exact ⟨z,its,n,r,r.length,e⟩
theorem notLongL {n : Nat} (h : n≤sizeLine) : Builtin.List.listTooLong n = false:=by
  unfold Builtin.List.listTooLong
  exact decide_eq_false (by omega)
end
section
variable {X : Cx}
def rAppend : V→List V→Hp→VK→Prop:=fun x vs H Q=>∃ l xs y,x = .ref l∧vs = [y]∧H l = some (.lst xs)∧xs.length < sizeLine∧Q .non (upd H l (.lst (xs ++ [y])))
theorem mt_append : MtM X "list.append" rAppend:=by
  intro pins s σ H x vs v us Q I rx rv h
  obtain ⟨l,xs,y,rfl,rfl,hH,hz,q⟩:=h
  cases rx
  obtain ⟨u,rfl,ru⟩:=rv.one
  obtain ⟨z,its,n,r,hl,e⟩:=I.lstM hH
  refine call_meets F.slot_list_append ⟨_,e,rfl⟩ F.entry_list_append (F.args_list_append_2 _ _) (PySem.list_append l its.toArray n u (by rw [List.size_toArray];omega)) ⟨e,?_⟩
  refine ⟨.non,_,I.lset (its':=its ++ [u]) hH e (by simp) (r.append (.cons ru .nil)) ?_,rfl,q⟩
  rw [List.length_append,List.length_singleton]
  omega
def rExtend : V→List V→Hp→VK→Prop:=fun x vs H Q=>∃ l b xs zs,x = .ref l∧vs = [.ref b]∧H l = some (.lst xs)∧H b = some (.lst zs)∧xs.length + zs.length≤sizeLine∧Q .non (upd H l (.lst (xs ++ zs)))
theorem mt_extend : MtM X "list.extend" rExtend:=by
  intro pins s σ H x vs v us Q I rx rv h
  obtain ⟨l,b,xs,zs,rfl,rfl,hH,hB,hz,q⟩:=h
  cases rx
  obtain ⟨u,rfl,ru⟩:=rv.one
  cases ru
  obtain ⟨z,its,n,r,hl,e⟩:=I.lstM hH
  obtain ⟨z2,its2,n2,r2,hl2,e2⟩:=I.lstM hB
  have hsz : its.toArray.size + its2.toArray.size≤sizeLine:=by rw [List.size_toArray,List.size_toArray];omega
  have hlong : ¬ (!its.toArray.isEmpty && Builtin.List.listTooLong (its.toArray.size + its2.toArray.size)) = true:=by
    rw [notLongL hsz,Bool.and_false]
    exact Bool.false_ne_true
  refine call_meets F.slot_list_extend ⟨_,e,rfl⟩ F.entry_list_extend (F.args_list_extend_2 _ _)
    (AutoSeq1.list_extend_list_list_0 l its.toArray n b its2.toArray n2 hlong (by rw [List.size_toArray];omega) (by omega)) ⟨e,e2,?_⟩
  refine ⟨.non,_,I.lset (its':=its ++ its2) hH e (by simp) (r.append r2) ?_,rfl,q⟩
  rw [List.length_append]
  omega
def rPop : V→List V→Hp→VK→Prop:=fun x vs H Q=>∃ l xs y,x = .ref l∧vs = []∧H l = some (.lst xs)∧xs[xs.length - 1]? = some y∧Q y (upd H l (.lst xs.dropLast))
theorem mt_pop : MtM X "list.pop" rPop:=by
  intro pins s σ H x vs v us Q I rx rv h
  obtain ⟨l,xs,y,rfl,rfl,hH,hy,q⟩:=h
  cases rx
  have hus:=rv.zero
  subst hus
  obtain ⟨z,its,n,r,hl,e⟩:=I.lstM hH
  obtain ⟨u,hu,ru⟩:=r.get hy
  have hy' : its.toArray[its.toArray.size - 1]? = some u:=by
    show its.toArray[its.length - 1]? = some u
    rw [← Array.getElem?_toList,← hl]
    exact hu
  refine call_meets F.slot_list_pop ⟨_,e,rfl⟩ F.entry_list_pop (F.args_list_pop_1 _) (MeetsSeq.list_pop_last l its.toArray n u hy' (by rw [List.size_toArray];omega)) ⟨e,?_⟩
  refine ⟨y,_,I.lset (its':=its.dropLast) hH e ?_ r.dropLast ?_,ru,q⟩
  · show its.toArray.eraseIdxIfInBounds (its.toArray.size - 1) = its.dropLast.toArray
    rw [List.size_toArray,List.eraseIdxIfInBounds_toArray,erase_last]
  · rw [List.length_dropLast]
    omega
def rPopAt : V→List V→Hp→VK→Prop:=fun x vs H Q=>∃ l xs i k y,x = .ref l∧vs = [.int i]∧H l = some (.lst xs)∧-(2 ^ 63)≤i∧i < 2 ^ 63∧seqIndex? i xs.length = some k∧xs[k]? = some y∧Q y (upd H l (.lst (xs.eraseIdx k)))
theorem mt_popAt : MtM X "list.pop" rPopAt:=by
  intro pins s σ H x vs v us Q I rx rv h
  obtain ⟨l,xs,i,k,y,rfl,rfl,hH,h1,h2,hk,hy,q⟩:=h
  cases rx
  obtain ⟨u,rfl,ru⟩:=rv.one
  obtain ⟨t,rfl⟩:=ru
  obtain ⟨z,its,n,r,hl,e⟩:=I.lstM hH
  obtain ⟨w,hw,rw'⟩:=r.get hy
  refine call_meets F.slot_list_pop ⟨_,e,rfl⟩ F.entry_list_pop (F.args_list_pop_2 _ _)
    (MeetsSeq.list_pop_at l its.toArray n i t k w (fitsIndex_both h1 h2) (by rw [List.size_toArray,← hl];exact hk) (by rw [← Array.getElem?_toList];exact hw) (by rw [List.size_toArray];omega)) ⟨e,?_⟩
  refine ⟨y,_,I.lset (its':=its.eraseIdx k) hH e ?_ (r.eraseIdx k) ?_,rw',q⟩
  · show its.toArray.eraseIdxIfInBounds k = (its.eraseIdx k).toArray
    rw [List.eraseIdxIfInBounds_toArray]
  · have:=len_erase xs k
    omega
def rCat : R2:=fun x y H Q=>∃ l b xs zs,x = .ref l∧y = .ref b∧H l = some (.lst xs)∧H b = some (.lst zs)∧xs.length + zs.length≤sizeLine∧∀ p,H p = none→Q (.ref p) (upd H p (.lst (xs ++ zs)))
theorem op_cat : OpR X (binaryOp .Add) rCat:=by
  intro pins s σ H x y v u Q I rx ry h
  obtain ⟨l,b,xs,zs,rfl,rfl,hH,hB,hz,q⟩:=h
  cases rx
  cases ry
  obtain ⟨z,its,n,r,hl,e⟩:=I.lstM hH
  obtain ⟨z2,its2,n2,r2,hl2,e2⟩:=I.lstM hB
  refine PySem.P.add_list e e2 ?_ (by rw [List.size_toArray,List.size_toArray];omega)
  have ea : its.toArray ++ its2.toArray = (its ++ its2).toArray:=by simp
  rw [ea]
  exact ⟨.ref _,_,I.lnew (t':=s.toks) (r.append r2) (by rw [List.length_append];omega),rfl,q _ I.fresh⟩
def rRep : R2:=fun x y H Q=>∃ l k xs,x = .ref l∧y = .int k∧H l = some (.lst xs)∧-(2 ^ 63)≤k∧k < 2 ^ 63∧xs.length * k.toNat≤sizeLine ∧
  ∀ p,H p = none→Q (.ref p) (upd H p (.lst (List.replicate k.toNat xs).flatten))
theorem len_rep {α : Type} (xs : List α) (k : Nat) : (List.replicate k xs).flatten.length = k * xs.length:=by
  induction k with
  | zero=>simp
  | succ k ih=>rw [List.replicate_succ,List.flatten_cons,List.length_append,ih,Nat.succ_mul,Nat.add_comm]
theorem op_rep : OpR X (binaryOp .Mult) rRep:=by
  intro pins s σ H x y v u Q I rx ry h
  obtain ⟨l,k,xs,rfl,rfl,hH,h1,h2,hz,q⟩:=h
  cases rx
  obtain ⟨t,rfl⟩:=ry
  obtain ⟨z,its,n,r,hl,e⟩:=I.lstM hH
  have hlen : its.toArray.size * k.toNat≤sizeLine:=by rw [List.size_toArray,← hl];exact hz
  have hcap : ¬ its.toArray.size * k.toNat > (2 ^ 63 - 1) / 8:=by
    have : (sizeLine : Nat)≤(2 ^ 63 - 1) / 8:=by decide
    omega
  have hfit : ¬ (!Builtin.List.listFitsIndex k) = true:=by
    rw [fitsIndex_both h1 h2]
    exact Bool.false_ne_true
  have hlong : ¬ Builtin.List.listTooLong (its.toArray.size * k.toNat) = true:=by
    rw [notLongL hlen]
    exact Bool.false_ne_true
  have hnew : List.foldl (fun x1 x2=>x1 ++ x2) #[] (List.replicate (if its.toArray.isEmpty = true then 0 else k.toNat) its.toArray) = (List.replicate k.toNat its).flatten.toArray:=by
    have f0 : ∀ m : Nat,List.foldl (fun x1 x2=>x1 ++ x2) #[] (List.replicate m its.toArray) = (List.replicate m its).flatten.toArray:=fun m=>by
      have:=foldl_rep its m []
      rw [List.nil_append] at this
      exact this
    rw [f0]
    cases its with
    | nil=>simp
    | cons a r'=>rw [if_neg (by simp)]
  refine wpAny_binaryOp_repeat_ref (T:="list") (U:="int") (by decide) ⟨_,e,rfl⟩ (fun s'=>typeIs_int s' k t) noFill_list_mul F.fills_int_mul F.slot_int_rmul repeat_list F.slot_int_index.lookup
    (call_meets F.slot_int_rmul (typeIs_int s k t) F.entry_int_rmul (F.args_int_rmul_2 _ _) (int___rmul___int_list k t l its.toArray n)
      ⟨e,rfl,⟨_,e,rfl⟩,call_meets F.slot_list_mul ⟨_,e,rfl⟩ F.entry_list_mul (F.args_list_mul_2 _ _) (AutoListH.list___mul___list_int_3 l its.toArray n k t hfit hcap hlong) ⟨e,?_⟩⟩)
  rw [hnew]
  exact ⟨.ref _,_,I.lnew (t':=s.toks) (r.rep k.toNat) (by rw [len_rep,Nat.mul_comm];exact hz),rfl,q _ I.fresh⟩
end
section
variable {prog : Program} {w : World} {A : Around} {E : Value→Shared→Prop} {s : Shared}
set_option maxRecDepth 100000 in
end
section
variable {X : Cx}
end
section
variable {κ : Type} [DecidableEq κ]
def valV (kvs : List (κ × V)) (k : κ) : Option V:=(kvs.find? fun kv=>decide (kv.1 = k)).map (·.2)
def putK (kvs : List (κ × V)) (k : κ) (v : V) : List (κ × V) :=
  if (kvs.any fun kv=>decide (kv.1 = k)) = true then kvs.map (fun kv=>if kv.1 = k then (kv.1,v) else kv) else kvs ++ [(k,v)]
theorem valV_pos {p : κ × V} {r : List (κ × V)} {k : κ} (e : p.1 = k) : valV (p :: r) k = some p.2:=by simp [valV,List.find?_cons,e]
theorem valV_neg {p : κ × V} {r : List (κ × V)} {k : κ} (e : ¬ p.1 = k) : valV (p :: r) k = valV r k:=by simp [valV,List.find?_cons,e]
theorem length_putK (kvs : List (κ × V)) (k : κ) (v : V) : (putK kvs k v).length≤kvs.length + 1:=by
  unfold putK
  split
  · rw [List.length_map];omega
  · rw [List.length_append,List.length_cons,List.length_nil];omega
theorem RelO.getD {o : Option V} {u : Option Value} {d : V} {d' : Value} (r : RelO o u) (rd : RelV d d') : RelV (o.getD d) (u.getD d'):=by
  cases o with
  | none=>cases u with
    | none=>exact rd
    | some _=>exact (show False from r).elim
  | some _=>cases u with
    | none=>exact (show False from r).elim
    | some _=>exact r
theorem KV.val {kvs : List (κ × V)} {vs : List (κ × Value)} (r : KV kvs vs) (k : κ) : RelO (valV kvs k) (valueAt vs k):=by
  unfold KV at r
  induction r with
  | nil=>exact True.intro
  | @cons p q ps qs h t ih =>
    obtain ⟨h1,h2⟩:=h
    by_cases e : p.1 = k
    · have e' : q.1 = k:=h1.symm.trans e
      have b : valueAt (q :: qs) k = some q.2:=by simp [valueAt,List.find?_cons,e']
      rw [valV_pos e,b];exact h2
    · have e' : ¬ q.1 = k:=fun z=>e (h1.trans z)
      have b : valueAt (q :: qs) k = valueAt qs k:=by simp [valueAt,List.find?_cons,e']
      rw [valV_neg e,b];exact ih
theorem KV.any {kvs : List (κ × V)} {vs : List (κ × Value)} (r : KV kvs vs) (k : κ) : (kvs.any fun kv=>decide (kv.1 = k)) = vs.any fun kv=>decide (kv.1 = k):=by
  unfold KV at r
  induction r with
  | nil=>rfl
  | cons h t ih=>rw [List.any_cons,List.any_cons,ih,h.1]
theorem KV.repl {kvs : List (κ × V)} {vs : List (κ × Value)} (r : KV kvs vs) (k : κ) {y : V} {u : Value} (ry : RelV y u) :
    KV (kvs.map fun kv=>if kv.1 = k then (kv.1,y) else kv) (vs.map fun kv=>if kv.1 = k then (kv.1,u) else kv):=by
  unfold KV at r ⊢
  induction r with
  | nil=>exact .nil
  | @cons p q ps qs h t ih =>
    rw [List.map_cons,List.map_cons]
    refine .cons ?_ ih
    obtain ⟨h1,h2⟩:=h
    by_cases e : p.1 = k
    · rw [if_pos e,if_pos (h1.symm.trans e)];exact ⟨h1,ry⟩
    · rw [if_neg e,if_neg (fun z=>e (h1.trans z))];exact ⟨h1,h2⟩
theorem KV.put {kvs : List (κ × V)} {vs : List (κ × Value)} (r : KV kvs vs) (k : κ) {y : V} {u : Value} (ry : RelV y u) : KV (putK kvs k y) (stored vs k u):=by
  unfold putK stored
  rw [r.any k]
  by_cases e : (vs.any fun kv=>decide (kv.1 = k)) = true
  · rw [if_pos e,if_pos e];exact r.repl k ry
  · rw [if_neg e,if_neg e];exact Paired.snoc r ⟨rfl,ry⟩
end
theorem kV_is {P : Program} {w : World} {k : Key} {u : Value} (r : RelV (kV k) u) : (mixKind P w).is k u = true:=by
  cases k with
  | inl i=>obtain ⟨t,e⟩:=(show ∃ t,u = Value.int i t from r);subst e;exact mixKind_int P w i t
  | inr x=>obtain ⟨t,e⟩:=(show ∃ t,u = Value.str x t from r);subst e;exact mixKind_str P w x t
theorem items_are {P : Program} {w : World} : ∀ {ks : List Key} {us : List Value},Vals (ks.map kV) us→ItemsAre (mixKind P w) ks us
  | [],_,r=>by rw [List.map_nil] at r;cases r;exact .nil
  | k :: ks,_,r=>by
    rw [List.map_cons] at r
    cases r with
    | cons h t=>exact .cons (kV_is h) (items_are t)
abbrev KT (H : Hp) : List (List Key × V)→List (List Key × Addr × Value)→Prop:=Paired fun p q=>p.1 = q.1∧H q.2.1 = some (.tup (p.1.map kV))∧RelV p.2 q.2.2
theorem KT.val {H : Hp} {kvs : List (List Key × V)} {xs : List (List Key × Addr × Value)} (r : KT H kvs xs) (k : List Key) : RelO (valV kvs k) ((atKey xs k).map (·.2)):=by
  induction r with
  | nil=>exact True.intro
  | @cons p q ps qs h t ih =>
    obtain ⟨h1,_,h2⟩:=h
    by_cases e : p.1 = k
    · have e' : q.1 = k:=h1.symm.trans e
      have b : atKey (q :: qs) k = some q.2:=by simp [atKey,List.find?_cons,e']
      rw [valV_pos e,b];exact h2
    · have e' : ¬ q.1 = k:=fun z=>e (h1.trans z)
      have b : atKey (q :: qs) k = atKey qs k:=by simp [atKey,List.find?_cons,e']
      rw [valV_neg e,b];exact ih
section
variable {P : Program} {w : World} {H : Hp} {h : Heap} {a : Addr}
theorem rd_of {u : HO} (ok : HOk P w H h) (e : Rd H a u) : ObjOk P w H h a u:=e.ok ok
theorem dk_rd {kvs : List (Key × V)} (ok : HOk P w H h) (e : Rd H a (.dK kvs)) : kvs.length≤sizeLine∧(a == sysModules) = false∧∃ vs,KV kvs vs∧h.DictOf (mixKind P w) a vs :=
  show ObjOk P w H h a (.dK kvs) from rd_of ok e
theorem dk_of {kvs : List (Key × V)} (ok : HOk P w H h) (e : H a = some (.dK kvs)) : kvs.length≤sizeLine∧(a == sysModules) = false∧∃ vs,KV kvs vs∧h.DictOf (mixKind P w) a vs:=dk_rd ok (.inl e)
theorem key_of {ks : List Key} (ok : HOk P w H h) (e : H a = some (.tup (ks.map kV))) : (tupleKind (mixKind P w)).is h ks a:=by
  obtain ⟨_,its,r,⟨o,h1,h2,n,h3⟩,_⟩:=(show ObjOk P w H h a (.tup (ks.map kV)) from ok a _ e)
  exact ⟨o,its.toArray,n,h1,h2,h3,by simpa using items_are r⟩
theorem dt_rd {kvs : List (List Key × V)} (ok : HOk P w H h) (e : Rd H a (.dT kvs)) : kvs.length≤sizeLine∧(a == sysModules) = false ∧
    ∃ xs,KT H kvs xs∧h.DictOfH (tupleKind (mixKind P w)) a xs:=by
  obtain ⟨z,y,xs,r,o,es,ep,h1,h2,h3,h4,h5⟩:=(show ObjOk P w H h a (.dT kvs) from rd_of ok e)
  refine ⟨z,y,xs,r,o,es,ep,h1,h2,h3,h4,fun x hx=>?_,h5⟩
  have all : ∀ {l : List (List Key × V)} {m : List (List Key × Addr × Value)},KT H l m→∀ x∈m,(tupleKind (mixKind P w)).is h x.1 x.2.1:=by
    intro l m q
    induction q with
    | nil=>intro x hx;exact nomatch hx
    | @cons p q ps qs hq t ih =>
      intro x hx
      rcases List.mem_cons.mp hx with e | hx
      · subst e
        exact key_of ok (by rw [← hq.1];exact hq.2.1)
      · exact ih x hx
  exact all r x hx
end
def DGet (H : Hp) (a : Addr) (y : V) (r : Option V) : Prop :=
  (∃ kvs k,Rd H a (.dK kvs)∧y = kV k∧r = valV kvs k)∨∃ kvs k b,Rd H a (.dT kvs)∧y = .ref b∧H b = some (.tup (k.map kV))∧r = valV kvs k
theorem DGet.k {H : Hp} {a : Addr} {kvs : List (Key × V)} {k : Key} (e : H a = some (.dK kvs)) : DGet H a (kV k) (valV kvs k):=.inl ⟨kvs,k,.inl e,rfl,rfl⟩
section
variable {X : Cx} {pins : List (Addr × Obj)} {σ : St} {H : Hp} {s : Shared} {a : Addr} {y v : V} {u r : Value} {o : Option V} {A : Around} {E : Value→Shared→Prop}
theorem Inv.big (I : Inv X pins σ H s) : sysModules < s.heap.objs.size:=by
  have h : mainGlobals < s.heap.objs.size:=(I.mod.glob.keeps I.bk).lt
  exact Nat.lt_trans (by decide) h
theorem d_getItem {Q : Value→Shared→Prop} (hu : A.units + 1 < cLine) (I : Inv X pins σ H s) (g : DGet H a y (some v)) (ry : RelV y u) (h : ∀ w' s',Inv X pins σ H s'→RelV v w'→Q w' s') :
    wpAny (model X.prog X.w) A (getItem (.ref a) u) Q E s:=by
  rcases g with ⟨kvs,k,e,ey,l⟩ | ⟨kvs,k,b,e,ey,eb,l⟩
  · subst ey
    obtain ⟨z,hd,vs,rel,dd⟩:=dk_rd I.hok e
    obtain ⟨w',hw,rw'⟩:=RelO.some_of (v:=v) (o:=valueAt vs k) (by rw [l];exact rel.val k)
    exact wpAny_getItem_of (kV_is ry) dd.mapOf hw (h w' _ (I.tok _) rw')
  · subst ey
    cases (show u = Value.ref b from ry)
    obtain ⟨z,hd,xs,rel,dd⟩:=dt_rd I.hok e
    obtain ⟨w',hw,rw'⟩:=RelO.some_of (v:=v) (o:=(atKey xs k).map (·.2)) (by rw [l];exact rel.val k)
    obtain ⟨p,hp,hp2⟩:=Option.map_eq_some_iff.mp hw
    refine wpAny_getItem_heap (tupleKind_room_in1 hu) (key_of I.hok eb) dd hp ?_
    rw [hp2]
    exact h w' _ (I.tok _) rw'
theorem d_write {h' : Heap} {t' : Nat} {ob : HO} (I : Inv X pins σ H s) (mu : Mut (H a)) (hs : Heap.SameBut a s.heap h') (he : ∃ q,h'.get? a = some q) (new : ObjOk X.prog X.w (upd H a ob) h' a ob) :
    Inv X pins σ (upd H a ob) { s with heap:=h',toks:=t' } :=
  I.write (x:=a) (e:=a) mu (.inl rfl) (fun b q hb z=>(hs.2 b hb).trans z) he new
theorem dk_new {P : Program} {w : World} {H' : Hp} {h' : Heap} {kvs : List (Key × V)} {vs : List (Key × Value)} (z : kvs.length≤sizeLine) (hd : (a == sysModules) = false) (rel : KV kvs vs) (dd : h'.DictOf (mixKind P w) a vs) :
    ObjOk P w H' h' a (.dK kvs):=⟨z,hd,vs,rel,dd⟩
end
section
variable {X : Cx} {pins : List (Addr × Obj)} {σ : St} {H : Hp} {s : Shared} {a : Addr} {kvs : List (Key × V)} {k : Key} {u : Value} {A : Around} {E : Value→Shared→Prop}
end
def NoSl (i : Expr) : Prop:=∀ ov iv,subscripted i false ov iv = operate [ov,iv] (getItem ov iv)
theorem subD_of {prog : Program} {w : World} {A : Around} {E : Value→Shared→Prop} {s : Shared} {env : Env} {value slice : Expr} {pos : Pos} {T id : String} {Q : Value→Shared→Prop}
    (hl : typeLookup (.type T) "__getitem__" = pure (some (.builtin id))) (hs : NoSl slice)
    (h : wpAny (model prog w) A (eval value env) (fun o s₁=>wpAny (model prog w) A (eval slice env) (fun i s₂=>s₂.TypeIs o T∧wpAny (model prog w) A (getItem o i) Q E s₂) E s₁) E s) :
    wpAny (model prog w) A (eval (.Subscript value slice pos) env) Q E s:=by
  refine Subscript_ (wpAny_mono h (fun o s₁ h₁=>wpAny_mono h₁ (fun i s₂ h₂=>?_) fun _ _ x=>x) fun _ _ x=>x)
  obtain ⟨hT,h₂⟩:=h₂
  unfold subscriptTail
  refine wpAny_bind ?_
  rw [getitemInPython_of_ne hT.not_modules]
  refine wpAny_bind (wpAny_specialOf hT hl ?_)
  have fin : wpAny (model prog w) A (subscripted slice false o i) (fun r s₃=>wpAny (model prog w) A (letTemporaryGo value o r >>= fun _=>pure r) Q E s₃) E s₂:=by
    rw [hs o i]
    exact wpAny_operating (wpAny_mono h₂ (fun r s₃ h₃=>wpAny_bind (wpAny_letTemporaryGo (wpAny_pure h₃))) fun _ _ x=>x)
  first
    | exact wpAny_pure (wpAny_bind fin)
    | exact wpAny_bind (wpAny_pure (wpAny_bind fin))
    | exact wpAny_bind fin
theorem dict_typeIs {X : Cx} {pins : List (Addr × Obj)} {σ : St} {H : Hp} {s : Shared} {a : Addr} {y : V} {o : Option V} (I : Inv X pins σ H s) (g : DGet H a y o) : s.TypeIs (.ref a) "dict":=by
  rcases g with ⟨kvs,k,e,_,_⟩ | ⟨kvs,k,b,e,_,_,_⟩
  · obtain ⟨_,_,vs,_,dd⟩:=dk_rd I.hok e
    exact dd.typeIs
  · obtain ⟨_,_,xs,_,dd⟩:=dt_rd I.hok e
    exact dd.typeIs
def tDGet (td ty : TE) : TE:=fun σ H Q=>td σ H fun x H1=>ty σ H1 fun y H2=>∃ a v,x = .ref a∧DGet H2 a y (some v)∧Q v H2
section
variable {X : Cx} {o i e value : Expr} {pos pos' tpos : Pos} {td ty tv : TE}
theorem pe_dget (hu : X.A.units + 1 < cLine) (ho : PE X o td) (hi : PE X i ty) (hs : NoSl i) : PE X (.Subscript o i pos) (tDGet td ty):=.mk <| by
  intro pins s σ H Q I h
  refine subD_of PySem.F.slot_dict_getitem.lookup hs (thn (ho pins s σ H _ I h) fun u s1 ⟨x,H1,I1,rx,q1⟩=>thn (hi pins s1 σ H1 _ I1 q1) fun iv s2 ⟨y,H2,I2,ry,a,v,ex,g,q2⟩=>?_)
  subst ex
  obtain rfl : u = Value.ref a:=rx
  exact ⟨dict_typeIs I2 g,d_getItem hu I2 g ry fun w' s3 I3 rw'=>⟨v,H2,I3,rw',q2⟩⟩
end
theorem dk_empty {P : Program} {w : World} {H : Hp} (h : Heap) (hb : sysModules < h.objs.size) : ObjOk P w H (h.push { cls:=.type "dict",data:=.dict #[] }) h.objs.size (.dK []) :=
  ⟨Nat.zero_le _,beq_eq_false_iff_ne.mpr (Ne.symm (Nat.ne_of_lt hb)),[],.nil,Heap.DictOf.new h⟩
section
variable {X : Cx} {pos : Pos}
end
def tPairs : List (TE × TE)→St→Hp→(List (V × V)→Hp→Prop)→Prop
  | [],_,H,Q=>Q [] H
  | (tk,tv) :: r,σ,H,Q=>tk σ H fun x H1=>tv σ H1 fun y H2=>tPairs r σ H2 fun ps H3=>Q ((x,y) :: ps) H3
abbrev VV : List (V × V)→List (Value × Value)→Prop:=Paired fun p q=>RelV p.1 q.1∧RelV p.2 q.2
def PPs (X : Cx) (pos : Pos) (keys : List (Option Expr)) (values : List Expr) (trs : List (TE × TE)) : Prop :=
  ∀ (pins : List (Addr × Obj)) (s : Shared) (σ : St) (H : Hp) (Q : List (V × V)→Hp→Prop),Inv X pins σ H s→tPairs trs σ H Q →
    wpAny (model X.prog X.w) X.A (evalPairs (pairTrees keys values X.env pos)) (fun vs s'=>∃ ps H',Inv X pins σ H' s'∧VV ps vs∧Q ps H') X.xe s
theorem pps_nil {X : Cx} {pos : Pos} : PPs X pos [] [] []:=fun pins s σ H Q I h=>pairTrees_nil_walk ⟨[],H,I,.nil,h⟩
theorem pps_cons {X : Cx} {pos : Pos} {k v : Expr} {ks : List (Option Expr)} {vs : List Expr} {tk tv : TE} {trs : List (TE × TE)} (hk : PE X k tk) (hv : PE X v tv) (hr : PPs X pos ks vs trs) :
    PPs X pos (some k :: ks) (v :: vs) ((tk,tv) :: trs):=fun pins s σ H Q I h =>
  pairTrees_cons_walk (thn (hk pins s σ H _ I h) fun u s1 ⟨x,H1,I1,rx,q1⟩=>thn (hv pins s1 σ H1 _ I1 q1) fun w2 s2 ⟨y,H2,I2,ry,q2⟩ =>
    thn (hr pins s2 σ H2 _ I2 q2) fun ws s3 ⟨ps,H3,I3,rel,q3⟩=>⟨(x,y) :: ps,H3,I3,.cons ⟨rx,ry⟩ rel,q3⟩)
def mergeK (kvs more : List (Key × V)) : List (Key × V):=more.foldl (fun acc kv=>putK acc kv.1 kv.2) kvs
theorem KV.merge : ∀ {more : List (Key × V)} {rs : List (Key × Value)} {kvs : List (Key × V)} {vs : List (Key × Value)},KV more rs→KV kvs vs→KV (mergeK kvs more) (merged vs rs):=by
  intro more rs kvs vs r
  unfold KV at r
  induction r generalizing kvs vs with
  | nil=>intro q;exact q
  | @cons p q ps qs h t ih =>
    intro r0
    have e : KV (putK kvs p.1 p.2) (stored vs q.1 q.2):=by
      have:=r0.put p.1 h.2
      rw [← h.1];exact this
    exact ih e
theorem length_mergeK : ∀ (more kvs : List (Key × V)),(mergeK kvs more).length≤kvs.length + more.length
  | [],kvs=>by show kvs.length≤kvs.length + 0;omega
  | p :: r,kvs=>by
    have h1:=length_mergeK r (putK kvs p.1 p.2)
    have h2:=length_putK kvs p.1 p.2
    show (mergeK (putK kvs p.1 p.2) r).length≤_
    rw [List.length_cons];omega
theorem carries_of {P : Program} {w : World} : ∀ {kvs : List (Key × V)} {ws : List (Value × Value)},VV (kvs.map fun kv=>(kV kv.1,kv.2)) ws→∃ rs,Carries (mixKind P w) ws rs∧KV kvs rs
  | [],_,r=>by rw [List.map_nil] at r;cases r;exact ⟨[],True.intro,.nil⟩
  | p :: kvs,_,r=>by
    rw [List.map_cons] at r
    cases r with
    | @cons a b as bs h t =>
      obtain ⟨rs,c,q⟩:=carries_of (P:=P) (w:=w) t
      obtain ⟨b1,b2⟩:=b
      exact ⟨(p.1,b2) :: rs,⟨kV_is h.1,rfl,c⟩,.cons ⟨rfl,h.2⟩ q⟩
def tDisp (trs : List (TE × TE)) : TE:=fun σ H Q=>∀ p,H p = none→tPairs trs σ (upd H p (.dK [])) fun ps H2=>H2 p = some (.dK [])∧∃ kvs : List (Key × V),ps = kvs.map (fun kv=>(kV kv.1,kv.2))∧kvs.length≤15∧Q (.ref p) (upd H2 p (.dK (mergeK [] kvs)))
theorem pe_disp {X : Cx} {pos : Pos} {keys : List (Option Expr)} {values : List Expr} {trs : List (TE × TE)} (h : PPs X pos keys values trs) (hall : keys.all (·.isSome) = true) (hl : keys.length = values.length) (h0 : keys≠[])
    (h15 : keys.length≤15) : PE X (.Dict keys values pos) (tDisp trs):=.mk <| by
  intro pins s σ H Q I q
  have hn:=I.hok.fresh (Nat.le_refl s.heap.objs.size)
  have I1:=I.laid (a:=s.heap.objs.size) (o:=.dK []) (h':=s.heap.push { cls:=.type "dict",data:=.dict #[] }) (t':=s.toks) (fun _ _ q=>Heap.get?_push_of_some _ q) (Nat.le_refl _) (dk_empty s.heap I.big)
  refine wpAny_Dict_walk (knd:=mixKind X.prog X.w) hall hl h0 h15 (thn (h pins _ σ _ _ I1 (q _ hn)) fun ws s2 ⟨ps,H2,I2,rel,e,kvs,ep,lk,q2⟩=>?_)
  subst ep
  obtain ⟨rs,c,rk⟩:=carries_of (P:=X.prog) (w:=X.w) rel
  obtain ⟨z,hd,vs0,r0,dd⟩:=dk_of I2.hok e
  cases r0
  refine ⟨rs,c,dd,fun h' dd' hs=>⟨.ref s.heap.objs.size,_,?_,rfl,q2⟩⟩
  have hz : (mergeK [] kvs).length≤sizeLine:=by
    have h1:=length_mergeK kvs []
    rw [List.length_nil] at h1
    rw [sizeLine_eq];omega
  have he : ∃ q,h'.get? s.heap.objs.size = some q:=let ⟨q,_,_,hq,_⟩:=dd';⟨q,hq⟩
  exact d_write I2 (by rw [e];exact True.intro) hs he (dk_new hz hd (rk.merge .nil) dd')
structure M1 (X : Cx) (o : Expr) (m : Str) (apos : Pos) (e : Expr) (cpos : Pos) : Prop where
  base : attributeBase o m X.env (eval o X.env) = eval o X.env
  few : ((backTo cpos (starEach [e] X.env)).all (fun x=>!x.1) && (backToKw cpos (keywordEach [] X.env)).all (fun x=>x.1.isSome)
    && decide (([e] : List Expr).length + ([] : List Keyword).length + (if ([] : List Keyword).isEmpty then 0 else 1) < 30)) = true
  line : (apos.endLine == cpos.line) = true
  trees : backTo cpos (starEach [e] X.env) = [(false,eval e X.env)]
structure M2 (X : Cx) (o : Expr) (m : Str) (apos : Pos) (e f : Expr) (cpos : Pos) : Prop where
  base : attributeBase o m X.env (eval o X.env) = eval o X.env
  few : ((backTo cpos (starEach [e,f] X.env)).all (fun x=>!x.1) && (backToKw cpos (keywordEach [] X.env)).all (fun x=>x.1.isSome)
    && decide (([e,f] : List Expr).length + ([] : List Keyword).length + (if ([] : List Keyword).isEmpty then 0 else 1) < 30)) = true
  line : (apos.endLine == cpos.line) = true
  trees : backTo cpos (starEach [e,f] X.env) = [(false,eval e X.env),(false,eval f X.env)]
def IsD (H : Hp) (a : Addr) : Prop:=(∃ kvs,Rd H a (.dK kvs))∨∃ kvs,Rd H a (.dT kvs)
theorem isD_at {X : Cx} {pins : List (Addr × Obj)} {σ : St} {H : Hp} {s : Shared} {a : Addr} (I : Inv X pins σ H s) (d : IsD H a) :
    s.TypeIs (.ref a) "dict"∧(∀ b,Value.ref a = .ref b→∃ ob,s.heap.get? b = some ob∧ob.dict = none)∧(a == sysModules) = false:=by
  rcases d with ⟨kvs,e⟩ | ⟨kvs,e⟩
  · obtain ⟨_,hd,vs,_,dd⟩:=dk_rd I.hok e
    refine ⟨dd.typeIs,fun b q=>?_,hd⟩
    cases q
    obtain ⟨ob,_,_,h1,h2,_⟩:=dd
    exact ⟨ob,h1,h2.2.1⟩
  · obtain ⟨_,hd,xs,_,dd⟩:=dt_rd I.hok e
    refine ⟨dd.typeIs,fun b q=>?_,hd⟩
    cases q
    obtain ⟨ob,_,_,h1,h2,_⟩:=dd
    exact ⟨ob,h1,h2.2.1⟩
section
variable {X : Cx} {pins : List (Addr × Obj)} {σ : St} {H : Hp} {s : Shared} {a : Addr} {y d : V} {u r : Value} {o : Option V} {A : Around} {E : Value→Shared→Prop}
theorem d_get2 {Q : Value→Shared→Prop} (hu : A.units + 1 < cLine) (I : Inv X pins σ H s) (g : DGet H a y o) (ry : RelV y u) (rd : RelV d r) (h : ∀ w' s',Inv X pins σ H s'→RelV (o.getD d) w'→Q w' s') :
    wpAny (model X.prog X.w) A (call (.builtin "dict.get") [.ref a,u,r]) Q E s:=by
  rcases g with ⟨kvs,k,e,ey,l⟩ | ⟨kvs,k,b,e,ey,eb,l⟩
  · subst ey
    obtain ⟨z,hd,vs,rel,dd⟩:=dk_rd I.hok e
    refine call_meetsIn PySem.F.slot_dict_get dd.typeIs PySem.F.entry_dict_get (PySem.F.args_dict_get_3 _ _ _) (meets_dict_get_default (mixKind X.prog X.w) a (kV_is ry) hd r) ⟨_,dd.mapOf,h _ _ (I.tok _) ?_⟩
    rw [l]
    exact (rel.val k).getD rd
  · subst ey
    cases (show u = Value.ref b from ry)
    obtain ⟨z,hd,xs,rel,dd⟩:=dt_rd I.hok e
    refine call_meetsIn PySem.F.slot_dict_get dd.typeIs PySem.F.entry_dict_get (PySem.F.args_dict_get_3 _ _ _) (meetsH_dict_get_default (tupleKind (mixKind X.prog X.w)) a b hd r) ⟨tupleKind_room_in1 hu,k,xs,key_of I.hok eb,dd,h _ _ (I.tok _) ?_⟩
    rw [l]
    exact (rel.val k).getD rd
end
def tDGet2 (td ty tx : TE) : TE:=fun σ H Q=>td σ H fun x H1=>∃ a,x = .ref a∧IsD H1 a∧ty σ H1 fun y H2=>tx σ H2 fun z H3=>∃ o,DGet H3 a y o∧Q (o.getD z) H3
section
variable {X : Cx} {o e f : Expr} {apos cpos : Pos} {td ty tx : TE}
theorem pe_dget2 (hu : X.A.units + 1 < cLine) (ho : PE X o td) (he : PE X e ty) (hf : PE X f tx) (m : M2 X o "get" apos e f cpos) : PE X (.Call (.Attribute o "get" apos) [e,f] [] cpos) (tDGet2 td ty tx):=.mk <| by
  intro pins s σ H Q I h
  refine wpAny_Call_method m.base m.few m.line PySem.F.plainAttrs_dict PySem.F.slot_dict_get PySem.F.type_dict_get (thn (ho pins s σ H _ I h) fun u s1 ⟨x,H1,I1,rx,a,ex,d,q1⟩=>?_)
  subst ex
  obtain rfl : u = Value.ref a:=rx
  obtain ⟨t1,t2,_⟩:=isD_at I1 d
  refine ⟨t1,t2,?_⟩
  rw [m.trees]
  refine Calls.callWith_builtin rfl (Calls.evalArgs_plain (Calls.spliced_cons (thn (he pins s1 σ H1 _ I1 q1) fun iv s2 ⟨y,H2,I2,ry,q2⟩ =>
    Calls.spliced_cons (thn (hf pins s2 σ H2 _ I2 q2) fun fv s3 ⟨z,H3,I3,rz,ov,g,q3⟩=>Calls.spliced_nil ?_))))
  exact d_get2 hu I3 g ry rz fun w' s4 I4 rw'=>⟨_,H3,I4,rw',q3⟩
end
section
variable {X : Cx} {pins : List (Addr × Obj)} {σ : St} {H : Hp} {s : Shared} {a : Addr} {kvs : List (Key × V)} {A : Around} {E : Value→Shared→Prop}
end
section
variable {X : Cx} {pins : List (Addr × Obj)} {σ : St} {H : Hp} {s : Shared} {a : Addr} {y : V} {u : Value} {A : Around} {E : Value→Shared→Prop}
end
end L2
namespace Att
open PySem PySem.W PySem.Calls PyProof.Rows
theorem ints_of_wellAll {P : Params} {h : Heap} : ∀ (ns : List Int) (vs : List Value),WellAll P h vs (ns.map WData.int)→IntsAre vs ns:=by
  intro ns
  induction ns with
  | nil =>
    intro vs w
    rw [List.map_nil] at w
    cases w
    exact .nil
  | cons n ns ih =>
    intro vs w
    rw [List.map_cons] at w
    cases w with
    | cons a b =>
      cases a
      exact .cons _ _ (ih _ b)
theorem script_of {l : OpenLaw} {n : Nat} (hn : l.most = some n) {P : Params} {h : Heap} {args : List WData} {vals : List Value}
    (hpre : l.row.toRowW.claim.pre args = true) (hwl : WellAll P h vals args) :
    ∃ a vs ns,vals = [Value.ref a]∧args = [WData.list (ns.map WData.int)]∧h.get? a = some { cls:=.type "list",data:=.seq vs.toArray }∧IntsAre vs ns∧ns.length≤n:=by
  have hsh : WShape.hasAll [] args [.list .int] = true:=(pre_splitW hpre).1
  have hc : l.pre.holds [] { args:=args } = true:=(pre_splitW hpre).2
  obtain ⟨d,r,rfl,h1,h2⟩:=hasAllW_cons hsh
  obtain rfl:=hasAllW_nil h2
  obtain ⟨xs,rfl,h3⟩:=hasW_list h1
  obtain ⟨ns,rfl⟩:=items_int h3
  have hlen : ns.length≤n:=by
    unfold OpenLaw.pre at hc
    have h4 : (WTm.not (.lt (.lit (.int (n : Int))) (.len (.arg 0)))).holds [] { args:=[.list (ns.map .int)] } = true:=by
      have h4:=(holds_andW hc).1
      rw [hn] at h4
      exact h4
    have h5:=condW_of h4 (w_not (w_lt w_lit (w_len_list (w_arg rfl))))
    rw [List.length_map] at h5
    refine Nat.le_of_not_lt fun q=>?_
    have q' : (n : Int) < ((ns.length : Nat) : Int):=by omega
    first
      | (rw [decide_eq_true q'] at h5;exact absurd h5 (by decide))
      | (simp at h5;omega)
  cases hwl with
  | cons w1 w2 =>
    cases w2
    cases w1 with
    | list ho hall=>exact ⟨_,_,ns,rfl,rfl,ho,ints_of_wellAll ns _ hall,hlen⟩
theorem post_true (l : OpenLaw) (args : List WData) : l.row.toRowW.claim.post args (.bool true) args = true :=
  postW_of (r:=l.row.toRowW) (X:=(true == true))
    (show WShape.has [] (.bool true) .bool = true by first | rfl | decide | simp [WShape.has,WShape.arms,WShape.armsAll])
    (show (WTm.eq .res (.lit (.bool true))).value [] { args:=args,res:=some (.bool true),after:=args } = some (.bool (true == true)) from w_eq_bool (w_res rfl) w_lit) rfl
theorem attach_call {l : OpenLaw} {n : Nat} {q : Program} {loose : List Str} {XP : (Str→Option Value)→Heap→Prop} {YP : World→Heap→Prop} {d : DefRec}
    (hn : l.most = some n) (hdf : d.params.defaults = [])
    (call : ∀ (w : World) (s₀ s₁ : Shared) (mg mb : Str→Option Value) (fa : Addr) (o : Obj) (pm cd doc : Value) (a : Addr) (vs : List Value) (ns : List Int),
      Ground q loose [] XP w s₀ mg mb s₁.heap→YP w s₁.heap →
      s₁.heap.get? fa = some o→o.data = .func (docDef d.name d.params d.body d.scope pm cd doc)→s₁.heap.CodeRec cd d.name→mg d.name = some (.ref fa) →
      s₁.heap.get? a = some { cls:=.type "list",data:=.seq vs.toArray }→IntsAre vs ns→ns.length≤n→s₁.gens = #[] →
      codeAny (model l.prog w) callerA (.call (.ref fa) ⟨[.ref a],[]⟩) (fun r s'=>r = .ok (.ret (.bool true))∧OldK s₁.heap s'.heap∧s'.os = s₁.os∧AllBare s'.gens) s₁) :
    WalkO q loose XP YP l.row.toRowW d [] (fun f vs=>PySem.call f vs):=by
  intro w s₀ s₁ mg mb G Y fa o pm cd doc dV kV ho hd hcd hD hmg hg args vals as hpre hlay hrd hwl hlo
  obtain rfl : dV = .none:=Dflts.none hD hdf
  obtain rfl : kV = .none:=Dflts.noKw hD
  obtain ⟨a,vs,ns,rfl,rfl,hobj,hints,hlen⟩:=script_of hn hpre hwl
  refine enter_call (codeAny_mono (call w s₀ s₁ mg mb fa o pm cd doc a vs ns G Y ho (fd_plain hd) hcd hmg hobj hints hlen hg) fun r s' hq=>?_)
  obtain ⟨rfl,h2,h3,h4⟩:=hq
  exact ⟨.inl ⟨.bool true,.bool true,[],rfl,fun _=>rfl,.bool true,post_true l _,fun _=>⟨List.Pairwise.nil,fun _ hm=>(nomatch hm)⟩⟩,h2,h3,h4⟩
section
variable {prog : Program} {w : World} {A : Around} {E : Value→Shared→Prop} {s : Shared} {K : Frag}
end
end Att
namespace L2
open PySem PySem.Spec PyProof.Rows
theorem vals_ints : ∀ {vs : List Value} {ns : List Int},IntsAre vs ns→Vals (ns.map V.int) vs
  | _,_,.nil=>.nil
  | _,_,.cons n t h=>.cons ⟨t,rfl⟩ (vals_ints h)
def Only (_ : Hp) : Prop:=True
abbrev KOf {K : PySem.W.Frag} {h : Heap} (_ : K.In h) : PySem.W.Frag:=K
def defArgs (s : Stmt) : Arguments:=match s with
  | .FunctionDef _ a _ _ _ _ _ _ _ _=>a
  | _=>{ posonlyargs:=[],args:=[],vararg:=none,kwonlyargs:=[],kw_defaults:=[],kwarg:=none,defaults:=[] }
def defBody (s : Stmt) : List Stmt:=match s with
  | .FunctionDef _ _ b _ _ _ _ _ _ _=>b
  | _=>[]
def defScope (s : Stmt) : Scope:=match s with
  | .FunctionDef _ _ _ _ _ _ sc _ _ _=>sc
  | _=>{ kind:=.function,names:=[],isGenerator:=false,isCoroutine:=false }
abbrev CX0 : CXT:=fun _ _ _ _ _ _=>False
abbrev E0 : XK:=fun _ _ _=>False
theorem pass0 {X : Cx} : Passes CX0 X E0:=fun _ _ _ _ _ _ _ h=>h.elim
structure Fun (K : PySem.W.Frag) (x qual : Str) (st : Stmt) (f : Addr) (fd : FuncData) : Prop where
  ex : ∃ (oc : Value) (od : Option Addr) (kV doc pm : Value) (an : Option Addr) (cdv ct : Value) (osl : Array (Option Value)),
    fd = PySem.W.fnOf x qual (defArgs st) (defBody st) (defScope st) .none kV doc pm an cdv ct∧K.lookup f = some ⟨oc,od,.func fd,osl⟩∧PySem.W.codeIn K cdv qual = true
  kp : PySem.W.keepIn K (.ref f) = true
section
variable {P : Program} {w : World} {K : PySem.W.Frag} {mg : Str→Option Value} {base : Heap}
theorem Fun.ok {x qual : Str} {st : Stmt} {f : Addr} {fd : FuncData} {N ps : List Str} {k : Nat} {sp : Sp} (F : Fun K x qual st f fd) (S : FnScope N ps (defScope st)) (len : ∀ vs H Q E,sp vs H Q E→vs.length = ps.length)
    (hbody : ∀ (cdv : Value) (A : Around) (outer : List Env) (s : Shared) (H : Hp) (vs : List V) (Q : VK) (E : XK),Room k (A.deeper (envOfC qual (defScope st) s.heap.objs.size f cdv))→sp vs H Q E →
      ∃ t,PSs (cxOf CX0 P w K mg base N qual (defScope st) f cdv A outer s H E).nox (defBody st) t∧t { nx:=fun _ H'=>Q .non H',rt:=Q } (start N vs) H) : FnOk P w K mg base CX0 (k + 1) f fd ps sp:=by
  obtain ⟨oc,od,kV,doc,pm,an,cdv,ct,osl,rfl,lk,hcd⟩:=F.ex
  refine fn_of lk hcd S len fun A outer s H vs Q E hr hsp=>?_
  obtain ⟨t,h,q⟩:=hbody cdv A outer s H vs Q E hr hsp
  exact ⟨t,h.nox,q⟩
theorem Fun.binds {x qual : Str} {st : Stmt} {f : Addr} {fd : FuncData} {ps : List Str} (F : Fun K x qual st f fd)
    (h : ∀ (kV doc pm : Value) (an : Option Addr) (cdv ct : Value) (us : List Value),us.length = ps.length→bindArgs (PySem.W.fnOf x qual (defArgs st) (defBody st) (defScope st) .none kV doc pm an cdv ct) ⟨us,[]⟩ = pure (ps.zip us)) : Binds K fd ps []:=by
  obtain ⟨oc,od,kV,doc,pm,an,cdv,ct,osl,rfl,lk,hcd⟩:=F.ex
  exact .all (h kV doc pm an cdv ct)
theorem fun_mk {x qual : Str} {st : Stmt} {f : Addr} {oc : Value} {od an : Option Addr} {osl : Array (Option Value)} {kV doc pm cdv ct : Value} (l : K.lookup f = some ⟨oc,od,.func (PySem.W.fnOf x qual (defArgs st) (defBody st) (defScope st) .none kV doc pm an cdv ct),osl⟩)
    (c : PySem.W.codeIn K cdv qual = true) (k : PySem.W.keepIn K (.ref f) = true) : Fun K x qual st f (PySem.W.fnOf x qual (defArgs st) (defBody st) (defScope st) .none kV doc pm an cdv ct):=⟨⟨oc,od,kV,doc,pm,an,cdv,ct,osl,rfl,l,c⟩,k⟩
end
theorem hu_of {A : Around} {k : Nat} (hr : Room k A) : A.units + 1 < cLine:=Nat.lt_of_le_of_lt (Nat.add_le_add_left (by decide : 1≤64) _) hr.units
theorem small1000 {n : Nat} (h : n≤1000) : n < sizeLine:=Nat.lt_of_le_of_lt h (by decide)
section
variable {X : Cx}
theorem pv (i : Nat) {x : Str} {pos : Pos} (hN : X.N[i]? = some x:=by rfl) (hv : Vis X.env.scope x:=by first | exact Or.inl rfl | exact Or.inr (Or.inl rfl) | exact Or.inr (Or.inr rfl)) (hd : (x == ("__debug__" : Str)) = false:=by decide)
    (hcd : (x == ("__classdict__" : Str)) = false:=by decide) : PE X (.Name x pos) (tVar i):=pe_var hN hv hd hcd
end
theorem iteF {A B : Prop} (h : B) : if false = true then A else B:=by
  rw [if_neg Bool.false_ne_true]
  exact h
theorem iteT {A B : Prop} (h : A) : if true = true then A else B:=by
  rw [if_pos rfl]
  exact h
theorem ite2 {c A B : Prop} [Decidable c] (h1 : c→A) (h2 : ¬ c→B) : if c then A else B:=by
  by_cases h : c
  · rw [if_pos h]
    exact h1 h
  · rw [if_neg h]
    exact h2 h
def Same (H H' : Hp) : Prop:=∀ b o,H b = some o→H' b = some o
theorem Same.refl (H : Hp) : Same H H:=fun _ _ h=>h
theorem Same.trans {H H1 H2 : Hp} (a : Same H H1) (b : Same H1 H2) : Same H H2:=fun c o h=>b c o (a c o h)
section
variable {κ : Type} [DecidableEq κ]
end
end L2
set_option maxHeartbeats 1000000
namespace L2
open PySem PySem.Spec PyProof.Rows
section
variable {prog : Program} {w : World} {A : Around} {E : Value→Shared→Prop} {R : Result→Shared→Prop} {s : Shared}
def compTail (elt : Expr) (gens : List Comprehension) (scope : Scope) (pos : Pos) (d : Nat) (acc : Value) (env : Env) : Sem Unit :=
  match gens[d + 1]? with
  | some g'=>do
    let x ← eval g'.iter env
    standAt g'.iter.pos
    let x ← if g'.is_async != 0 then foldedIterable g'.iter x else foldedSetIterable g'.iter env x
    let _ ← runOwn (.compStart (.ListComp elt gens scope pos) (d + 1) (← holding [x] (if g'.is_async != 0 then asyncIter x else pyIter x)) acc env) env
  | none=>do let _ ← call (.builtin "list.append") [acc,← eval elt env]
theorem compLoop_gen {elt target iter : Expr} {gens : List Comprehension} {ifs : List Expr} {scope : Scope} {pos : Pos} {d : Nat} {it acc : Value} {env : Env} (I : Nat→Shared→Prop)
    (hg : gens[d]? = some ⟨target,iter,ifs,0⟩) (ha : ∀ g',gens[d + 1]? = some g'→g'.is_async = 0)
    (turn : ∀ n s,I n s→wpAny (model prog w) A (pyNext it) (fun r s₁=>match r with
      | none=>R (.ok .next) s₁
      | some v=>wpAny (model prog w) A (letOwnedTupleGo target it v) (fun _ s₁'=>wpAny (model prog w) A (assign target env v) (fun _ s₂ =>
          wpAny (model prog w) A (forIn ifs true fun c r=>if r = true then do let ok ← isTrue c env (eval c env);pure (ForInStep.yield ok) else pure (ForInStep.yield r)) (fun ok s₃ =>
            if ok = true then wpAny (model prog w) A (compTail elt gens scope pos d acc env) (fun _ s₅=>∃ m,m < n∧I m s₅) (fun _ _=>False) s₃
            else ∃ m,m < n∧I m s₃) (fun _ _=>False) s₂) (fun _ _=>False) s₁') (fun _ _=>False) s₁) (fun _ _=>False) s)
    (n : Nat) (h : I n s) :
    codeAny (model prog w) A (.compLoop (.ListComp elt gens scope pos) d it acc env) R s:=by
  refine codeAny_loop rfl I (fun n s hI=>?_) n h
  show wpAny _ A ((compTurn (.ListComp elt gens scope pos) d it acc env).onRaise (fun x=>do noteFrame x env;theTreesLotGoes x)) _ _ s
  refine wpAny_noted ?_
  unfold compTurn
  simp only [hg]
  refine wpAny_bind (wpAny_standAt (wpAny_bind (wpAny_mono (turn n s hI) (fun r s₁ h₁=>?_) fun _ _ x=>x.elim)))
  cases r with
  | none=>exact wpAny_pure h₁
  | some v =>
    refine wpAny_bind (wpAny_mono h₁ (fun _ s₁' h₁'=>?_) fun _ _ x=>x.elim)
    refine wpAny_bind (wpAny_mono h₁' (fun _ s₂ h₂=>wpAny_bind (wpAny_mono h₂ (fun ok s₃ h₃=>?_) fun _ _ x=>x.elim)) fun _ _ x=>x.elim)
    cases ok with
    | false=>exact wpAny_pure ⟨rfl,h₃⟩
    | true =>
      have h₃' : wpAny (model prog w) A (compTail elt gens scope pos d acc env) (fun _ s₅=>∃ m,m < n∧I m s₅) (fun _ _=>False) s₃:=h₃
      unfold compTail at h₃'
      rw [if_pos rfl]
      cases hd : gens[d + 1]? with
      | none =>
        rw [hd] at h₃'
        exact wpAny_bind (wpAny_mono h₃' (fun _ s₅ h₅=>wpAny_pure ⟨rfl,h₅⟩) fun _ _ x=>x.elim)
      | some g' =>
        rw [hd] at h₃'
        have h0:=ha g' hd
        have e0 : (g'.is_async != 0) = false:=by rw [h0];rfl
        dsimp only at h₃' ⊢
        simp only [e0,Bool.false_eq_true,if_false] at h₃' ⊢
        intro Γ p hΓ
        have q:=h₃' Γ p hΓ
        simp only [Sem.wp_bind'] at q ⊢
        refine Sem.wp_mono _ Γ _ (fun x p₁ s₄ q₁=>?_) (fun _ _ _ z=>z.elim) _ _ q
        refine Sem.wp_mono _ Γ _ (fun _ p₂ s₄ q₂=>?_) (fun _ _ _ z=>z.elim) _ _ q₁
        refine Sem.wp_mono _ Γ _ (fun x p₂ s₄ q₂=>?_) (fun _ _ _ z=>z.elim) _ _ q₂
        refine Sem.wp_mono _ Γ _ (fun x p₂ s₄ q₂=>?_) (fun _ _ _ z=>z.elim) _ _ q₂
        refine Sem.wp_mono _ Γ _ (fun x p₂ s₄ q₂=>?_) (fun _ _ _ z=>z.elim) _ _ q₂
        exact ⟨rfl,q₂⟩
end
section
variable {prog : Program} {w : World} {A : Around} {E : Value→Shared→Prop} {R : Result→Shared→Prop} {s : Shared}
theorem compStart_gen {elt target iter : Expr} {gens : List Comprehension} {ifs : List Expr} {scope : Scope} {pos : Pos} {d : Nat} {it acc : Value} {env : Env}
    (hg : gens[d]? = some ⟨target,iter,ifs,0⟩)
    (h0 : codeAny (model prog w) A (.compLoop (.ListComp elt gens scope pos) d it acc env) R s)
    (h : wpAny (model prog w) A (pyIter it) (fun it' s'=>codeAny (model prog w) A (.compLoop (.ListComp elt gens scope pos) d it' acc env) R s') (fun _ _=>False) s) :
    codeAny (model prog w) A (.compStart (.ListComp elt gens scope pos) d it acc env) R s:=by
  refine codeAny_of_tree ?_
  show wpAny _ _ ((compStart (.ListComp elt gens scope pos) d it acc env).onRaise (fun x=>do noteFrame x env;standAt theWindowsPlace)) _ _ s
  refine wpAny_notedAt ?_
  unfold compStart
  have hcl : clausesOf (.ListComp elt gens scope pos) = gens:=rfl
  simp only [hcl,hg,Option.elim]
  refine wpAny_ite ?_
  rw [if_neg (by decide)]
  refine wpAny_bind (wpAny_askSetting (wpAny_ite ?_))
  split
  · first
      | exact wpAny_bind (wpAny_pure (wpAny_pure (And.intro rfl h0)))
      | exact wpAny_pure (And.intro rfl h0)
  · exact wpAny_bind (wpAny_rule (wpAny_bind (wpAny_standAt (wpAny_bind (wpAny_mono h (fun it' s' h'=>wpAny_pure (And.intro rfl h')) fun _ _ x=>x.elim)))))
end
abbrev TL:=Addr→St→Hp→(St→Hp→Prop)→Prop
def PL (X : Cx) (elt : Expr) (gens : List Comprehension) (scope : Scope) (pos : Pos) (d : Nat) (t : TL) : Prop :=
  ∀ (pins : List (Addr × Obj)) (s : Shared) (σ : St) (H : Hp) (acc : Addr) (K : St→Hp→Prop),Inv X pins σ H s→t acc σ H K →
    wpAny (model X.prog X.w) X.A (compTail elt gens scope pos d (.ref acc) X.env) (fun _ s'=>∃ σ' H',Inv X pins σ' H' s'∧K σ' H') (fun _ _=>False) s
def PTs (X : Cx) (ifs : List Expr) (t : TT) : Prop :=
  ∀ (pins : List (Addr × Obj)) (s : Shared) (σ : St) (H : Hp) (Q : Bool→Hp→Prop),Inv X pins σ H s→t σ H Q →
    wpAny (model X.prog X.w) X.A (forIn ifs true fun c r=>if r = true then do let ok ← isTrue c X.env (eval c X.env);pure (ForInStep.yield ok) else pure (ForInStep.yield r)) (TP X pins σ Q) X.xe s
def tNoTest : TT:=fun _ H Q=>Q true H
def lLast (te : TE) : TL:=fun acc σ H K=>te σ H fun y H1=>∃ xs,H1 acc = some (.lst xs)∧xs.length < sizeLine∧K σ (upd H1 acc (.lst (xs ++ [y])))
def lLoop (J : It) (g : TG) (tc : TT) (l : TL) : TL:=fun acc σ H K=>∃ W : Nat→Nat→St→Hp→Prop,(∃ m,W 0 m σ H)∧∀ i m σ H,W i m σ H →
  (J.stop i H∧K σ H)∨(J.go i H∧∀ x H',J.yld i H x H'→g x σ H' fun σ2 H2=>tc σ2 H2 fun b H3 =>
    if b = true then l acc σ2 H3 (fun σ3 H4=>∃ m',m' < m∧W (i + 1) m' σ3 H4) else ∃ m',m' < m∧W (i + 1) m' σ2 H3)
def lFor (wi : TI) (g : TG) (tc : TT) (l : TL) : TL:=fun acc σ H K=>wi σ H fun J H1=>lLoop J g tc l acc σ H1 K
section
variable {X : Cx} {elt : Expr} {gens : List Comprehension} {scope : Scope} {pos : Pos} {d : Nat} {te : TE} {l : TL} {tg iter : Expr} {ifs : List Expr} {wi : TI} {g : TG} {tc : TT}
theorem pts_nil : PTs X [] tNoTest:=fun pins s σ H Q I h=>wpAny_tests_nil ⟨H,I,h⟩
theorem pts_one {c : Expr} (hc : PT X c tc) : PTs X [c] tc:=fun pins s σ H Q I h=>wpAny_tests_one (hc pins s σ H Q I h)
theorem pl_last (hx : X.xe = fun _ _=>False) (hd : gens[d + 1]? = none) (he : PE X elt te) : PL X elt gens scope pos d (lLast te):=by
  intro pins s σ H acc K I h
  unfold compTail
  rw [hd]
  have he':=he pins s σ H _ I h
  rw [hx] at he'
  refine wpAny_bind (thn he' fun u s1 ⟨y,H1,I1,r1,xs,e1,z1,k1⟩=>?_)
  have ha:=mt_append pins s1 σ H1 (.ref acc) [y] (.ref acc) [u] (fun v H2=>v = .non∧H2 = upd H1 acc (.lst (xs ++ [y]))) I1 rfl (.cons r1 .nil) ⟨acc,xs,y,rfl,rfl,e1,z1,rfl,rfl⟩
  rw [hx] at ha
  refine wpAny_bind (thn ha fun v s2 ⟨v',H2,I2,r2,e2,e3⟩=>wpAny_pure ⟨σ,H2,I2,by rw [e3];exact k1⟩)
theorem comp_loop (hx : X.xe = fun _ _=>False) (hc : X.calm = true) (hd : gens[d]? = some ⟨tg,iter,ifs,0⟩) (ha : ∀ g',gens[d + 1]? = some g'→g'.is_async = 0) (hg : PG X tg g) (ht : PTs X ifs tc) (hl : PL X elt gens scope pos d l)
    {pins : List (Addr × Obj)} {s : Shared} {σ : St} {H : Hp} {acc it : Addr} {fp : List Addr} {tn : Nat→Heap→Prop} {J : It} {K : St→Hp→Prop} {R : Result→Shared→Prop} (I : Inv X pins σ H s) (T : Turn X.prog X.w X.K tg J fp it tn) (st : tn 0 s.heap) (f2 : ∀ b∈fp,FpOk X pins H b)
    (h : lLoop J g tc l acc σ H K) (hR : ∀ σ' H' s',Inv X pins σ' H' s'→K σ' H'→R (.ok .next) s') :
    codeAny (model X.prog X.w) X.A (.compLoop (.ListComp elt gens scope pos) d (.ref it) (.ref acc) X.env) R s:=by
  obtain ⟨W,⟨m0,w0⟩,turn⟩:=h
  have stat : ∀ {H' : Hp},(∀ b∈fp,H' b = none)→∀ b∈fp,FpOk X pins H' b:=fun hn b hb=>⟨hn b hb,(f2 b hb).2⟩
  refine compLoop_gen (fun n s'=>∃ i σ' H',Inv X pins σ' H' s'∧tn i s'.heap∧(∀ b∈fp,H' b = none)∧W i n σ' H') hd ha ?_ m0 ⟨0,σ,H,I,st,fun b hb=>(f2 b hb).1,w0⟩
  rintro n s3 ⟨i,σ3,H3,I3,st3,fr3,w3⟩
  rcases turn i n σ3 H3 w3 with ⟨stop,qn⟩ | ⟨go,step⟩
  · refine thn (T.done X rfl rfl rfl hc i pins s3 σ3 H3 _ I3 (stat fr3) st3 stop) fun r s4 ⟨hr,I4⟩=>?_
    subst hr
    exact hR σ3 H3 s4 I4 qn
  · refine thn (T.item X rfl rfl rfl hc i pins s3 σ3 H3 _ I3 (stat fr3) st3 go) fun r s4 ⟨u,hr,h4⟩=>?_
    subst hr
    refine thn h4 fun _ s5 ⟨x,H5,I5,r5,y5,st5,fr5⟩=>?_
    have I5':=I5.pinned (stat fr5) (T.obj _ _ st5)
    have again : ∀ {σ7 : St} {H7 : Hp} {s7 : Shared} {m' : Nat},Inv X (pins ++ pinsAt fp s5.heap) σ7 H7 s7→m' < n→W (i + 1) m' σ7 H7→∃ m,m < n∧∃ i σ' H',Inv X pins σ' H' s7∧tn i s7.heap∧(∀ b∈fp,H' b = none)∧W i m σ' H':=fun {σ7 H7 s7 m'} I7 hm w7=>by
      refine ⟨m',hm,i + 1,σ7,H7,I7.unpinned,T.keep _ _ _ st5 fun b hb o e=>(I7.pin (b,o) (List.mem_append_right _ (List.mem_append_right _ (mem_pinsAt hb e)))).1,fun b hb=>?_,w7⟩
      obtain ⟨o,e,d⟩:=T.obj _ _ st5 b hb
      exact (I7.pin (b,o) (List.mem_append_right _ (List.mem_append_right _ (mem_pinsAt hb e)))).2.1
    have hg':=hg _ s5 σ3 H5 x u _ I5' r5 (step x H5 y5)
    rw [hx] at hg'
    refine thn hg' fun _ s6 ⟨σ6,H6,I6,q6⟩=>?_
    have ht':=ht _ s6 σ6 H6 _ I6 q6
    rw [hx] at ht'
    refine thn ht' fun ok s7 ⟨H7,I7,q7⟩=>?_
    cases ok with
    | false =>
      rw [if_neg Bool.false_ne_true] at q7 ⊢
      obtain ⟨m',hm,w7⟩:=q7
      exact again I7 hm w7
    | true =>
      rw [if_pos rfl] at q7 ⊢
      refine thn (hl _ s7 σ6 H7 acc _ I7 q7) fun _ s8 ⟨σ8,H8,I8,m',hm,w8⟩=>?_
      exact again I8 hm w8
theorem pl_for (hx : X.xe = fun _ _=>False) (hc : X.calm = true) (hd : gens[d + 1]? = some ⟨tg,iter,ifs,0⟩) (ha : ∀ g',gens[d + 2]? = some g'→g'.is_async = 0) (hi : PI X tg iter wi) (hg : PG X tg g) (ht : PTs X ifs tc) (hl : PL X elt gens scope pos (d + 1) l)
    (hs : ∀ x,foldedSetIterable iter X.env x = pure x:=by intro _;rfl) : PL X elt gens scope pos d (lFor wi g tc l):=by
  intro pins s σ H acc K I h
  unfold compTail
  rw [hd]
  dsimp only
  have e0 : ((0 : Int) != 0) = false:=by decide
  simp only [show (((⟨tg,iter,ifs,0⟩ : Comprehension).is_async != 0) = false) from rfl,Bool.false_eq_true,if_false]
  have hi':=hi pins s σ H _ I h
  rw [hx] at hi'
  refine wpAny_bind (thn hi' fun v s1 h1=>wpAny_bind (wpAny_standAt (wpAny_bind (wpAny_of_eq (hs v) ?_))))
  refine wpAny_bind (wpAny_holding (thn h1 fun itv s2 h2=>?_))
  obtain ⟨it,fp,tn,J,H2,e,I2,T,st2,f2,q⟩:=h2
  subst e
  have loop : codeAny (model X.prog X.w) X.A (.compLoop (.ListComp elt gens scope pos) (d + 1) (.ref it) (.ref acc) X.env) (fun r s'=>match r with | .ok f=>wpAny (model X.prog X.w) X.A (pure () : Sem Unit) (fun _ s'=>∃ σ' H',Inv X pins σ' H' s'∧K σ' H') (fun _ _=>False) s' | .error e=>cameBackBy (model X.prog X.w) X.A X.env (fun _ _=>False) e s') s2 :=
    comp_loop hx hc hd ha hg ht hl I2 T st2 f2 q fun σ' H' s' I' k'=>wpAny_pure ⟨σ',H',I',k'⟩
  exact wpAny_bind (wpAny_runOwn (compStart_gen hd loop (T.self X.A 0 s2 _ _ st2 loop)))
end
def clOf (env : Env) : List (Str × NameKind)→List (Str × Addr)→List (Str × Addr)
  | [],acc=>acc
  | (n,k) :: r,acc=>if k == .free then clOf env r ((n,(env.cells.lookup n).getD 0) :: acc) else clOf env r acc
theorem closure_eq {scope : Scope} {env : Env} (h : ∀ y∈scope.names,y.2 = .free→∃ c,env.cells.lookup y.1 = some c) : closureFor scope env = pure (clOf env scope.names []):=by
  have gen : ∀ (names : List (Str × NameKind)) (acc : List (Str × Addr)),(∀ y∈names,y.2 = .free→∃ c,env.cells.lookup y.1 = some c) →
      (forIn names acc fun (x : Str × NameKind) (r : List (Str × Addr))=>(if (x.2 == NameKind.free) = true then do let a ← cellOf env x.1;pure (ForInStep.yield ((x.1,a) :: r)) else pure (ForInStep.yield r) : Sem _)) = pure (clOf env names acc):=by
    intro names
    induction names with
    | nil=>intro acc _;rfl
    | cons y r ih =>
      intro acc hy
      obtain ⟨n,k⟩:=y
      rw [List.forIn_cons]
      unfold clOf
      cases hk : k == NameKind.free with
      | true =>
        obtain ⟨c,hc⟩:=hy (n,k) (List.mem_cons_self ..) (by simpa using hk)
        simp only [hk,if_true,cellOf,hc,Option.getD_some]
        exact ih _ fun y hy'=>hy y (List.mem_cons_of_mem _ hy')
      | false =>
        simp only [hk,Bool.false_eq_true,if_false]
        exact ih _ fun y hy'=>hy y (List.mem_cons_of_mem _ hy')
  have:=gen scope.names [] h
  unfold closureFor
  show ((forIn scope.names ([] : List (Str × Addr)) fun (x : Str × NameKind) (r : List (Str × Addr))=>(if (x.2 == NameKind.free) = true then do let a ← cellOf env x.1;pure (ForInStep.yield ((x.1,a) :: r)) else pure (ForInStep.yield r) : Sem _)) >>= fun z=>pure z) = _
  rw [this]
  rfl
theorem mem_clOf {env : Env} : ∀ {names : List (Str × NameKind)} {acc : List (Str × Addr)} {n : Str} {c : Addr},(n,c)∈clOf env names acc→(n,c)∈acc∨((n,NameKind.free)∈names∧c = (env.cells.lookup n).getD 0)
  | [],_,_,_,h=>.inl h
  | (m,k) :: r,acc,n,c,h=>by
    unfold clOf at h
    split at h
    · rename_i hk
      rcases mem_clOf h with h | ⟨h1,h2⟩
      · rcases List.mem_cons.mp h with e | e
        · cases e
          have : k = .free:=by simpa using hk
          subst this
          exact .inr ⟨List.mem_cons_self ..,rfl⟩
        · exact .inl e
      · exact .inr ⟨List.mem_cons_of_mem _ h1,h2⟩
    · rcases mem_clOf h with h | ⟨h1,h2⟩
      · exact .inl h
      · exact .inr ⟨List.mem_cons_of_mem _ h1,h2⟩
theorem clOf_mem {env : Env} : ∀ {names : List (Str × NameKind)} {acc : List (Str × Addr)} {n : Str},((n,NameKind.free)∈names∨∃ c,(n,c)∈acc)→∃ c,(n,c)∈clOf env names acc
  | [],_,_,h=>by
    rcases h with h | h
    · cases h
    · exact h
  | (m,k) :: r,acc,n,h=>by
    unfold clOf
    split
    · rename_i hk
      apply clOf_mem
      rcases h with h | ⟨c,h⟩
      · rcases List.mem_cons.mp h with e | e
        · cases e;exact .inr ⟨_,List.mem_cons_self ..⟩
        · exact .inl e
      · exact .inr ⟨c,List.mem_cons_of_mem _ h⟩
    · rename_i hk
      apply clOf_mem
      rcases h with h | h
      · rcases List.mem_cons.mp h with e | e
        · cases e;simp at hk
        · exact .inl e
      · exact .inr h
theorem mem_cellsFrom : ∀ {names : List (Str × NameKind)} {h : Heap} {acc : List (Str × Addr)} {n : Str} {c : Addr},(n,c)∈cellsFrom h.objs.size names acc →
    (n,c)∈acc∨((n,NameKind.cell)∈names∧h.objs.size≤c∧(pushCells h names).IsCell c none)
  | [],_,_,_,_,m=>.inl m
  | (x,k) :: r,h,acc,n,c,m=>by
    unfold cellsFrom at m
    unfold pushCells
    split at m
    · rename_i hk
      rw [if_pos hk]
      have sz : (h.push { cls:=.type "cell",data:=.cell none }).objs.size = h.objs.size + 1:=Heap.size_push ..
      rw [← sz] at m
      rcases mem_cellsFrom m with m | ⟨m1,m2,m3⟩
      · rcases List.mem_cons.mp m with e | e
        · cases e
          have : k = .cell:=by simpa using hk
          subst this
          exact .inr ⟨List.mem_cons_self ..,Nat.le_refl _,⟨_,pushCells_keeps _ _ _ _ (Heap.get?_push_size _ rfl),rfl⟩⟩
        · exact .inl e
      · exact .inr ⟨List.mem_cons_of_mem _ m1,by omega,m3⟩
    · rename_i hk
      rw [if_neg hk]
      rcases mem_cellsFrom m with m | ⟨m1,m2,m3⟩
      · exact .inl m
      · exact .inr ⟨List.mem_cons_of_mem _ m1,m2,m3⟩
theorem cellsFrom_mem : ∀ {names : List (Str × NameKind)} {k : Nat} {acc : List (Str × Addr)} {n : Str},((n,NameKind.cell)∈names∨∃ c,(n,c)∈acc)→∃ c,(n,c)∈cellsFrom k names acc
  | [],_,_,_,h=>by
    rcases h with h | h
    · cases h
    · exact h
  | (m,k) :: r,j,acc,n,h=>by
    unfold cellsFrom
    split
    · rename_i hk
      apply cellsFrom_mem
      rcases h with h | ⟨c,h⟩
      · rcases List.mem_cons.mp h with e | e
        · cases e;exact .inr ⟨_,List.mem_cons_self ..⟩
        · exact .inl e
      · exact .inr ⟨c,List.mem_cons_of_mem _ h⟩
    · rename_i hk
      apply cellsFrom_mem
      rcases h with h | h
      · rcases List.mem_cons.mp h with e | e
        · cases e;simp at hk
        · exact .inl e
      · exact .inr h
theorem cellsFrom_inj : ∀ {names : List (Str × NameKind)} {k : Nat} {acc : List (Str × Addr)},(∀ n c,(n,c)∈acc→c < k)→(∀ n m c,(n,c)∈acc→(m,c)∈acc→n = m) →
    ∀ n m c,(n,c)∈cellsFrom k names acc→(m,c)∈cellsFrom k names acc→n = m
  | [],_,_,_,h2,n,m,c,a,b=>h2 n m c a b
  | (x,kd) :: r,k,acc,h1,h2,n,m,c,a,b=>by
    unfold cellsFrom at a b
    split at a
    · rename_i hk
      rw [if_pos hk] at b
      refine cellsFrom_inj (k:=k + 1) ?_ ?_ n m c a b
      · intro n c h
        rcases List.mem_cons.mp h with e | e
        · cases e;exact Nat.lt_succ_self _
        · exact Nat.lt_succ_of_lt (h1 n c e)
      · intro n m c h h'
        rcases List.mem_cons.mp h with e | e<;>rcases List.mem_cons.mp h' with e' | e'
        · cases e;cases e';rfl
        · cases e;exact absurd (h1 _ _ e') (Nat.lt_irrefl _)
        · cases e';exact absurd (h1 _ _ e) (Nat.lt_irrefl _)
        · exact h2 n m c e e'
    · rename_i hk
      rw [if_neg hk] at b
      exact cellsFrom_inj h1 h2 n m c a b
theorem lookup_some_of_mem {α : Type} : ∀ {l : List (Str × α)} {n : Str},(∃ c,(n,c)∈l)→∃ c,l.lookup n = some c
  | [],_,⟨_,h⟩=>by cases h
  | (k,v) :: r,n,⟨c,h⟩=>by
    rw [List.lookup_cons]
    cases hb : n == k with
    | true=>exact ⟨v,rfl⟩
    | false =>
      rcases List.mem_cons.mp h with e | e
      · cases e;simp at hb
      · exact lookup_some_of_mem ⟨c,e⟩
def blkOk (scope osc : Scope) (N : List Str) (src : List (Option Nat)) (ON : List Str) : Bool :=
  (scope.kind == .function) && (osc.kind == .function) && decide (src.length = N.length) &&
  (scope.names.all fun y=>(scope.names.lookup y.1 == some y.2) && (if y.2 == .free then osc.names.lookup y.1 == some .cell else true)) &&
  ((N.zip src).all fun p=>match p.2 with | none=>true | some j=>(ON[j]? == some p.1) && (scope.names.lookup p.1 == some .free))
def blkSt (src : List (Option Nat)) (σ : St) : St:=src.map fun o=>match o with | none=>none | some j=>(σ[j]?).join
def Cx.blk (X : Cx) (scope : Scope) (N : List Str) (cs : List (Str × Addr)) (C : Addr) (s : Shared) (H : Hp) (ex : List Addr) (pn : List (Addr × Obj)) : Cx :=
  { X with N:=N,s₀:=s,H₀:=H,env:=compEnvC scope cs C X.env,outer:=X.stack,stack:=X.stack,ex:=ex,fn:=fun x=>decide (scope.names.lookup x = some .cell),pn:=pn,xe:=fun _ _=>False }
section
variable {X : Cx} {pins : List (Addr × Obj)} {σ : St} {H : Hp} {s : Shared} {scope : Scope} {N : List Str} {src : List (Option Nat)}
theorem blk_facts {osc : Scope} {ON : List Str} (h : blkOk scope osc N src ON = true) : scope.kind = .function∧osc.kind = .function∧src.length = N.length ∧
    (∀ y∈scope.names,scope.names.lookup y.1 = some y.2)∧(∀ y∈scope.names,y.2 = .free→osc.names.lookup y.1 = some .cell) ∧
    (∀ (i : Nat) (x : Str) (j : Nat),N[i]? = some x→src[i]? = some (some j)→ON[j]? = some x∧scope.names.lookup x = some .free):=by
  unfold blkOk at h
  simp only [Bool.and_eq_true,decide_eq_true_eq,beq_iff_eq,List.all_eq_true] at h
  obtain ⟨⟨⟨⟨h1,h2⟩,h3⟩,h4⟩,h5⟩:=h
  refine ⟨h1,h2,h3,fun y hy=>(h4 y hy).1,fun y hy e=>?_,fun i x j e1 e2=>?_⟩
  · have:=(h4 y hy).2
    rw [e] at this
    simpa using this
  · have hm : (x,some j)∈N.zip src:=by
      apply List.mem_of_getElem? (i:=i)
      rw [List.getElem?_zip_eq_some]
      exact ⟨e1,e2⟩
    have:=h5 _ hm
    simpa using this
theorem relabel_lookup {env : Env} (hk : env.scope.kind = .function) : ∀ {names : List (Str × NameKind)} {x : Str} {k : NameKind},names.lookup x = some k→(k = .free→env.kindOf x = some .cell) →
    (names.map fun (n,k)=>if (k == NameKind.free && env.scope.kind == .function && env.kindOf n == some .cell) then (n,NameKind.cell) else (n,k)).lookup x = some (if k = .free then .cell else k)
  | [],_,_,h,_=>by simp at h
  | (n,k') :: r,x,k,h,hf=>by
    have ih:=@relabel_lookup env hk r x k
    show List.lookup x ((if (k' == NameKind.free && env.scope.kind == .function && env.kindOf n == some .cell) = true then (n,NameKind.cell) else (n,k')) :: _) = _
    cases hx : x == n with
    | true =>
      simp only [List.lookup_cons,hx] at h
      have e : x = n:=by simpa using hx
      subst e
      cases h
      by_cases hfr : k' = .free
      · have:=hf hfr
        subst hfr
        rw [if_pos (by rw [this,hk];rfl)]
        simp [List.lookup_cons]
      · have hfr' : (k' == NameKind.free) = false:=by simpa using hfr
        rw [if_neg (by rw [hfr'];simp),if_neg hfr]
        simp [List.lookup_cons]
    | false =>
      simp only [List.lookup_cons,hx] at h
      by_cases hc : (k' == NameKind.free && env.scope.kind == .function && env.kindOf n == some .cell) = true
      · rw [if_pos hc];simp only [List.lookup_cons,hx];exact ih h hf
      · rw [if_neg hc];simp only [List.lookup_cons,hx];exact ih h hf
theorem relabel_mem {env : Env} {names : List (Str × NameKind)} {x : Str} (h : (names.map fun (n,k)=>if (k == NameKind.free && env.scope.kind == .function && env.kindOf n == some .cell) then (n,NameKind.cell) else (n,k)).lookup x = some .cell) :
    (x,NameKind.cell)∈names∨(x,NameKind.free)∈names:=by
  have hm:=mem_of_lookup h
  obtain ⟨⟨n,k⟩,hy,e⟩:=List.mem_map.mp hm
  dsimp only at e
  split at e
  · rename_i hc
    cases e
    simp only [Bool.and_eq_true,beq_iff_eq] at hc
    rw [hc.1.1] at hy
    exact .inr hy
  · cases e;exact .inl hy
theorem relabel_memF {env : Env} {names : List (Str × NameKind)} {x : Str} (hk : env.scope.kind = .function) (hfr : ∀ y∈names,y.2 = .free→env.kindOf y.1 = some .cell)
    (h : (names.map fun (n,k)=>if (k == NameKind.free && env.scope.kind == .function && env.kindOf n == some .cell) then (n,NameKind.cell) else (n,k)).lookup x = some .free) : False:=by
  have hm:=mem_of_lookup h
  obtain ⟨⟨n,k⟩,hy,e⟩:=List.mem_map.mp hm
  dsimp only at e
  split at e
  · cases e
  · rename_i hc
    cases e
    have:=hfr _ hy rfl
    exact hc (by rw [this,hk];rfl)
theorem blk_start {fp : List Addr} (I : Inv X pins σ H s) (hb : blkOk scope X.env.scope N src X.N = true) (f2 : ∀ b∈fp,FpOk X pins H b) (fo : ∀ b∈fp,∃ o,s.heap.get? b = some o) {t : Nat} :
    Inv (X.blk scope N (cellsFrom (s.heap.objs.size + 1) scope.names (clOf X.env scope.names [])) s.heap.objs.size s H fp (X.pn ++ pins)) [] (blkSt src σ) H { s with heap:=pushCells (s.heap.push { cls:=.type "dict",data:=.dict #[] }) scope.names,toks:=t }:=by
  obtain ⟨hk,hok,hlen,hnd,hfr,hsrc⟩:=blk_facts hb
  have keep : ∀ b o,s.heap.get? b = some o→(pushCells (s.heap.push { cls:=.type "dict",data:=.dict #[] }) scope.names).get? b = some o:=fun b o e=>pushCells_keeps _ _ b o (Heap.get?_push_of_some _ e)
  have hfr' : ∀ y∈scope.names,y.2 = .free→X.env.kindOf y.1 = some .cell:=hfr
  have sz : (s.heap.push { cls:=.type "dict",data:=.dict #[] }).objs.size = s.heap.objs.size + 1:=Heap.size_push ..
  have cell : ∀ n c,(n,c)∈cellsFrom (s.heap.objs.size + 1) scope.names (clOf X.env scope.names []) →
      (X.env.cells.lookup n = some c∧(n,NameKind.free)∈scope.names)∨((n,NameKind.cell)∈scope.names∧s.heap.objs.size < c∧(pushCells (s.heap.push { cls:=.type "dict",data:=.dict #[] }) scope.names).IsCell c none):=by
    intro n c h
    rw [← sz] at h
    rcases mem_cellsFrom h with h | ⟨h1,h2,h3⟩
    · rcases mem_clOf h with h | ⟨h1,h2⟩
      · cases h
      · obtain ⟨c',hc'⟩:=I.ok.has n (.inl (hfr' _ h1 rfl))
        rw [hc'] at h2
        exact .inl ⟨by rw [hc',h2];rfl,h1⟩
    · exact .inr ⟨h1,by rw [sz] at h2;exact h2,h3⟩
  have oldc : ∀ n c,X.env.cells.lookup n = some c→c < s.heap.objs.size:=fun n c e=>by
    obtain ⟨v,o,ho,_⟩:=I.cell n c e
    exact Heap.lt_size ho
  have hH : H s.heap.objs.size = none:=I.hok.fresh (Nat.le_refl _)
  have ok : (X.blk scope N (cellsFrom (s.heap.objs.size + 1) scope.names (clOf X.env scope.names [])) s.heap.objs.size s H fp (X.pn ++ pins)).Ok:={
    mod:=I.ok.mod
    kind:=hk
    glob:=I.ok.glob
    blt:=I.ok.blt
    above:=Nat.le_refl _
    inj:=fun x y c a b=>by
      refine cellsFrom_inj (k:=s.heap.objs.size + 1) (acc:=clOf X.env scope.names []) ?_ ?_ x y c (mem_of_lookup a) (mem_of_lookup b)
      · intro n c h
        rcases mem_clOf h with h | ⟨h1,h2⟩
        · cases h
        · obtain ⟨c',hc'⟩:=I.ok.has n (.inl (hfr' _ h1 rfl))
          rw [hc'] at h2
          rw [h2]
          exact Nat.lt_succ_of_lt (oldc n c' hc')
      · intro n m c h h'
        rcases mem_clOf h with h | ⟨h1,h2⟩
        · cases h
        · rcases mem_clOf h' with h' | ⟨h1',h2'⟩
          · cases h'
          · obtain ⟨c1,hc1⟩:=I.ok.has n (.inl (hfr' _ h1 rfl))
            obtain ⟨c2,hc2⟩:=I.ok.has m (.inl (hfr' _ h1' rfl))
            rw [hc1] at h2
            rw [hc2] at h2'
            have e1 : c = c1:=h2
            have e2 : c = c2:=h2'
            exact I.ok.inj n m c (by rw [e1];exact hc1) (by rw [e2];exact hc2)
    has:=fun x h=>by
      have hm : (x,NameKind.cell)∈scope.names∨(x,NameKind.free)∈scope.names:=by
        rcases h with h | h
        · exact relabel_mem (env:=X.env) h
        · exact (relabel_memF (env:=X.env) hok hfr' h).elim
      have : ∃ c,(x,c)∈cellsFrom (s.heap.objs.size + 1) scope.names (clOf X.env scope.names []):=by
        rcases hm with hm | hm
        · exact cellsFrom_mem (.inl hm)
        · exact cellsFrom_mem (.inr (clOf_mem (.inl hm)))
      exact lookup_some_of_mem this
    cab:=fun x c hf e=>by
      have hf' : scope.names.lookup x = some .cell:=of_decide_eq_true hf
      rcases cell x c (mem_of_lookup e) with ⟨_,h⟩ | ⟨_,h,_⟩
      · have:=hnd _ h
        rw [hf'] at this
        cases this
      · exact Nat.le_of_lt h
    hd:=I.ok.hd
    frames:=I.ok.frames
    stk:=.inl rfl
    exf:=fun b hb=>by
      obtain ⟨o,ho⟩:=fo b hb
      have hlt:=Heap.lt_size ho
      refine ⟨Nat.ne_of_lt hlt,fun x c e=>?_⟩
      rcases cell x c (mem_of_lookup e) with ⟨h,_⟩ | ⟨_,h,_⟩
      · exact (f2 b hb).2.2.2.2.1 x c h
      · exact Nat.ne_of_gt (Nat.lt_trans hlt h)
    bs:=I.bs
    bsz:=Nat.le_trans I.ok.bsz I.sz
    noex:=fun b o e hb=>by
      rcases (f2 b hb).2.2.2.1 with h | h
      · exact I.ok.noex b o e h
      · exact absurd (Nat.lt_of_lt_of_le (Heap.lt_size e) (Nat.le_trans I.ok.bsz h)) (Nat.lt_irrefl _)
    exfs:=fun b hb hm=>by
      rcases List.mem_cons.mp (I.stkSub b hm) with h | h
      · exact (f2 b hb).2.1 h
      · exact (f2 b hb).2.2.1 h
    funs:=I.stack
    frf:=I.stkFree
    tt:=I.ok.tt.mono I.base.tbls }
  refine ⟨ok,rfl,I.bare,Un.kept keep,⟨fun _=>none,(Heap.Ns.new s.heap (.type "dict")).keeps (pushCells_keeps _ _),fun i x v e1 e2 e3=>?_⟩,fun x c e=>?_,hH,fun x c e=>?_,fun p hp=>?_,I.hok.kept keep,?_⟩
  · -- a captured name
    have e2' : (src.map fun o=>match o with | none=>none | some j=>(σ[j]?).join)[i]? = some (some v):=e2
    rw [List.getElem?_map] at e2'
    cases hs : src[i]? with
    | none=>rw [hs] at e2';cases e2'
    | some o =>
      rw [hs] at e2'
      cases o with
      | none=>cases e2'
      | some j =>
        have ej : (σ[j]?).join = some v:=by simpa using e2'
        have ej' : σ[j]? = some (some v):=by
          cases hq : σ[j]? with
          | none=>rw [hq] at ej;cases ej
          | some z=>rw [hq] at ej;simpa using ej
        obtain ⟨n1,n2⟩:=hsrc i x j e1 hs
        have hfree : X.env.kindOf x = some .cell:=hfr' (x,.free) (mem_of_lookup n2) rfl
        obtain ⟨m,hn,hl⟩:=I.loc
        obtain ⟨u,r,l⟩:=hl j x v n1 ej' (.inr (.inl hfree))
        refine ⟨u,r,.inr ⟨.inl ?_,?_⟩⟩
        · have:=relabel_lookup (env:=X.env) hok n2 (fun _=>hfree)
          exact this
        · rcases l with ⟨h,_⟩ | ⟨_,c,hc,hcell⟩
          · rw [hfree] at h;cases h
          · have : ∃ c',(x,c')∈cellsFrom (s.heap.objs.size + 1) scope.names (clOf X.env scope.names []):=cellsFrom_mem (.inr (clOf_mem (.inl (mem_of_lookup n2))))
            obtain ⟨c',hc'⟩:=lookup_some_of_mem this
            refine ⟨c',hc',?_⟩
            rcases cell x c' (mem_of_lookup hc') with ⟨h,_⟩ | ⟨h,_,_⟩
            · rw [hc] at h
              cases h
              obtain ⟨oc,ho,hd⟩:=hcell
              exact ⟨oc,keep _ _ ho,hd⟩
            · have:=hnd _ h
              rw [n2] at this
              cases this
  · rcases cell x c (mem_of_lookup e) with ⟨h,_⟩ | ⟨_,_,h⟩
    · obtain ⟨v,o,ho,hd⟩:=I.cell x c h
      exact ⟨v,o,keep _ _ ho,hd⟩
    · exact ⟨_,h⟩
  · rcases cell x c (mem_of_lookup e) with ⟨h,_⟩ | ⟨_,h,_⟩
    · exact I.freeC x c h
    · exact I.hok.fresh (Nat.le_of_lt h)
  · rw [List.append_nil] at hp
    obtain ⟨e,n,ne,nf,d⟩:=I.pin p hp
    refine ⟨keep _ _ e,n,Nat.ne_of_lt (Heap.lt_size e),fun hm=>?_,d⟩
    rcases List.mem_cons.mp (I.stkSub _ hm) with h | h
    · exact ne h
    · exact nf h
  · show (src.map _).length = N.length
    rw [List.length_map]
    exact hlen
theorem blk_end {fp : List Addr} {cs : List (Str × Addr)} {C : Addr} {σ' : St} {H' : Hp} {s' : Shared} {pins' : List (Addr × Obj)} (I : Inv X pins σ H s) (f2 : ∀ b∈fp,FpOk X pins H b)
    (I' : Inv (X.blk scope N cs C s H fp (X.pn ++ pins)) pins' σ' H' s') : Inv X pins σ H' s' :=
  I.call' (ch:=fp) I'.os I'.base I'.hok I'.bare fun b hb=>⟨(f2 b hb).2.2.2.1,(f2 b hb).2.1,(f2 b hb).2.2.2.2.1,(f2 b hb).2.2.2.2.2⟩
theorem blk_gone {C : Addr} {h' : Heap} (I : Inv X pins σ H s) (hC : H C = none) (hL : C≠X.env.locals) (h1 : X.s₀.heap.objs.size≤C) (h2 : ∀ x c,X.env.cells.lookup x = some c→c≠C) (h3 : ∀ p∈X.pn ++ pins,p.1≠C)
    (hs : Heap.SameBut C s.heap h') : Inv X pins σ H { s with heap:=h' } :=
  I.turned (t':=s.toks) (fun b o hb e=>(hs.2 b hb).trans e) hC hL (.inr h1) h2 h3
end
section
variable {M : Model} {A : Around} {E : Value→Shared→Prop} {s : Shared}
theorem wp_newBlock {scope : Scope} {globals : Addr} {cl : List (Str × Addr)} {qual : Str} {env : Env} {Q : Env→Shared→Prop}
    (hQ : Q (newEnv scope s.heap.objs.size globals (cellsFrom (s.heap.objs.size + 1) scope.names cl) qual none .none (some env) builtinsNs) { s with heap:=pushCells (s.heap.push { cls:=.type "dict",data:=.dict #[] }) scope.names }) :
    wpAny M A (newFunctionEnv scope globals cl [] qual none .none (some env)) Q E s:=by
  simp only [newFunctionEnv,Option.isSome_some,if_true]
  refine wpAny_bind (wpAny_alloc ?_)
  refine wpAny_bind (wpAny_layCells _ (fun name kind cells=>by cases hkc : kind == NameKind.cell<;>simp [hkc]) _ _ _ _ ?_)
  rw [show ({ s with heap:=s.heap.push { cls:=.type "dict",data:=.dict #[] } } : Shared).heap.objs.size = s.heap.objs.size + 1 from Heap.size_push ..]
  simp only [List.forIn_nil]
  exact wpAny_bind (wpAny_pure (wpAny_pure hQ))
end
section
variable {X : Cx} {elt tg iter : Expr} {ifs : List Expr} {rest : List Comprehension} {scope : Scope} {pos : Pos} {N : List Str} {src : List (Option Nat)} {wi : TI} {g : TG} {tc : TT} {l : TL}
def tComp (src : List (Option Nat)) (wi : TI) (g : TG) (tc : TT) (l : TL) : TE:=fun σ H Q=>wi σ H fun J H1=>∀ acc,H1 acc = none→lLoop J g tc l acc (blkSt src σ) (upd H1 acc (.lst [])) fun _ H'=>Q (.ref acc) H'
theorem comp_run {use : Option (Value→Sem Unit)} {pins : List (Addr × Obj)} {s : Shared} {σ : St} {H : Hp} {Q : Value→Shared→Prop} {Q' : VK} (hc : X.calm = true) (hb : blkOk scope X.env.scope N src X.N = true) (ha : ∀ g',rest[0]? = some g'→g'.is_async = 0)
    (hi : PI X tg iter wi)
    (hg : ∀ cs C s H ex pn,PG (X.blk scope N cs C s H ex pn) tg g) (ht : ∀ cs C s H ex pn,PTs (X.blk scope N cs C s H ex pn) ifs tc)
    (hl : ∀ cs C s H ex pn,PL (X.blk scope N cs C s H ex pn) elt (⟨tg,iter,ifs,0⟩ :: rest) scope pos 0 l)
    (hs : ∀ x,foldedSetIterable iter X.env x = pure x) (I : Inv X pins σ H s) (h : tComp src wi g tc l σ H Q')
    (hQ : ∀ (acc C : Addr) (H' : Hp) (s' : Shared) (m : Str→Option Value),Inv X pins σ H' s'→Q' (.ref acc) H'→s'.heap.Ns C m→H' C = none→C≠X.env.locals→X.s₀.heap.objs.size≤C→(∀ x c,X.env.cells.lookup x = some c→c≠C)→(∀ p∈X.pn ++ pins,p.1≠C) →
      compPost (model X.prog X.w) X.A X.xe use Q (.ref acc) C (.ok .next) s') :
    wpAny (model X.prog X.w) X.A (comprehension (.ListComp elt (⟨tg,iter,ifs,0⟩ :: rest) scope pos) scope X.env (firstIterPos (⟨tg,iter,ifs,0⟩ :: rest) pos) (newList []) false (firstIter (⟨tg,iter,ifs,0⟩ :: rest) X.env) use) Q X.xe s:=by
  obtain ⟨hk,hok,hlen,hnd,hfr,hsrc⟩:=blk_facts hb
  refine wpAny_comprehension_free (g:=⟨tg,iter,ifs,0⟩) (gs:=rest) rfl hs (closure_eq fun y hy e=>I.ok.has y.1 (.inl (hfr y hy e))) hk (fun y hy e=>by have:=hnd y hy;rw [e] at this;exact this) ?_
  refine thn (hi pins s σ H _ I h) fun v s1 h1=>thn h1 fun itv s2 h2=>?_
  obtain ⟨it,fp,tn,J,H2,e,I2,T,st2,f2,q⟩:=h2
  subst e
  have hfresh : H2 s2.heap.objs.size = none:=I2.hok.fresh (Nat.le_refl _)
  refine wpAny_newObj_type (wp_newBlock ?_)
  dsimp only
  have old : ∀ b o,s2.heap.get? b = some o→(s2.heap.push { cls:=.type "list",dict:=none,data:=.seq ([] : List Value).toArray }).get? b = some o:=fun b o e=>Heap.get?_push_of_some _ e
  have I3 : Inv X pins σ (upd H2 s2.heap.objs.size (.lst [])) { s2 with heap:=s2.heap.push { cls:=.type "list",dict:=none,data:=.seq ([] : List Value).toArray } } :=
    I2.lnew (its:=[]) (t':=s2.toks) .nil (by decide)
  have f3 : ∀ b∈fp,FpOk X pins (upd H2 s2.heap.objs.size (.lst [])) b:=fun b hb=>by
    obtain ⟨o,ho,_⟩:=T.obj _ _ st2 b hb
    exact ⟨by rw [upd_ne (Nat.ne_of_lt (Heap.lt_size ho))];exact (f2 b hb).1,(f2 b hb).2⟩
  have fo3 : ∀ b∈fp,∃ o,({ s2 with heap:=s2.heap.push { cls:=.type "list",dict:=none,data:=.seq ([] : List Value).toArray } } : Shared).heap.get? b = some o:=fun b hb=>by
    obtain ⟨o,ho,_⟩:=T.obj _ _ st2 b hb
    exact ⟨o,old b o ho⟩
  generalize hs3 : ({ s2 with heap:=s2.heap.push { cls:=.type "list",dict:=none,data:=.seq ([] : List Value).toArray } } : Shared) = s3 at I3 fo3 ⊢
  have st3 : tn 0 s3.heap:=by
    rw [← hs3]
    exact T.keep _ _ _ st2 fun b _ o e=>old b o e
  have IB:=blk_start (t:=s3.toks) I3 hb f3 fo3
  have stB : tn 0 (pushCells (s3.heap.push { cls:=.type "dict",data:=.dict #[] }) scope.names):=T.keep _ _ _ st3 fun b _ o e=>pushCells_keeps _ _ b o (Heap.get?_push_of_some _ e)
  have fB : ∀ b∈fp,FpOk (X.blk scope N (cellsFrom (s3.heap.objs.size + 1) scope.names (clOf X.env scope.names [])) s3.heap.objs.size s3 (upd H2 s2.heap.objs.size (.lst [])) fp (X.pn ++ pins)) [] (upd H2 s2.heap.objs.size (.lst [])) b:=fun b hb=>by
    obtain ⟨n0,n1,n2,n3,n4,n5⟩:=f3 b hb
    refine ⟨n0,(IB.ok.exf b hb).1,IB.ok.exfs b hb,.inl hb,(IB.ok.exf b hb).2,fun p hp=>?_⟩
    rw [List.append_nil] at hp
    exact n5 p hp
  have loop : codeAny (model X.prog X.w) X.A (.compLoop (.ListComp elt (⟨tg,iter,ifs,0⟩ :: rest) scope pos) 0 (.ref it) (.ref s2.heap.objs.size) (compEnvC scope (cellsFrom (s3.heap.objs.size + 1) scope.names (clOf X.env scope.names [])) s3.heap.objs.size X.env))
      (compPost (model X.prog X.w) X.A X.xe use Q (.ref s2.heap.objs.size) s3.heap.objs.size) { s3 with heap:=pushCells (s3.heap.push { cls:=.type "dict",data:=.dict #[] }) scope.names }:=by
    refine comp_loop (X:=X.blk scope N (cellsFrom (s3.heap.objs.size + 1) scope.names (clOf X.env scope.names [])) s3.heap.objs.size s3 (upd H2 s2.heap.objs.size (.lst [])) fp (X.pn ++ pins)) rfl hc rfl (by simpa using ha) (hg _ _ _ _ _ _) (ht _ _ _ _ _ _) (hl _ _ _ _ _ _) IB T stB fB (q _ hfresh) fun σ' H' s' I' k'=>?_
    obtain ⟨m,hn,_⟩:=I'.loc
    refine hQ _ _ H' s' m (blk_end I3 f3 I') k' hn I'.free ?_ I3.sz ?_ ?_
    · exact Nat.ne_of_gt I3.lt
    · intro x c e
      obtain ⟨v,o,ho,_⟩:=I3.cell x c e
      exact Nat.ne_of_lt (Heap.lt_size ho)
    · intro p hp
      exact Nat.ne_of_lt (Heap.lt_size (I3.pin p hp).1)
  subst hs3
  exact compStart_gen (d:=0) rfl loop (T.self X.A 0 _ _ _ stB loop)
theorem pe_comp (hc : X.calm = true) (hb : blkOk scope X.env.scope N src X.N = true) (ha : ∀ g',rest[0]? = some g'→g'.is_async = 0)
    (hi : PI X tg iter wi)
    (hg : ∀ cs C s H ex pn,PG (X.blk scope N cs C s H ex pn) tg g) (ht : ∀ cs C s H ex pn,PTs (X.blk scope N cs C s H ex pn) ifs tc)
    (hl : ∀ cs C s H ex pn,PL (X.blk scope N cs C s H ex pn) elt (⟨tg,iter,ifs,0⟩ :: rest) scope pos 0 l)
    (hs : ∀ x,foldedSetIterable iter X.env x = pure x:=by intro _;rfl) : PE X (.ListComp elt (⟨tg,iter,ifs,0⟩ :: rest) scope pos) (tComp src wi g tc l):=.mk <| by
  intro pins s σ H Q I h
  rw [eval_ListComp]
  refine comp_run (use:=none) hc hb ha hi hg ht hl hs I h fun acc C H' s' m I' q' hn hC hL h1 h2 h3=>?_
  exact ⟨m,hn,fun h' hs'=>⟨.ref acc,H',blk_gone I' hC hL h1 h2 h3 hs',rfl,q'⟩⟩
theorem ps_setC {i : Nat} {x : Str} {pos' spos : Pos} (hN : X.N.Nodup) (hi0 : X.N[i]? = some x) (hx : Loc X.env.scope x) (hc : X.calm = true) (hb : blkOk scope X.env.scope N src X.N = true) (ha : ∀ g',rest[0]? = some g'→g'.is_async = 0)
    (hi : PI X tg iter wi)
    (hg : ∀ cs C s H ex pn,PG (X.blk scope N cs C s H ex pn) tg g) (ht : ∀ cs C s H ex pn,PTs (X.blk scope N cs C s H ex pn) ifs tc)
    (hl : ∀ cs C s H ex pn,PL (X.blk scope N cs C s H ex pn) elt (⟨tg,iter,ifs,0⟩ :: rest) scope pos 0 l)
    (hs : ∀ x,foldedSetIterable iter X.env x = pure x:=by intro _;rfl)
    (hsw : swapsWith (.ListComp elt (⟨tg,iter,ifs,0⟩ :: rest) scope pos) (some (.Name x pos')) spos.line X.env = pure true:=by rfl)
    (hf : X.fn x = true∨X.env.scope.names.lookup x = some .local:=by first | exact .inl rfl | exact .inr rfl | assumption) :
    PS X (.Assign [.Name x pos'] (.ListComp elt (⟨tg,iter,ifs,0⟩ :: rest) scope pos) spos) (tAsg (tComp src wi g tc l) (gName i)):=.mk <| by
  intro pins s σ H D I h
  rw [exec_Assign_Name_used _ _ _ _ hsw]
  refine wpAny_bind (wpAny_standAt (wpAny_bind ?_))
  show wpAny _ X.A (do let _ ← comprehension (.ListComp elt (⟨tg,iter,ifs,0⟩ :: rest) scope pos) scope X.env (firstIterPos (⟨tg,iter,ifs,0⟩ :: rest) pos) (newList []) false (firstIter (⟨tg,iter,ifs,0⟩ :: rest) X.env) (some (assign (.Name x pos') X.env))) _ _ s
  refine wpAny_bind (wpAny_mono (comp_run (use:=some (assign (.Name x pos') X.env)) (Q:=fun _ s'=>SP X pins D .next s') hc hb ha hi hg ht hl hs I h fun acc C H' s' m I' q' hn hC hL h1 h2 h3=>?_) (fun _ s' hq=>wpAny_pure (wpAny_pure hq)) fun _ _ e=>e)
  show wpAny _ X.A (assign (.Name x pos') X.env (.ref acc)) _ _ _
  refine wpAny_assign_Name (store_ok2 (v:=.ref acc) I' hN hi0 hx rfl (fun s'' I'' ⟨a,hsb,hwh⟩=>?_) hf)
  have hne : C≠a:=by
    rcases hwh with e | e
    · rw [e];exact hL
    · exact fun z=>h2 x a e z.symm
  exact ⟨m,hn.sameBut hsb hne,fun h' hs'=>⟨σ.set i (some (.ref acc)),H',blk_gone I'' hC hL h1 h2 h3 hs',q'⟩⟩
end
section
variable {X : Cx}
end
end L2
set_option autoImplicit false
namespace L2
open PySem PySem.Spec PyProof.Rows
inductive D where
  | non | bl (b : Bool) | int (i : Int) | str (x : Str) | tup (ds : List D) | lst (ds : List D)
mutual
def Dat (H : Hp) : D→V→Prop
  | .non,v=>v = .non
  | .bl b,v=>v = .bl b
  | .int i,v=>v = .int i
  | .str x,v=>v = .str x
  | .tup ds,v=>∃ a xs,v = .ref a∧H a = some (.tup xs)∧Dats H ds xs
  | .lst ds,v=>∃ a xs,v = .ref a∧H a = some (.lst xs)∧Dats H ds xs
def Dats (H : Hp) : List D→List V→Prop
  | [],xs=>xs = []
  | d :: ds,xs=>∃ x r,xs = x :: r∧Dat H d x∧Dats H ds r
end
mutual
def dep : D→Nat
  | .tup ds=>deps ds + 1
  | .lst ds=>deps ds + 1
  | _=>0
def deps : List D→Nat
  | []=>0
  | d :: ds=>max (dep d) (deps ds)
end
mutual
def eqD : D→D→Bool
  | .non,.non=>true
  | .bl a,.bl b=>a == b
  | .bl a,.int b=>(if a then 1 else 0) == b
  | .int a,.bl b=>a == (if b then 1 else 0)
  | .int a,.int b=>a == b
  | .str a,.str b=>a == b
  | .tup a,.tup b=>eqDs a b
  | .lst a,.lst b=>eqDs a b
  | _,_=>false
def eqDs : List D→List D→Bool
  | [],[]=>true
  | x :: xs,y :: ys=>eqD x y && eqDs xs ys
  | _,_=>false
end
theorem deps_mem : ∀ {ds : List D} {d : D},d∈ds→dep d≤deps ds
  | d :: ds,e,h=>by
    unfold deps
    rcases List.mem_cons.mp h with rfl | h
    · exact Nat.le_max_left _ _
    · exact Nat.le_trans (deps_mem h) (Nat.le_max_right _ _)
theorem Dats.length : ∀ {H : Hp} {ds : List D} {xs : List V},Dats H ds xs→xs.length = ds.length
  | H,[],xs,h=>by
    have e : xs = []:=by simpa [Dats] using h
    rw [e];rfl
  | H,d :: ds,xs,h=>by
    obtain ⟨x,r,rfl,_,t⟩ : ∃ x r,xs = x :: r∧Dat H d x∧Dats H ds r:=by simpa only [Dats] using h
    rw [List.length_cons,List.length_cons,Dats.length t]
theorem Dats.get : ∀ {H : Hp} {ds : List D} {xs : List V} {i : Nat} {d : D},Dats H ds xs→ds[i]? = some d→∃ x,xs[i]? = some x∧Dat H d x
  | H,[],xs,i,d,h,e=>by simp at e
  | H,d' :: ds,xs,i,d,h,e=>by
    obtain ⟨x,r,rfl,hx,t⟩ : ∃ x r,xs = x :: r∧Dat H d' x∧Dats H ds r:=by simpa only [Dats] using h
    cases i with
    | zero=>simp at e;subst e;exact ⟨x,rfl,hx⟩
    | succ i=>simpa using Dats.get t (i:=i) (by simpa using e)
theorem Dats.of_get : ∀ {H : Hp} {ds : List D} {xs : List V},xs.length = ds.length→(∀ (i : Nat) (d : D) (x : V),ds[i]? = some d→xs[i]? = some x→Dat H d x)→Dats H ds xs
  | H,[],[],_,_=>by simp [Dats]
  | H,d :: ds,x :: xs,hl,h=>by
    simp only [Dats]
    exact ⟨x,xs,rfl,h 0 d x rfl rfl,Dats.of_get (by simpa using hl) fun i d x e1 e2=>h (i + 1) d x (by simpa using e1) (by simpa using e2)⟩
  | H,[],_ :: _,hl,_=>by simp at hl
  | H,_ :: _,[],hl,_=>by simp at hl
theorem Dats.append : ∀ {H : Hp} {ds es : List D} {xs ys : List V},Dats H ds xs→Dats H es ys→Dats H (ds ++ es) (xs ++ ys)
  | H,[],es,xs,ys,h,h'=>by
    have e : xs = []:=by simpa [Dats] using h
    rw [e];exact h'
  | H,d :: ds,es,xs,ys,h,h'=>by
    obtain ⟨x,r,rfl,hx,t⟩ : ∃ x r,xs = x :: r∧Dat H d x∧Dats H ds r:=by simpa only [Dats] using h
    show Dats H (d :: (ds ++ es)) (x :: (r ++ ys))
    simp only [Dats]
    exact ⟨x,r ++ ys,rfl,hx,Dats.append t h'⟩
theorem Dats.one {H : Hp} {d : D} {x : V} (h : Dat H d x) : Dats H [d] [x]:=by
  simp only [Dats]
  exact ⟨x,[],rfl,h,rfl⟩
mutual
theorem Dat.same {H H' : Hp} (e : Same H H') : ∀ {d : D} {v : V},Dat H d v→Dat H' d v
  | .non,v,h=>by simpa only [Dat] using h
  | .bl b,v,h=>by simpa only [Dat] using h
  | .int i,v,h=>by simpa only [Dat] using h
  | .str x,v,h=>by simpa only [Dat] using h
  | .tup ds,v,h=>by
    simp only [Dat] at h ⊢
    obtain ⟨a,xs,rfl,h1,h2⟩:=h
    exact ⟨a,xs,rfl,e a _ h1,Dats.same e h2⟩
  | .lst ds,v,h=>by
    simp only [Dat] at h ⊢
    obtain ⟨a,xs,rfl,h1,h2⟩:=h
    exact ⟨a,xs,rfl,e a _ h1,Dats.same e h2⟩
theorem Dats.same {H H' : Hp} (e : Same H H') : ∀ {ds : List D} {xs : List V},Dats H ds xs→Dats H' ds xs
  | [],xs,h=>by simpa only [Dats] using h
  | d :: ds,xs,h=>by
    simp only [Dats] at h ⊢
    obtain ⟨x,r,rfl,h1,h2⟩:=h
    exact ⟨x,r,rfl,Dat.same e h1,Dats.same e h2⟩
end
mutual
theorem Dat.inj {H : Hp} : ∀ {d e : D} {v : V},Dat H d v→Dat H e v→d = e
  | .non,e,v,h,h'=>by
    simp only [Dat] at h;subst h
    cases e<;>simp only [Dat] at h'<;>first | rfl | (obtain ⟨_,_,h',_⟩:=h';cases h';done) | (cases h';done)
  | .bl b,e,v,h,h'=>by
    simp only [Dat] at h;subst h
    cases e<;>simp only [Dat] at h'<;>first | (obtain ⟨_,_,h',_⟩:=h';cases h';done) | (cases h';rfl) | (cases h';done)
  | .int i,e,v,h,h'=>by
    simp only [Dat] at h;subst h
    cases e<;>simp only [Dat] at h'<;>first | (obtain ⟨_,_,h',_⟩:=h';cases h';done) | (cases h';rfl) | (cases h';done)
  | .str x,e,v,h,h'=>by
    simp only [Dat] at h;subst h
    cases e<;>simp only [Dat] at h'<;>first | (obtain ⟨_,_,h',_⟩:=h';cases h';done) | (cases h';rfl) | (cases h';done)
  | .tup ds,e,v,h,h'=>by
    simp only [Dat] at h
    obtain ⟨a,xs,rfl,h1,h2⟩:=h
    cases e with
    | tup es =>
      simp only [Dat] at h'
      obtain ⟨b,ys,e1,h3,h4⟩:=h'
      cases e1
      rw [h1] at h3;cases h3
      rw [Dats.inj h2 h4]
    | lst es =>
      simp only [Dat] at h'
      obtain ⟨b,ys,e1,h3,h4⟩:=h'
      cases e1
      rw [h1] at h3;cases h3
    | _=>simp only [Dat] at h';cases h'
  | .lst ds,e,v,h,h'=>by
    simp only [Dat] at h
    obtain ⟨a,xs,rfl,h1,h2⟩:=h
    cases e with
    | lst es =>
      simp only [Dat] at h'
      obtain ⟨b,ys,e1,h3,h4⟩:=h'
      cases e1
      rw [h1] at h3;cases h3
      rw [Dats.inj h2 h4]
    | tup es =>
      simp only [Dat] at h'
      obtain ⟨b,ys,e1,h3,h4⟩:=h'
      cases e1
      rw [h1] at h3;cases h3
    | _=>simp only [Dat] at h';cases h'
theorem Dats.inj {H : Hp} : ∀ {ds es : List D} {xs : List V},Dats H ds xs→Dats H es xs→ds = es
  | [],[],_,_,_=>rfl
  | [],e :: es,xs,h,h'=>by
    simp only [Dats] at h h'
    obtain ⟨x,r,rfl,_⟩:=h'
    cases h
  | d :: ds,[],xs,h,h'=>by
    simp only [Dats] at h h'
    obtain ⟨x,r,rfl,_⟩:=h
    cases h'
  | d :: ds,e :: es,xs,h,h'=>by
    simp only [Dats] at h h'
    obtain ⟨x,r,rfl,h1,h2⟩:=h
    obtain ⟨x',r',e1,h3,h4⟩:=h'
    cases e1
    rw [Dat.inj h1 h3,Dats.inj h2 h4]
end
mutual
theorem eqD_refl : ∀ d : D,eqD d d = true
  | .non=>by simp [eqD]
  | .bl b=>by simp [eqD]
  | .int i=>by simp [eqD]
  | .str x=>by simp [eqD]
  | .tup ds=>by simp only [eqD];exact eqDs_refl ds
  | .lst ds=>by simp only [eqD];exact eqDs_refl ds
theorem eqDs_refl : ∀ ds : List D,eqDs ds ds = true
  | []=>by simp [eqDs]
  | d :: ds=>by simp only [eqDs,eqD_refl d,eqDs_refl ds,Bool.and_self]
end
theorem eqDs_len : ∀ {ds es : List D},ds.length≠es.length→eqDs ds es = false
  | [],[],h=>absurd rfl h
  | [],_ :: _,_=>by simp [eqDs]
  | _ :: _,[],_=>by simp [eqDs]
  | d :: ds,e :: es,h=>by
    simp only [eqDs,eqDs_len (ds:=ds) (es:=es) (by simpa using h),Bool.and_false]
theorem eqDs_range : ∀ {ds es : List D},ds.length = es.length→(List.range ds.length).all (fun j=>eqD (ds.getD j .non) (es.getD j .non)) = eqDs ds es
  | [],[],_=>by simp [eqDs]
  | [],_ :: _,h=>by simp at h
  | _ :: _,[],h=>by simp at h
  | d :: ds,e :: es,h=>by
    have ih:=eqDs_range (ds:=ds) (es:=es) (by simpa using h)
    rw [List.length_cons,List.range_succ_eq_map,List.all_cons,List.all_map]
    simp only [eqDs,← ih]
    rfl
section
variable {X : Cx} {pins : List (Addr × Obj)} {σ : St} {H : Hp} {s : Shared}
theorem vals_at : ∀ {xs : List V} {us : List Value} {j : Nat} {x : V},Vals xs us→xs[j]? = some x→∀ (h : j < us.toArray.size),RelV x us.toArray[j]:=fun {xs us j x} r e h=>by
  obtain ⟨u,h1,h2⟩:=r.get e
  have : us[j]? = some us.toArray[j]:=by
    rw [List.getElem?_eq_getElem (by simpa using h)]
    simp
  rw [h1] at this
  cases this
  exact h2
theorem tup_at (I : Inv X pins σ H s) {a : Addr} {xs : List V} (h : H a = some (.tup xs)) : ∃ its : List Value,Vals xs its∧s.heap.IsTuple a its.toArray:=by
  obtain ⟨its,r,p,_⟩:=I.tuple (SqT.of (K:=X.K) h)
  exact ⟨its,r,p⟩
theorem lst_at (I : Inv X pins σ H s) {a : Addr} {xs : List V} (h : H a = some (.lst xs)) : ∃ its : List Value,Vals xs its∧s.heap.IsList a its.toArray:=by
  obtain ⟨its,r,p,_⟩:=I.list (SqL.of (K:=X.K) h)
  exact ⟨its,r,p.isList⟩
theorem eqDs_min {ds es : List D} : ((List.range (min ds.length es.length)).all (fun j=>eqD (ds.getD j .non) (es.getD j .non)) && ds.length == es.length) = eqDs ds es:=by
  by_cases h : ds.length = es.length
  · rw [← eqDs_range h]
    have : min ds.length es.length = ds.length:=by omega
    rw [this]
    simp [h]
  · rw [eqDs_len h]
    have : (ds.length == es.length) = false:=by simpa using h
    rw [this,Bool.and_false]
theorem eqAt_D (I : Inv X pins σ H s) (n : Nat) : ∀ (d e : D) (x y : V) (v u : Value) (A : Around),dep d≤n→A.units + n < cLine→Dat H d x→Dat H e y→RelV x v→RelV y u →
    SeqAt.RcAt A s v u (eqD d e)∧SeqAt.EqAt A s v u (eqD d e)∧SeqAt.RcNeAt A s v u (!eqD d e):=by
  induction n with
  | zero =>
    intro d e x y v u A hd hu hx hy rx ry
    have hu' : A.units < cLine:=by omega
    cases d with
    | tup ds=>simp only [dep] at hd;omega
    | lst ds=>simp only [dep] at hd;omega
    | non =>
      simp only [Dat] at hx;subst hx;cases rx
      cases e with
      | non=>simp only [Dat] at hy;subst hy;cases ry;exact ⟨SeqAt.RcAt.none_none,SeqAt.EqAt.same _,SeqAt.RcNeAt.none_none⟩
      | bl b=>simp only [Dat] at hy;subst hy;cases ry;exact ⟨SeqAt.RcAt.none_bool b,SeqAt.EqAt.none_bool b,SeqAt.RcNeAt.none_bool b⟩
      | int b=>simp only [Dat] at hy;subst hy;obtain ⟨t,rfl⟩:=ry;exact ⟨SeqAt.RcAt.none_int b t,SeqAt.EqAt.none_int b t,SeqAt.RcNeAt.none_int b t⟩
      | str b=>simp only [Dat] at hy;subst hy;obtain ⟨t,rfl⟩:=ry;exact ⟨SeqAt.RcAt.none_str b t,SeqAt.EqAt.none_str b t,SeqAt.RcNeAt.none_str b t⟩
      | tup es =>
        simp only [Dat] at hy;obtain ⟨b,ys,rfl,hb,_⟩:=hy;cases ry
        obtain ⟨its,_,p⟩:=tup_at I hb
        exact ⟨SeqAt.RcAt.none_tuple p hu',SeqAt.EqAt.none_tuple p hu',SeqAt.RcNeAt.none_tuple p hu'⟩
      | lst es =>
        simp only [Dat] at hy;obtain ⟨b,ys,rfl,hb,_⟩:=hy;cases ry
        obtain ⟨its,_,p⟩:=lst_at I hb
        exact ⟨SeqAt.RcAt.none_list p hu',SeqAt.EqAt.none_list p hu',SeqAt.RcNeAt.none_list p hu'⟩
    | bl a =>
      simp only [Dat] at hx;subst hx;cases rx
      cases e with
      | non=>simp only [Dat] at hy;subst hy;cases ry;exact ⟨SeqAt.RcAt.bool_none a,SeqAt.EqAt.bool_none a,SeqAt.RcNeAt.bool_none a⟩
      | bl b=>simp only [Dat] at hy;subst hy;cases ry;exact ⟨SeqAt.RcAt.bool_bool a b,SeqAt.EqAt.bool_bool a b,SeqAt.RcNeAt.bool_bool a b⟩
      | int b=>simp only [Dat] at hy;subst hy;obtain ⟨t,rfl⟩:=ry;exact ⟨SeqAt.RcAt.bool_int a b t,SeqAt.EqAt.bool_int a b t,SeqAt.RcNeAt.bool_int a b t⟩
      | str b=>simp only [Dat] at hy;subst hy;obtain ⟨t,rfl⟩:=ry;exact ⟨SeqAt.RcAt.bool_str a b t,SeqAt.EqAt.bool_str a b t,SeqAt.RcNeAt.bool_str a b t⟩
      | tup es =>
        simp only [Dat] at hy;obtain ⟨b,ys,rfl,hb,_⟩:=hy;cases ry
        obtain ⟨its,_,p⟩:=tup_at I hb
        exact ⟨SeqAt.RcAt.bool_tuple a p hu',SeqAt.EqAt.bool_tuple a p hu',SeqAt.RcNeAt.bool_tuple a p hu'⟩
      | lst es =>
        simp only [Dat] at hy;obtain ⟨b,ys,rfl,hb,_⟩:=hy;cases ry
        obtain ⟨its,_,p⟩:=lst_at I hb
        exact ⟨SeqAt.RcAt.bool_list a p hu',SeqAt.EqAt.bool_list a p hu',SeqAt.RcNeAt.bool_list a p hu'⟩
    | int a =>
      simp only [Dat] at hx;subst hx;obtain ⟨t',rfl⟩:=rx
      cases e with
      | non=>simp only [Dat] at hy;subst hy;cases ry;exact ⟨SeqAt.RcAt.int_none a t',SeqAt.EqAt.int_none a t',SeqAt.RcNeAt.int_none a t'⟩
      | bl b=>simp only [Dat] at hy;subst hy;cases ry;exact ⟨SeqAt.RcAt.int_bool a t' b,SeqAt.EqAt.int_bool a t' b,SeqAt.RcNeAt.int_bool a t' b⟩
      | int b=>simp only [Dat] at hy;subst hy;obtain ⟨t,rfl⟩:=ry;exact ⟨SeqAt.RcAt.int_int a t' b t,SeqAt.EqAt.int_int a t' b t,SeqAt.RcNeAt.int_int a t' b t⟩
      | str b=>simp only [Dat] at hy;subst hy;obtain ⟨t,rfl⟩:=ry;exact ⟨SeqAt.RcAt.int_str a t' b t,SeqAt.EqAt.int_str a t' b t,SeqAt.RcNeAt.int_str a t' b t⟩
      | tup es =>
        simp only [Dat] at hy;obtain ⟨b,ys,rfl,hb,_⟩:=hy;cases ry
        obtain ⟨its,_,p⟩:=tup_at I hb
        exact ⟨SeqAt.RcAt.int_tuple a t' p hu',SeqAt.EqAt.int_tuple a t' p hu',SeqAt.RcNeAt.int_tuple a t' p hu'⟩
      | lst es =>
        simp only [Dat] at hy;obtain ⟨b,ys,rfl,hb,_⟩:=hy;cases ry
        obtain ⟨its,_,p⟩:=lst_at I hb
        exact ⟨SeqAt.RcAt.int_list a t' p hu',SeqAt.EqAt.int_list a t' p hu',SeqAt.RcNeAt.int_list a t' p hu'⟩
    | str a =>
      simp only [Dat] at hx;subst hx;obtain ⟨t',rfl⟩:=rx
      cases e with
      | non=>simp only [Dat] at hy;subst hy;cases ry;exact ⟨SeqAt.RcAt.str_none a t',SeqAt.EqAt.str_none a t',SeqAt.RcNeAt.str_none a t'⟩
      | bl b=>simp only [Dat] at hy;subst hy;cases ry;exact ⟨SeqAt.RcAt.str_bool a t' b,SeqAt.EqAt.str_bool a t' b,SeqAt.RcNeAt.str_bool a t' b⟩
      | int b=>simp only [Dat] at hy;subst hy;obtain ⟨t,rfl⟩:=ry;exact ⟨SeqAt.RcAt.str_int a t' b t,SeqAt.EqAt.str_int a t' b t,SeqAt.RcNeAt.str_int a t' b t⟩
      | str b=>simp only [Dat] at hy;subst hy;obtain ⟨t,rfl⟩:=ry;exact ⟨SeqAt.RcAt.str_str a t' b t,SeqAt.EqAt.str_str a t' b t,SeqAt.RcNeAt.str_str a t' b t⟩
      | tup es =>
        simp only [Dat] at hy;obtain ⟨b,ys,rfl,hb,_⟩:=hy;cases ry
        obtain ⟨its,_,p⟩:=tup_at I hb
        exact ⟨SeqAt.RcAt.str_tuple a t' p hu',SeqAt.EqAt.str_tuple a t' p hu',SeqAt.RcNeAt.str_tuple a t' p hu'⟩
      | lst es =>
        simp only [Dat] at hy;obtain ⟨b,ys,rfl,hb,_⟩:=hy;cases ry
        obtain ⟨its,_,p⟩:=lst_at I hb
        exact ⟨SeqAt.RcAt.str_list a t' p hu',SeqAt.EqAt.str_list a t' p hu',SeqAt.RcNeAt.str_list a t' p hu'⟩
  | succ n ih =>
    intro d e x y v u A hd hu hx hy rx ry
    have hu' : A.units < cLine:=by omega
    by_cases h0 : dep d≤n
    · exact ih d e x y v u A h0 (by omega) hx hy rx ry
    have hin : A.in1.units + n < cLine:=by show A.units + 1 + n < cLine;omega
    have items : ∀ (ds es : List D) (xs ys : List V) (its its2 : List Value),deps ds≤n→Dats H ds xs→Dats H es ys→Vals xs its→Vals ys its2 →
        ∀ j (h1 : j < its.toArray.size) (h2 : j < its2.toArray.size),SeqAt.EqAt A.in1 s its.toArray[j] its2.toArray[j] (eqD (ds.getD j .non) (es.getD j .non)):=by
      intro ds es xs ys its its2 hdp hxs hys r1 r2 j h1 h2
      have l1 : j < ds.length:=by rw [← hxs.length,r1.length];simpa using h1
      have l2 : j < es.length:=by rw [← hys.length,r2.length];simpa using h2
      obtain ⟨x',ex,hx'⟩:=hxs.get (List.getElem?_eq_getElem l1)
      obtain ⟨y',ey,hy'⟩:=hys.get (List.getElem?_eq_getElem l2)
      have g1 : ds.getD j .non = ds[j]:=by rw [List.getD_eq_getElem?_getD,List.getElem?_eq_getElem l1];rfl
      have g2 : es.getD j .non = es[j]:=by rw [List.getD_eq_getElem?_getD,List.getElem?_eq_getElem l2];rfl
      rw [g1,g2]
      exact (ih ds[j] es[j] x' y' _ _ A.in1 (Nat.le_trans (deps_mem (List.getElem_mem l1)) hdp) hin hx' hy' (vals_at r1 ex h1) (vals_at r2 ey h2)).2.1
    cases d with
    | non=>simp only [dep] at h0;omega
    | bl a=>simp only [dep] at h0;omega
    | int a=>simp only [dep] at h0;omega
    | str a=>simp only [dep] at h0;omega
    | tup ds =>
      simp only [dep] at hd
      have hx0:=hx
      simp only [Dat] at hx;obtain ⟨a,xs,rfl,ha,hxs⟩:=hx;cases rx
      obtain ⟨its,r1,p⟩:=tup_at I ha
      cases e with
      | non=>simp only [Dat] at hy;subst hy;cases ry;exact ⟨SeqAt.RcAt.tuple_none p hu',SeqAt.EqAt.tuple_none p hu',SeqAt.RcNeAt.tuple_none p hu'⟩
      | bl b=>simp only [Dat] at hy;subst hy;cases ry;exact ⟨SeqAt.RcAt.tuple_bool b p hu',SeqAt.EqAt.tuple_bool b p hu',SeqAt.RcNeAt.tuple_bool b p hu'⟩
      | int b=>simp only [Dat] at hy;subst hy;obtain ⟨t,rfl⟩:=ry;exact ⟨SeqAt.RcAt.tuple_int b t p hu',SeqAt.EqAt.tuple_int b t p hu',SeqAt.RcNeAt.tuple_int b t p hu'⟩
      | str b=>simp only [Dat] at hy;subst hy;obtain ⟨t,rfl⟩:=ry;exact ⟨SeqAt.RcAt.tuple_str b t p hu',SeqAt.EqAt.tuple_str b t p hu',SeqAt.RcNeAt.tuple_str b t p hu'⟩
      | lst es =>
        simp only [Dat] at hy;obtain ⟨b,ys,rfl,hb,_⟩:=hy;cases ry
        obtain ⟨its2,_,p2⟩:=lst_at I hb
        exact ⟨SeqAt.RcAt.tuple_list p p2 hu',SeqAt.EqAt.tuple_list p p2 hu',SeqAt.RcNeAt.tuple_list p p2 hu'⟩
      | tup es =>
        have hy0:=hy
        simp only [Dat] at hy;obtain ⟨b,ys,rfl,hb,hys⟩:=hy;cases ry
        obtain ⟨its2,r2,p2⟩:=tup_at I hb
        have it:=items ds es xs ys its its2 (by omega) hxs hys r1 r2
        have z1 : its.toArray.size = ds.length:=by rw [← hxs.length,r1.length];simp
        have z2 : its2.toArray.size = es.length:=by rw [← hys.length,r2.length];simp
        have e0:=eqDs_min (ds:=ds) (es:=es)
        have rc : SeqAt.RcAt A s (.ref a) (.ref b) (eqDs ds es):=by
          have:=SeqAt.RcAt.tuples p p2 hu' it
          rw [z1,z2,e0] at this
          exact this
        have rn : SeqAt.RcNeAt A s (.ref a) (.ref b) (!eqDs ds es):=by
          have:=SeqAt.RcNeAt.tuples p p2 hu' it
          rw [z1,z2,e0] at this
          exact this
        simp only [eqD]
        refine ⟨rc,?_,rn⟩
        by_cases hab : a = b
        · subst hab
          have : D.tup ds = D.tup es:=hx0.inj hy0
          cases this
          rw [eqDs_refl]
          exact SeqAt.EqAt.same _
        · exact .of_refs hab rc
    | lst ds =>
      simp only [dep] at hd
      have hx0:=hx
      simp only [Dat] at hx;obtain ⟨a,xs,rfl,ha,hxs⟩:=hx;cases rx
      obtain ⟨its,r1,p⟩:=lst_at I ha
      cases e with
      | non=>simp only [Dat] at hy;subst hy;cases ry;exact ⟨SeqAt.RcAt.list_none p hu',SeqAt.EqAt.list_none p hu',SeqAt.RcNeAt.list_none p hu'⟩
      | bl b=>simp only [Dat] at hy;subst hy;cases ry;exact ⟨SeqAt.RcAt.list_bool b p hu',SeqAt.EqAt.list_bool b p hu',SeqAt.RcNeAt.list_bool b p hu'⟩
      | int b=>simp only [Dat] at hy;subst hy;obtain ⟨t,rfl⟩:=ry;exact ⟨SeqAt.RcAt.list_int b t p hu',SeqAt.EqAt.list_int b t p hu',SeqAt.RcNeAt.list_int b t p hu'⟩
      | str b=>simp only [Dat] at hy;subst hy;obtain ⟨t,rfl⟩:=ry;exact ⟨SeqAt.RcAt.list_str b t p hu',SeqAt.EqAt.list_str b t p hu',SeqAt.RcNeAt.list_str b t p hu'⟩
      | tup es =>
        simp only [Dat] at hy;obtain ⟨b,ys,rfl,hb,_⟩:=hy;cases ry
        obtain ⟨its2,_,p2⟩:=tup_at I hb
        exact ⟨SeqAt.RcAt.list_tuple p p2 hu',SeqAt.EqAt.list_tuple p p2 hu',SeqAt.RcNeAt.list_tuple p p2 hu'⟩
      | lst es =>
        have hy0:=hy
        simp only [Dat] at hy;obtain ⟨b,ys,rfl,hb,hys⟩:=hy;cases ry
        obtain ⟨its2,r2,p2⟩:=lst_at I hb
        have it:=items ds es xs ys its its2 (by omega) hxs hys r1 r2
        have z1 : its.toArray.size = ds.length:=by rw [← hxs.length,r1.length];simp
        have z2 : its2.toArray.size = es.length:=by rw [← hys.length,r2.length];simp
        have both : SeqAt.RcAt A s (.ref a) (.ref b) (eqDs ds es)∧SeqAt.RcNeAt A s (.ref a) (.ref b) (!eqDs ds es):=by
          by_cases hl : ds.length = es.length
          · have r:=SeqAt.RcAt.lists p p2 (by rw [z1,z2];exact hl) hu' it
            have q:=SeqAt.RcNeAt.lists p p2 (by rw [z1,z2];exact hl) hu' it
            rw [z1,eqDs_range hl] at r q
            exact ⟨r,q⟩
          · have hne : (its.toArray.size != its2.toArray.size) = true:=by rw [z1,z2];simpa using hl
            rw [eqDs_len hl]
            exact ⟨SeqAt.RcAt.lists_lengths p p2 hne hu',SeqAt.RcNeAt.lists_lengths p p2 hne hu'⟩
        simp only [eqD]
        refine ⟨both.1,?_,both.2⟩
        by_cases hab : a = b
        · subst hab
          have : D.lst ds = D.lst es:=hx0.inj hy0
          cases this
          rw [eqDs_refl]
          exact SeqAt.EqAt.same _
        · exact .of_refs hab both.1
def rEqD (neg : Bool) : R2:=fun x y H Q=>∃ d e,Dat H d x∧Dat H e y∧dep d≤100∧Q (.bl (if neg then !eqD d e else eqD d e)) H
theorem op_eqD (hu : X.A.units + 100 < cLine) : OpR X (compareOp .Eq) (rEqD false):=by
  intro pins s σ H x y v u Q I rx ry h
  obtain ⟨d,e,hx,hy,hd,q⟩:=h
  exact (eqAt_D I 100 d e x y v u X.A hd hu hx hy rx ry).1 X.prog X.w _ _ ⟨.bl _,H,I,rfl,q⟩
theorem op_neD (hu : X.A.units + 100 < cLine) : OpR X (compareOp .NotEq) (rEqD true):=by
  intro pins s σ H x y v u Q I rx ry h
  obtain ⟨d,e,hx,hy,hd,q⟩:=h
  exact (eqAt_D I 100 d e x y v u X.A hd hu hx hy rx ry).2.2 X.prog X.w _ _ ⟨.bl _,H,I,rfl,q⟩
end
theorem same_upd {H : Hp} {p : Addr} {o : HO} (h : H p = none) : Same H (upd H p o):=fun b u e=>by
  rw [upd_ne (ne_of_none e h)];exact e
theorem dats_ints (H : Hp) : ∀ ns : List Int,Dats H (ns.map D.int) (ns.map V.int)
  | []=>by simp [Dats]
  | n :: r=>by
    simp only [List.map_cons,Dats]
    exact ⟨_,_,rfl,by simp [Dat],dats_ints H r⟩
theorem dats_ints_eq {H : Hp} : ∀ {ns : List Int} {xs : List V},Dats H (ns.map D.int) xs→xs = ns.map V.int
  | [],xs,h=>by simpa [Dats] using h
  | n :: r,xs,h=>by
    simp only [List.map_cons,Dats] at h
    obtain ⟨x,t,rfl,h1,h2⟩:=h
    rw [dats_ints_eq h2]
    simp only [Dat] at h1
    rw [h1];rfl
section
variable {X : Cx}
end
section
variable {K : PySem.W.Frag} {g : TG} {tc : TT} {l : TL} {acc : Addr} {σ : St} {H : Hp} {R : St→Hp→Prop}
end
theorem cmul_mod {e k y : Int} (h : 0 < k) (h2 : k≤2 ^ 64) : CMul (e % k) y:=by
  have h1:=Int.emod_nonneg e (Int.ne_of_gt h)
  have h3:=Int.emod_lt_of_pos e h
  exact .inl ⟨by omega,by omega⟩
theorem cmul_l {x y : Int} (h : -(2 ^ 64) < x∧x < 2 ^ 64) : CMul x y:=.inl h
theorem cmul_r {x y : Int} (h : -(2 ^ 64) < y∧y < 2 ^ 64) : CMul x y:=.inr h
section
variable {X : Cx} {tg a b l : Expr} {ta tb tl : TE} {pos : Pos}
theorem ix_seqK (K : PySem.W.Frag) (h : X.K = K) : IxR X (rIx K):=h ▸ ix_seq
theorem call_lenK (K : PySem.W.Frag) (h : X.K = K) : CallR X (.builtin "len") (fun xs H Q=>∃ x n,xs = [x]∧LenV K x H n∧Q (.int n) H):=h ▸ call_len
theorem pt_truthK (K : PySem.W.Frag) (h : X.K = K) (ha : PE X a ta) (he : ∀ whole,isTrue a X.env whole = (do let v ← whole;standAt a.pos;holding [v] (truthy v))) :
    PT X a (fun σ H Q=>ta σ H fun x H'=>∃ k,TruV K x H' k∧Q k H'):=h ▸ pt_truth ha he
theorem call_list_ofK (K : PySem.W.Frag) (h : X.K = K) : CallR X (.type "list") (fun xs H Q=>∃ p ys,xs = [.ref p]∧(SqL K H p ys∨SqT K H p ys)∧∀ l,H l = none→Q (.ref l) (upd H l (.lst ys))):=h ▸ call_list_of
theorem call_tuple_ofK (K : PySem.W.Frag) (h : X.K = K) : CallR X (.type "tuple") (fun xs H Q=>∃ p ys,xs = [.ref p]∧((SqL K H p ys∧∀ l,H l = none→Q (.ref l) (upd H l (.tup ys)))∨(SqT K H p ys∧Q (.ref p) H))):=h ▸ call_tuple_of
end
def forW (J : It) (g : TG) (tb : TS) (D : Ends) (σ : St) (H : Hp) : Prop:=∃ W : Nat→Nat→St→Hp→Prop,(∃ m,W 0 m σ H)∧∀ i m σ H,W i m σ H →
  (J.stop i H∧D.nx σ H)∨(J.go i H∧∃ N : St→Hp→Prop,(∀ σ' H',N σ' H'→∃ m',m' < m∧W (i + 1) m' σ' H')∧∀ x H',J.yld i H x H'→g x σ H' fun σ2 H2=>tb { D with nx:=N,ct:=N,bk:=D.nx } σ2 H2)
theorem tFor_eq (wi : TI) (g : TG) (tb : TS) (D : Ends) (σ : St) (H : Hp) : tFor wi g tb D σ H = wi σ H fun J H1=>forW J g tb D σ H1:=rfl
section
variable {K : PySem.W.Frag} {a : Addr} {xs : List V} {g : TG} {tb : TS} {D : Ends} {σ : St} {H : Hp}
end
def TSame (H H' : Hp) : Prop:=∀ b xs,H b = some (.tup xs)→H' b = some (.tup xs)
mutual
def noL : D→Bool
  | .lst _=>false
  | .tup ds=>noLs ds
  | _=>true
def noLs : List D→Bool
  | []=>true
  | d :: ds=>noL d && noLs ds
end
mutual
theorem Dat.t {H H' : Hp} (e : TSame H H') : ∀ {d : D} {v : V},noL d = true→Dat H d v→Dat H' d v
  | .non,v,_,h=>by simpa only [Dat] using h
  | .bl b,v,_,h=>by simpa only [Dat] using h
  | .int i,v,_,h=>by simpa only [Dat] using h
  | .str x,v,_,h=>by simpa only [Dat] using h
  | .tup ds,v,n,h=>by
    simp only [Dat] at h ⊢
    simp only [noL] at n
    obtain ⟨a,xs,rfl,h1,h2⟩:=h
    exact ⟨a,xs,rfl,e a _ h1,Dats.t e n h2⟩
  | .lst ds,v,n,h=>by simp [noL] at n
theorem Dats.t {H H' : Hp} (e : TSame H H') : ∀ {ds : List D} {xs : List V},noLs ds = true→Dats H ds xs→Dats H' ds xs
  | [],xs,_,h=>by simpa only [Dats] using h
  | d :: ds,xs,n,h=>by
    simp only [Dats] at h ⊢
    simp only [noLs,Bool.and_eq_true] at n
    obtain ⟨x,r,rfl,h1,h2⟩:=h
    exact ⟨x,r,rfl,Dat.t e n.1 h1,Dats.t e n.2 h2⟩
end
theorem noLs_all : ∀ {ds : List D},(∀ d∈ds,noL d = true)→noLs ds = true
  | [],_=>by simp [noLs]
  | d :: ds,h=>by
    simp only [noLs,Bool.and_eq_true]
    exact ⟨h d (List.mem_cons_self ..),noLs_all fun e he=>h e (List.mem_cons_of_mem _ he)⟩
theorem noLs_ints (ns : List Int) : noLs (ns.map D.int) = true:=noLs_all fun d hd=>by
  obtain ⟨n,_,rfl⟩:=List.mem_map.mp hd
  simp [noL]
end L2
namespace L2
end L2
namespace L2
open PySem
theorem Room.u100 {k : Nat} {A : Around} (r : Room k A) : A.units + 100 < cLine:=by have:=r.un;omega
theorem deps_le : ∀ {ds : List D} {n : Nat},(∀ d∈ds,dep d≤n)→deps ds≤n
  | [],n,_=>by simp [deps]
  | d :: ds,n,h=>by
    simp only [deps]
    exact Nat.max_le.mpr ⟨h d (List.mem_cons_self ..),deps_le fun e he=>h e (List.mem_cons_of_mem _ he)⟩
theorem deps_ints (ns : List Int) : deps (ns.map D.int) = 0:=by
  have : deps (ns.map D.int)≤0:=deps_le fun d hd=>by
    obtain ⟨n,_,rfl⟩:=List.mem_map.mp hd
    simp [dep]
  omega
end L2
namespace L2
open PySem PySem.Spec PyProof.Rows
section
variable {X : Cx}
end
end L2
namespace L2
open PySem
theorem Dats.take {H : Hp} : ∀ {ds : List D} {xs : List V} (n : Nat),Dats H ds xs→Dats H (ds.take n) (xs.take n):=fun {ds xs} n h=>by
  refine Dats.of_get (by rw [List.length_take,List.length_take,h.length]) fun i d x e1 e2=>?_
  rw [List.getElem?_take] at e1 e2
  split at e1
  · rename_i hi
    rw [if_pos hi] at e2
    obtain ⟨x',h1,h2⟩:=h.get e1
    rw [e2] at h1;cases h1;exact h2
  · cases e1
theorem Dats.drop {H : Hp} : ∀ {ds : List D} {xs : List V} (n : Nat),Dats H ds xs→Dats H (ds.drop n) (xs.drop n):=fun {ds xs} n h=>by
  refine Dats.of_get (by rw [List.length_drop,List.length_drop,h.length]) fun i d x e1 e2=>?_
  rw [List.getElem?_drop] at e1 e2
  obtain ⟨x',h1,h2⟩:=h.get e1
  rw [e2] at h1;cases h1;exact h2
end L2
namespace L2
open PySem PySem.Spec PyProof.Rows
section
variable {X : Cx} {e st : Expr} {te ts : TE} {pos p2 : Pos}
def tRev (K : PySem.W.Frag) (te ts : TE) : TE:=fun σ H Q=>te σ H fun x H1=>ts σ H1 fun k H2=>k = .int (-1)∧∃ a xs,x = .ref a∧SqL K H2 a xs∧∀ p,H2 p = none→Q (.ref p) (upd H2 p (.lst xs.reverse))
theorem pe_rev (K : PySem.W.Frag) (hK : X.K = K) (he : PE X e te) (hs : PE X st ts) : PE X (.Subscript e (.Slice none none (some st) p2) pos) (tRev K te ts):=.mk <| by
  subst hK
  intro pins s σ H Q I h
  refine Subscript_ (thn (he pins s σ H _ I h) fun v s1 ⟨x,H1,I1,r1,q1⟩=>?_)
  refine wpAny_Slice ?_
  rw [evalPart_none]
  refine wpAny_pure (wpAny_pure ?_)
  rw [evalPart_some]
  refine thn (hs pins s1 σ H1 _ I1 q1) fun u s2 ⟨k,H2,I2,r2,q2⟩=>?_
  obtain ⟨rfl,a,xs,rfl,hx,q⟩:=q2
  obtain ⟨t,rfl⟩:=r2
  cases r1
  have I4 : Inv X pins σ H2 { s2 with heap:=s2.heap.push { cls:=.type "slice",data:=.fields #[.none,.none,.int (-1) t] } }:=I2.kept (t':=s2.toks) fun b ob q=>Heap.get?_push_of_some _ q
  obtain ⟨its,r,ht,hz⟩:=I4.list hx
  have hlen:=r.length
  refine tail_any (ops:=[.ref a,.ref s2.heap.objs.size]) (ht.isList.typeIs) slot_list_getitem.lookup ?_ (by with_unfolding_all rfl)
  refine wpAny_getItem_list_slice ht.isList (Heap.IsSliceOf.new ..) .none .none (.int (-1) t) (by simp) ?_ (by rw [List.size_toArray]<;>omega)
  rw [PySem.W.krv_pick]
  refine ⟨.ref _,_,I4.laid (t':=s2.toks) (o:=.lst xs.reverse) (fun b ob q=>Heap.get?_push_of_some _ q) (Nat.le_refl _) ?_,rfl,q _ (I4.hok.fresh (Nat.le_refl _))⟩
  refine ⟨by rw [List.length_reverse];exact hz,its.reverse,0,?_,Heap.get?_push_size _ rfl⟩
  exact r.reverse
end
def LD (H : Hp) (l : Addr) (ds : List D) : Prop:=noLs ds = true∧∃ xs,H l = some (.lst xs)∧Dats H ds xs
theorem noLs_append {ds es : List D} : noLs (ds ++ es) = (noLs ds && noLs es):=by
  induction ds with
  | nil=>simp [noLs]
  | cons d ds ih=>simp [noLs,ih,Bool.and_assoc]
inductive Tr where
  | lf (x : List D)
  | nd (x : List D) (l r : Tr)
namespace Tr
def d : Tr→D
  | .lf x=>.tup x
  | .nd x l r=>.tup (x ++ [l.d,r.d])
def size : Tr→Nat
  | .lf _=>1
  | .nd _ l r=>l.size + r.size + 1
def lvs : Tr→Nat
  | .lf _=>1
  | .nd _ l r=>l.lvs + r.lvs
def dp : Tr→Nat
  | .lf _=>0
  | .nd _ l r=>1 + max l.dp r.dp
def post : Tr→List Tr
  | .lf x=>[.lf x]
  | .nd x l r=>l.post ++ r.post ++ [.nd x l r]
def pre : Tr→List Tr
  | .lf x=>[.lf x]
  | .nd x l r=>.nd x l r :: (r.pre ++ l.pre)
def ok (lw : Str) : Tr→Prop
  | .lf x=>x[0]? = some (.str lw)∧noLs x = true
  | .nd x l r=>(∃ w,x[0]? = some (.str w)∧w≠lw)∧noLs x = true∧l.ok lw∧r.ok lw
theorem pre_rev : ∀ t : Tr,t.pre.reverse = t.post
  | .lf x=>rfl
  | .nd x l r=>by simp [pre,post,pre_rev l,pre_rev r]
theorem size_pos : ∀ t : Tr,1≤t.size
  | .lf x=>Nat.le_refl _
  | .nd x l r=>by simp only [size];omega
theorem size_lvs : ∀ t : Tr,t.size + 1 = 2 * t.lvs
  | .lf x=>rfl
  | .nd x l r=>by
    have:=size_lvs l
    have:=size_lvs r
    simp only [size,lvs];omega
theorem ok.noL {lw : Str} : ∀ {t : Tr},t.ok lw→noL t.d = true
  | .lf x,h=>by simp only [d,L2.noL];exact h.2
  | .nd x l r,h=>by
    obtain ⟨_,h1,h2,h3⟩:=h
    simp only [d,L2.noL,noLs_append,Bool.and_eq_true]
    exact ⟨h1,by simp [noLs,ok.noL h2,ok.noL h3]⟩
theorem ok.post {lw : Str} : ∀ {t : Tr},t.ok lw→∀ u∈t.post,u.ok lw
  | .lf x,h,u,hu=>by simp only [Tr.post,List.mem_singleton] at hu;subst hu;exact h
  | .nd x l r,h,u,hu=>by
    simp only [Tr.post,List.mem_append,List.mem_singleton] at hu
    rcases hu with (hu | hu) | hu
    · exact ok.post h.2.2.1 u hu
    · exact ok.post h.2.2.2 u hu
    · subst hu;exact h
theorem ok.noLs {lw : Str} {ts : List Tr} (h : ∀ t∈ts,t.ok lw) : noLs (ts.map d) = true:=noLs_all fun e he=>by
  obtain ⟨t,ht,rfl⟩:=List.mem_map.mp he
  exact (h t ht).noL
end Tr
section
variable {K : PySem.W.Frag} {a p : Addr} {ds : List D} {zs : List V} {g : TG} {tb : TS} {Dn : Ends} {σ : St} {H : Hp}
end
section
variable {K : PySem.W.Frag} {a acc : Addr} {ds : List D} {g : TG} {tc : TT} {l : TL} {σ : St} {H : Hp} {R : St→Hp→Prop} {zs : List V}
end
section
variable {X : Cx}
theorem getItem_tuple_whole {prog : Program} {w : World} {A : Around} {E : Value→Shared→Prop} {s : Shared} {t sl : Addr} {items : Array Value} {vl vu : Value} {lo hi : Option Int} {Q : Value→Shared→Prop} (ht : IsTup s.heap t items) (hs : s.heap.IsSliceOf sl vl vu .none) (pl : IsPart vl lo) (pu : IsPart vu hi)
    (hw : HT.sIx items.size 0 lo = 0∧HT.sIx items.size items.size hi = items.size) (h : Q (.ref t) s) : wpAny (model prog w) A (getItem (.ref t) (.ref sl)) Q E s:=by
  obtain ⟨os,hos,hcs,hds⟩:=id hs
  have hTs : s.TypeIs (.ref sl) "slice":=⟨os,hos,hcs⟩
  unfold getItem
  try with_reducible refine wpAny_holding ?_
  first | refine wpAny_bind (wpAny_pure ?_) | skip
  refine wpAny_bind (wpAny_sequenceKey ht.typeIs (by decide) ?_)
  refine wpAny_bind (wpAny_callSpecial?_slot (name:=Str.ofString "__getitem__") ht.typeIs PyProof.Rows.slot_tuple_getitem
    (wpAny_call_entry PyProof.Rows.slot_tuple_getitem ht.typeIs PyProof.Rows.entry_tuple_getitem ?_ (PyProof.Rows.args_tuple_getitem _ _)))
  show wpAny _ _ (Builtin.Tuple.tupleItemsOf (.ref t) >>= _) _ _ s
  refine wpAny_bind (tupleItemsOf_ ht ?_)
  refine wpAny_bind (wpAny_typeOf hTs ?_)
  rw [if_pos (by decide)]
  refine wpAny_bind (HT.sliceApplied_gen hs pl pu ?_)
  have hyes : (((HT.sIx items.size 0 lo : Nat) : Int) == 0 && (1 : Int) == 1 && (HT.sIx items.size items.size hi - HT.sIx items.size 0 lo) == items.size) = true:=by
    rw [hw.1,hw.2];simp
  show wpAny _ _ (if (((HT.sIx items.size 0 lo : Nat) : Int) == 0 && (1 : Int) == 1 && (HT.sIx items.size items.size hi - HT.sIx items.size 0 lo) == items.size) = true then _ else _) _ _ s
  rw [if_pos hyes]
  unfold Builtin.Tuple.tupleIsExact
  refine wpAny_bind (wpAny_bind (wpAny_typeOf ht.typeIs (wpAny_pure ?_)))
  rw [if_pos (by decide)]
  exact wpAny_bind (wpAny_rule (wpAny_pure ⟨_,rfl,wpAny_pure h⟩))
def rSlTA (K : PySem.W.Frag) : V→Option Int→Option Int→Hp→VK→Prop:=fun x lo hi H Q=>∃ a xs,x = .ref a∧SqT K H a xs ∧
  if HT.sIx xs.length 0 lo = 0∧HT.sIx xs.length xs.length hi = xs.length then Q (.ref a) H else ∀ p,H p = none→Q (.ref p) (upd H p (.tup (cutV xs lo hi)))
theorem sl_tupA : SlR X (rSlTA X.K):=by
  intro pins s σ H x v vl vu lo hi sl Q I rx hs pl pu h
  obtain ⟨a,xs,rfl,hx,h⟩:=h
  by_cases hw : HT.sIx xs.length 0 lo = 0∧HT.sIx xs.length xs.length hi = xs.length
  · rw [if_pos hw] at h
    cases rx
    obtain ⟨its,r,ht,hz⟩:=I.tuple hx
    have hlen : its.toArray.size = xs.length:=by rw [List.size_toArray];exact r.length.symm
    exact ⟨"tuple",_,PyProof.Rows.slot_tuple_getitem.lookup,ht.typeIs,getItem_tuple_whole ht hs pl pu (by rw [hlen];exact hw) ⟨.ref a,H,I,rfl,h⟩⟩
  · rw [if_neg hw] at h
    exact sl_tup pins s σ H (.ref a) v vl vu lo hi sl Q I rx hs pl pu ⟨a,xs,rfl,hx,hw,h⟩
end
section
variable {K : PySem.W.Frag} {a : Addr} {ds : List D} {xs : List V} {g : TG} {tb : TS} {Dn : Ends} {σ : St} {H : Hp}
end
section
variable {K : PySem.W.Frag} {a acc : Addr} {ds : List D} {xs : List V} {g : TG} {tc : TT} {l : TL} {σ : St} {H : Hp} {R : St→Hp→Prop}
end
section
variable {X : Cx}
end
def wdD (w : List Int) : D:=.tup (w.map D.int)
def csD (pl : Nat) (ys ns : List (List Int)) : D:=.tup [.int pl,.tup (ys.map wdD),.tup (ns.map wdD)]
theorem noL_wd (w : List Int) : noL (wdD w) = true:=by simp only [wdD,noL];exact noLs_ints w
theorem noLs_wds (ws : List (List Int)) : noLs (ws.map wdD) = true:=noLs_all fun d hd=>by
  obtain ⟨w,_,rfl⟩:=List.mem_map.mp hd
  exact noL_wd w
structure SN (n : Nat) (H : Hp) (S : Addr) (ad : Nat→Addr) (fs : Nat→List D) : Prop where
  s : H S = some (.lst ((List.range n).map fun i=>.ref (ad i)))
  l : ∀ i,i < n→LD H (ad i) (fs i)
def StE (w : World) (e : DictEntry) (p : Str × V) : Prop:=e.hash = PyData.keyHash w.params p.1∧(∃ t,e.key = .str p.1 t)∧RelV p.2 e.val
def StD (w : World) (K : PySem.W.Frag) (a : Addr) (kvs : List (Str × V)) : Prop:=∃ (o : Obj) (es : List DictEntry) (ep : Nat),K.lookup a = some o∧o.ExactDict∧o.data = .dict es.toArray ep∧Paired (StE w) es kvs
def valS (kvs : List (Str × V)) (x : Str) : Option V:=(kvs.find? fun p=>decide (p.1 = x)).map (·.2)
theorem StE.find {P : Program} {w : World} : ∀ {es : List DictEntry} {kvs : List (Str × V)} {x : Str} {v : V},Paired (StE w) es kvs→valS kvs x = some v→∃ u,findBy (mixKind P w).is es.toArray (Sum.inr x) = some u∧RelV v u:=by
  intro es
  induction es with
  | nil=>intro kvs x v h hv;cases h;cases hv
  | cons e es ih =>
    intro kvs x v h hv
    cases h with
    | @cons _ p _ kvs r t =>
      obtain ⟨h1,⟨tk,h2⟩,h3⟩:=r
      have hf : findBy (mixKind P w).is (e :: es).toArray (Sum.inr x) = if keyIs (Sum.inr x) e.key = true then some e.val else findBy (mixKind P w).is es.toArray (Sum.inr x):=by
        unfold findBy
        simp only [List.find?_toArray,List.find?_cons,mixKind_is]
        cases keyIs (Sum.inr x) e.key<;>simp
      by_cases hx : p.1 = x
      · have hk : keyIs (Sum.inr x) e.key = true:=by rw [h2,← hx];exact keyIs_str _ _
        rw [hf,if_pos hk]
        unfold valS at hv
        rw [List.find?_cons_of_pos (by simp [hx])] at hv
        cases hv
        exact ⟨_,rfl,h3⟩
      · have hk : ¬ keyIs (Sum.inr x) e.key = true:=by
          rw [h2]
          intro z
          rcases keyIs_shape z with ⟨i,t',e1,e2⟩ | ⟨y,t',e1,e2⟩
          · cases e2
          · injection e2 with e2 _
            injection e1 with e1
            exact hx (e2.trans e1.symm)
        rw [hf,if_neg hk]
        unfold valS at hv
        rw [List.find?_cons_of_neg (by simp [hx])] at hv
        exact ih t hv
theorem StE.keys {P : Program} {w : World} : ∀ {es : List DictEntry} {kvs : List (Str × V)},Paired (StE w) es kvs→∀ e∈es,∃ k,(mixKind P w).is k e.key = true∧e.hash = (mixKind P w).hash k
  | _,_,.nil,e,h=>by cases h
  | _,_,.cons (a:=e0) (b:=p) r t,e,h=>by
    rcases List.mem_cons.mp h with rfl | h
    · obtain ⟨h1,⟨tk,h2⟩,_⟩:=r
      exact ⟨Sum.inr p.1,by rw [h2];exact mixKind_str _ _ _ _,h1⟩
    · exact StE.keys t e h
section
variable {X : Cx} {o i : Expr} {ty : TE} {pos : Pos} {a : Addr} {kvs : List (Str × V)}
def tSGet (kvs : List (Str × V)) (td ty : TE) : TE:=fun σ H Q=>td σ H fun _ H0=>ty σ H0 fun y H1=>∃ x v,y = .str x∧valS kvs x = some v∧Q v H1
theorem pe_sget (hd : StD X.w X.K a kvs) (ho : PE X o (tC (.ref a))) (hi : PE X i ty) (hs : NoSl i) : PE X (.Subscript o i pos) (tSGet kvs (tC (.ref a)) ty):=.mk <| by
  intro pins s σ H Q I h
  obtain ⟨ob,es,ep,hk,hx,hdat,hp⟩:=hd
  refine subD_of PySem.F.slot_dict_getitem.lookup hs (thn (ho pins s σ H (fun x H1=>x = .ref a∧ty σ H1 fun y H1=>∃ x v,y = .str x∧valS kvs x = some v∧Q v H1) I ⟨rfl,h⟩) fun u s1 ⟨x,H1,I1,rx,ex,q1⟩=>thn (hi pins s1 σ H1 _ I1 q1) fun iv s2 ⟨y,H2,I2,ry,k,v,ey,hv,q2⟩=>?_)
  subst ex
  subst ey
  obtain rfl : u = Value.ref a:=rx
  obtain ⟨t,rfl⟩:=ry
  obtain ⟨u',hf,ru⟩:=StE.find (P:=X.prog) hp hv
  have hg : s2.heap.get? a = some ob:=I2.kIn a ob hk
  have hm : s2.heap.MapOf (mixKind X.prog X.w) a (findBy (mixKind X.prog X.w).is es.toArray):=⟨ob,es.toArray,ep,hg,hx,hdat,fun e he=>StE.keys hp e (by simpa using he),fun _=>rfl⟩
  exact ⟨⟨ob,hg,hx.1⟩,wpAny_getItem_of (knd:=mixKind X.prog X.w) (mixKind_str _ _ _ _) hm hf ⟨v,H2,I2.tok _,ru,q2⟩⟩
end
open Classical in
def eqF (H : Hp) (dx : D) (u : Value) : Bool:=if h : ∃ d,∃ x,RelV x u∧Dat H d x then eqD (Classical.choose h) dx else false
theorem eqF_eq {H : Hp} {dx d : D} {x : V} {u : Value} (r : RelV x u) (h : Dat H d x) : eqF H dx u = eqD d dx:=by
  have hex : ∃ d,∃ x,RelV x u∧Dat H d x:=⟨d,x,r,h⟩
  unfold eqF
  rw [dif_pos hex]
  obtain ⟨x',r',h'⟩:=Classical.choose_spec hex
  have : x' = x:=r'.inj r
  subst this
  rw [Dat.inj h' h]
theorem any_eqF {H : Hp} {dx : D} : ∀ {ds : List D} {xs : List V} {its : List Value},Dats H ds xs→Vals xs its→its.any (eqF H dx) = ds.any fun d=>eqD d dx
  | [],xs,its,h,r=>by
    simp only [Dats] at h;subst h;cases r;rfl
  | d :: ds,xs,its,h,r=>by
    simp only [Dats] at h
    obtain ⟨x,xr,rfl,h1,h2⟩:=h
    cases r with
    | cons r1 r2=>rw [List.any_cons,List.any_cons,eqF_eq r1 h1,any_eqF h2 r2]
theorem mem_dats {H : Hp} : ∀ {ds : List D} {xs : List V} {its : List Value},Dats H ds xs→Vals xs its→∀ u∈its,∃ d x,d∈ds∧RelV x u∧Dat H d x
  | [],xs,its,h,r,u,hu=>by simp only [Dats] at h;subst h;cases r;cases hu
  | d :: ds,xs,its,h,r,u,hu=>by
    simp only [Dats] at h
    obtain ⟨x,xr,rfl,h1,h2⟩:=h
    cases r with
    | cons r1 r2 =>
      rcases List.mem_cons.mp hu with rfl | hu
      · exact ⟨d,x,List.mem_cons_self ..,r1,h1⟩
      · obtain ⟨d',x',m,q⟩:=mem_dats h2 r2 u hu
        exact ⟨d',x',List.mem_cons_of_mem _ m,q⟩
theorem dep_mem : ∀ {ds : List D} {d : D},d∈ds→dep d≤deps ds
  | e :: ds,d,h=>by
    simp only [deps]
    rcases List.mem_cons.mp h with rfl | h
    · omega
    · have:=dep_mem h;omega
def inD (dx : D) (ds : List D) : Bool:=ds.any fun d=>eqD d dx
def rInD (neg : Bool) : R2:=fun x y H Q=>∃ dx ds,Dat H dx x∧(Dat H (.lst ds) y∨Dat H (.tup ds) y)∧deps ds≤90∧Q (.bl (if neg then !inD dx ds else inD dx ds)) H
section
variable {X : Cx}
theorem op_inD (hu : X.A.units + 100 < cLine) : OpR X (compareOp .In) (rInD false):=by
  intro pins s σ H x y v u Q I rx ry h
  obtain ⟨dx,ds,hx,hy,hdp,q⟩:=h
  have he : ∀ {xs : List V} {its : List Value},Dats H ds xs→Vals xs its→∀ w,w∈its.toArray→SeqAt.EqAt X.A.in1 s w v (eqF H dx w):=fun hd r w hw=>by
    obtain ⟨d,z,hm,rz,hz⟩:=mem_dats hd r w (by simpa using hw)
    rw [eqF_eq rz hz]
    exact (eqAt_D I 90 d dx z x w v X.A.in1 (Nat.le_trans (dep_mem hm) hdp) (by show X.A.units + 1 + 90 < cLine;omega) hz hx rz rx).2.1
  rcases hy with hy | hy
  · simp only [Dat] at hy
    obtain ⟨a,xs,rfl,ha,hd⟩:=hy
    cases ry
    obtain ⟨its,r,pl,_⟩:=I.list (SqL.of ha)
    refine SeqAt.in_listAt (eqF H dx) pl.isList (he hd r) ⟨.bl _,H,I,rfl,?_⟩
    rw [show its.toArray.any (eqF H dx) = its.any (eqF H dx) by simp,any_eqF hd r]
    exact q
  · simp only [Dat] at hy
    obtain ⟨a,xs,rfl,ha,hd⟩:=hy
    cases ry
    obtain ⟨its,r,pl,_⟩:=I.tuple (SqT.of ha)
    refine SeqAt.in_tupleAt (eqF H dx) pl (he hd r) ⟨.bl _,H,I,rfl,?_⟩
    rw [show its.toArray.any (eqF H dx) = its.any (eqF H dx) by simp,any_eqF hd r]
    exact q
theorem op_notInD (hu : X.A.units + 100 < cLine) : OpR X (compareOp .NotIn) (rInD true):=by
  intro pins s σ H x y v u Q I rx ry h
  obtain ⟨dx,ds,hx,hy,hdp,q⟩:=h
  have he : ∀ {xs : List V} {its : List Value},Dats H ds xs→Vals xs its→∀ w,w∈its.toArray→SeqAt.EqAt X.A.in1 s w v (eqF H dx w):=fun hd r w hw=>by
    obtain ⟨d,z,hm,rz,hz⟩:=mem_dats hd r w (by simpa using hw)
    rw [eqF_eq rz hz]
    exact (eqAt_D I 90 d dx z x w v X.A.in1 (Nat.le_trans (dep_mem hm) hdp) (by show X.A.units + 1 + 90 < cLine;omega) hz hx rz rx).2.1
  rcases hy with hy | hy
  · simp only [Dat] at hy
    obtain ⟨a,xs,rfl,ha,hd⟩:=hy
    cases ry
    obtain ⟨its,r,pl,_⟩:=I.list (SqL.of ha)
    refine SeqAt.notIn_listAt (eqF H dx) pl.isList (he hd r) ⟨.bl _,H,I,rfl,?_⟩
    rw [show its.toArray.any (eqF H dx) = its.any (eqF H dx) by simp,any_eqF hd r]
    exact q
  · simp only [Dat] at hy
    obtain ⟨a,xs,rfl,ha,hd⟩:=hy
    cases ry
    obtain ⟨its,r,pl,_⟩:=I.tuple (SqT.of ha)
    refine SeqAt.notIn_tupleAt (eqF H dx) pl (he hd r) ⟨.bl _,H,I,rfl,?_⟩
    rw [show its.toArray.any (eqF H dx) = its.any (eqF H dx) by simp,any_eqF hd r]
    exact q
end
end L2
namespace L2
open PySem PySem.Spec PyProof.Rows
mutual
def pyD : D→PyData
  | .non=>.none
  | .bl b=>.bool b
  | .int i=>.int i
  | .str x=>.str x
  | .tup ds=>.tuple (pyDs ds)
  | .lst ds=>.list (pyDs ds)
def pyDs : List D→List PyData
  | []=>[]
  | d :: ds=>pyD d :: pyDs ds
end
def repD (d : D) : Str:=(pyD d).shown
section
variable {X : Cx} {pins : List (Addr × Obj)} {σ : St} {H : Hp} {s : Shared}
mutual
theorem reads_of (I : Inv X pins σ H s) : ∀ {d : D} {v : V} {u : Value},Dat H d v→RelV v u→∃ as,Reads s.heap u (pyD d) as
  | .non,v,u,h,r=>by
    simp only [Dat] at h;subst h;cases r
    exact ⟨_,.none⟩
  | .bl b,v,u,h,r=>by
    simp only [Dat] at h;subst h;cases r
    exact ⟨_,.bool b⟩
  | .int i,v,u,h,r=>by
    simp only [Dat] at h;subst h
    obtain ⟨t,rfl⟩:=r
    exact ⟨_,.int i t⟩
  | .str x,v,u,h,r=>by
    simp only [Dat] at h;subst h
    obtain ⟨t,rfl⟩:=r
    exact ⟨_,.str x t⟩
  | .tup ds,v,u,h,r=>by
    simp only [Dat] at h
    obtain ⟨a,xs,rfl,ha,hd⟩:=h
    cases r
    obtain ⟨its,rv,⟨o,h1,h2,n,h3⟩,_⟩:=I.tuple (SqT.of ha)
    obtain ⟨as,hr⟩:=readsAll_of I hd rv
    exact ⟨_,.tuple h1 h2 h3 (by simpa using hr)⟩
  | .lst ds,v,u,h,r=>by
    simp only [Dat] at h
    obtain ⟨a,xs,rfl,ha,hd⟩:=h
    cases r
    obtain ⟨its,rv,⟨o,n,h1,h2,h3,h4⟩,_⟩:=I.list (SqL.of ha)
    obtain ⟨as,hr⟩:=readsAll_of I hd rv
    exact ⟨_,.list h1 h2 h4 (by simpa using hr)⟩
theorem readsAll_of (I : Inv X pins σ H s) : ∀ {ds : List D} {xs : List V} {us : List Value},Dats H ds xs→Vals xs us→∃ as,ReadsAll s.heap us (pyDs ds) as
  | [],xs,us,h,r=>by
    simp only [Dats] at h;subst h;cases r
    exact ⟨_,.nil⟩
  | d :: ds,xs,us,h,r=>by
    simp only [Dats] at h
    obtain ⟨x,xr,rfl,h1,h2⟩:=h
    cases r with
    | cons r1 r2 =>
      obtain ⟨as,a1⟩:=reads_of I h1 r1
      obtain ⟨bs,b1⟩:=readsAll_of I h2 r2
      exact ⟨_,.cons a1 b1⟩
end
end
mutual
def wt : D→Nat
  | .non=>4
  | .bl _=>5
  | .int i=>i.natAbs.log2 + 3
  | .str x=>(reprText x).length
  | .tup ds=>wts ds + 3
  | .lst ds=>wts ds + 2
def wts : List D→Nat
  | []=>0
  | d :: ds=>wt d + 2 + wts ds
end
mutual
def fit : D→Bool
  | .int i=>decide (i.natAbs.log2 < 1920)
  | .tup ds=>fits ds
  | .lst ds=>fits ds
  | _=>true
def fits : List D→Bool
  | []=>true
  | d :: ds=>fit d && fits ds
end
mutual
theorem fit_show : ∀ {d : D},fit d = true→(pyD d).showable = true
  | .non,h=>rfl
  | .bl b,h=>rfl
  | .int i,h=>h
  | .str x,h=>rfl
  | .tup ds,h=>fits_show (ds:=ds) (by simpa only [fit] using h)
  | .lst ds,h=>fits_show (ds:=ds) (by simpa only [fit] using h)
theorem fits_show : ∀ {ds : List D},fits ds = true→PyData.showableAll (pyDs ds) = true
  | [],h=>rfl
  | d :: ds,h=>by
    simp only [fits,Bool.and_eq_true] at h
    simp only [pyDs,PyData.showableAll,Bool.and_eq_true]
    exact ⟨fit_show h.1,fits_show h.2⟩
end
mutual
theorem no_dict : ∀ (d : D),(pyD d).hasDict = false
  | .non=>rfl
  | .bl b=>rfl
  | .int i=>rfl
  | .str x=>rfl
  | .tup ds=>no_dicts ds
  | .lst ds=>no_dicts ds
theorem no_dicts : ∀ (ds : List D),PyData.hasDictAll (pyDs ds) = false
  | []=>rfl
  | d :: ds=>by simp only [pyDs,PyData.hasDictAll,no_dict d,no_dicts ds,Bool.or_self]
end
mutual
theorem dep_py : ∀ (d : D),(pyD d).depth = dep d
  | .non=>by simp [pyD,PyData.depth,dep]
  | .bl b=>by simp [pyD,PyData.depth,dep]
  | .int i=>by simp [pyD,PyData.depth,dep]
  | .str x=>by simp [pyD,PyData.depth,dep]
  | .tup ds=>by simp only [pyD,PyData.depth,dep,deps_py ds]
  | .lst ds=>by simp only [pyD,PyData.depth,dep,deps_py ds]
theorem deps_py : ∀ (ds : List D),PyData.depthAll (pyDs ds) = deps ds
  | []=>by simp [pyDs,PyData.depthAll,deps]
  | d :: ds=>by simp only [pyDs,PyData.depthAll,deps,dep_py d,deps_py ds]
end
theorem textFrom_le : ∀ (ts : List Str) (k : Nat) (acc : Str),(textFrom k acc ts).length≤acc.length + (ts.map fun t=>t.length + 2).sum
  | [],k,acc=>by simp [textFrom]
  | t :: ts,k,acc=>by
    have ih:=textFrom_le ts (k + 1) (acc ++ (if k > 0 then ", " else "" : String) ++ t)
    have e : (acc ++ (if k > 0 then ", " else "" : String) ++ t).length≤acc.length + 2 + t.length:=by
      rw [strLen_append,strLen_append]
      have : (((if k > 0 then ", " else "" : String) : Str)).length≤2:=by split<;>decide
      omega
    simp only [textFrom,List.map_cons,List.sum_cons]
    omega
theorem joinS_le : ∀ ts : List Str,(Str.join ", " ts).length≤(ts.map fun t=>t.length + 2).sum
  | []=>by simp [Str.join];decide
  | [x]=>by
    show x.length≤_
    simp
  | x :: y :: r=>by
    have ih:=joinS_le (y :: r)
    show (x ++ ", " ++ Str.join ", " (y :: r)).length≤_
    rw [strLen_append,strLen_append]
    have e2 : ((", " : String) : Str).length = 2:=rfl
    simp only [List.map_cons,List.sum_cons] at ih ⊢
    omega
theorem int_len (i : Int) : ((toString i : String) : Str).length≤i.natAbs.log2 + 3:=by
  have h:=int_text_length_le (a:=i) (k:=i.natAbs.log2 + 1) (Nat.succ_pos _) (Nat.lt_succ_self _)
  rw [show ((toString i : String) : Str).length = (toString i).length from PySem.ofString_length _]
  omega
mutual
theorem wt_le : ∀ (d : D),(pyD d).shown.length≤wt d
  | .non=>by show (("None" : String) : Str).length≤4;decide
  | .bl b=>by cases b<;>(show (_ : Str).length≤5)<;>decide
  | .int i=>int_len i
  | .str x=>Nat.le_refl _
  | .tup ds=>by
    have h:=wts_le ds
    show (tupleText (PyData.shownAll (pyDs ds))).length≤wts ds + 3
    unfold tupleText
    rw [strLen_append,strLen_append]
    have h1:=joinS_le (PyData.shownAll (pyDs ds))
    have h2 : (("(" : String) : Str).length = 1:=rfl
    have h3 : (((if (PyData.shownAll (pyDs ds)).length == 1 then ",)" else ")" : String)) : Str).length≤2:=by split<;>decide
    omega
  | .lst ds=>by
    have h:=wts_le ds
    show (listText (PyData.shownAll (pyDs ds))).length≤wts ds + 2
    unfold listText
    rw [strLen_append]
    have h1:=textFrom_le (PyData.shownAll (pyDs ds)) 0 "["
    have h2 : (("[" : String) : Str).length = 1:=rfl
    have h3 : (("]" : String) : Str).length = 1:=rfl
    omega
theorem wts_le : ∀ (ds : List D),((PyData.shownAll (pyDs ds)).map fun t=>t.length + 2).sum≤wts ds
  | []=>by simp [pyDs,PyData.shownAll,wts]
  | d :: ds=>by
    have h1:=wt_le d
    have h2:=wts_le ds
    simp only [pyDs,PyData.shownAll,List.map_cons,List.sum_cons,wts]
    omega
end
section
variable {X : Cx}
theorem call_reprD (hg : X.A.guards = some []) (hu : X.A.units + 100 < cLine) : CallR X (.builtin "repr") (fun xs H Q=>∃ (a : Addr) (d : D),xs = [.ref a]∧Dat H d (.ref a)∧dep d≤90∧fit d = true∧wt d≤1000000∧Q (.str (repD d)) H):=by
  intro pins s σ H xs us Q I r h
  obtain ⟨a,d,rfl,hd,hdp,hf,hw,q⟩:=h
  obtain ⟨u,rfl,rx⟩:=vals1 r
  have ru:=rx
  cases rx
  obtain ⟨as,hr⟩:=reads_of I hd ru
  refine repr_of_reads' hr (fit_show hf) (fun z=>by rw [no_dict] at z;cases z) hg (by rw [dep_py];omega) (fun _ _ e=>e) (fun h' t tk hk=>?_) (Nat.le_trans (wt_le d) (Nat.le_trans hw (by decide)))
  exact ⟨.str (repD d),H,I.kept (t':=tk) hk,⟨t,rfl⟩,q⟩
end
section
variable {prog : Program} {w : World} {A : Around} {E : Value→Shared→Prop}
theorem drawL {it a : Addr} {vs : Array Value} (ha : a≠it) (n : Nat) : ∀ (i : Nat) (s : Shared) (Q : List Value→Shared→Prop),s.heap.IsListIter it a i→s.heap.IsList a vs→i + n≤vs.size →
    (∀ h',h'.IsListIter it a (i + n)→Heap.SameBut it s.heap h'→Q ((vs.toList.drop i).take n) { s with heap:=h' })→wpAny (model prog w) A (draw (.ref it) n) Q E s:=by
  induction n with
  | zero =>
    intro i s Q st ls le q
    refine wpAny_pure ?_
    have:=q s.heap st (Heap.SameBut.refl ..)
    simpa using this
  | succ n ih =>
    intro i s Q st ls le q
    have lt : i < vs.size:=by omega
    refine wpAny_bind (m:=pyNext (.ref it)) (wpAny_pyNext_list_item st ls (x:=vs[i]) (by simp [lt]) fun h1 st1 sb1=>?_)
    refine wpAny_bind (wpAny_holding (ih (i + 1) _ _ st1 (ls.extBut sb1.extBut ha) (by omega) fun h2 st2 sb2=>wpAny_pure ?_))
    have e1 : vs.toList.drop i = vs[i] :: vs.toList.drop (i + 1):=by simp [List.drop_eq_getElem_cons,lt]
    have q2:=q h2 (by rw [← Nat.add_assoc,Nat.add_right_comm];exact st2) (sb1.trans sb2)
    rwa [e1,List.take_succ_cons] at q2
theorem unpackL {a : Addr} {vs : Array Value} {s : Shared} {Q : List Value→Shared→Prop} (hh : A.handled = none) (ls : s.heap.IsList a vs)
    (q : ∀ h',Heap.ExtBut s.heap.objs.size s.heap h'→Q vs.toList { s with heap:=h' }) : wpAny (model prog w) A (unpackItems (.ref a) vs.size none) Q E s:=by
  have ne : a≠s.heap.objs.size:=by
    obtain ⟨o,ho,_⟩:=ls
    exact Nat.ne_of_lt (Heap.lt_size ho)
  unfold unpackItems notIterableAtAll
  refine wpAny_bind (wpAny_bind (wpAny_specialOf ls.typeIs PySem.F.slot_list_iter.lookup (wpAny_pure ?_)))
  simp only [Option.isNone_some,Bool.false_eq_true,if_false]
  refine wpAny_bind (wpAny_holding (wpAny_pyIter_list ls (wpAny_bind (wpAny_holding (drawL ne vs.size 0 _ _ ⟨_,Heap.get?_push_size _ rfl,rfl,rfl⟩ (ls.push _) (by omega) fun h1 st1 sb1=>?_)))))
  have eall : List.take vs.size (List.drop 0 vs.toList) = vs.toList:=by rw [List.drop_zero,List.take_of_length_le (by simp)]
  rw [eall,if_neg (by simp)]
  refine wpAny_bind (wpAny_holding (wpAny_pyNext_list_end hh st1 ((ls.push _).extBut sb1.extBut ne) (by simp) fun h2 eb=>?_))
  simp only [Option.isSome_none,Bool.false_eq_true,if_false]
  exact wpAny_pure (q h2 fun b o hb e=>eb b o hb (sb1.extBut b o hb (Heap.get?_push_of_some _ e)))
end
section
variable {X : Cx} {pos : Pos}
def gLst (K : PySem.W.Frag) (n : Nat) (t : TGs) : TG:=fun v σ H Q=>∃ a xs,v = .ref a∧SqL K H a xs∧xs.length = n∧t xs σ H Q
theorem pg_lst {es : List Expr} {k : Nat} {t : TGs} {n : Nat} (hc : X.calm = true) (h : PGs X es t)
    (hn : (assignEach es X.env).length = n:=by rfl) (hst : (assignEach es X.env).findIdx? (·.1) = none:=by rfl) : PG X (.Tuple es k pos) (gLst X.K n t):=by
  intro pins s σ H v u Q I r hw
  obtain ⟨a,xs,e1,hq,hl,hw⟩:=hw
  subst e1
  cases r
  obtain ⟨its,rv,ht,hz⟩:=I.list hq
  have hlen : (assignEach es X.env).length = its.toArray.size:=by simp [hn,← hl,rv.length]
  rw [assign_Tuple]
  refine wpAny_bind (wpAny_standAt ?_)
  unfold unpack
  rw [hlen,hst]
  refine wpAny_bind (wpAny_holding (unpackL (I.ok.hd hc) ht.isList fun h' hx=>?_))
  have I1 : Inv X pins σ H { s with heap:=h' }:=I.kept (t':=s.toks) fun b o e=>hx b o (Nat.ne_of_lt (Heap.lt_size e)) e
  exact h pins _ σ H xs _ Q I1 (by simpa using rv) hw
end
section
variable {X : Cx}
theorem pa_consT {es fs x1 pos te t} (ha : PE X (.Tuple fs x1 pos) te) (hr : PA X es t) : PA X (.Tuple fs x1 pos :: es) (tCons te t):=pa_cons ha hr (by rfl)
theorem pa_consL {es fs pos te t} (ha : PE X (.List fs pos) te) (hr : PA X es t) : PA X (.List fs pos :: es) (tCons te t):=pa_cons ha hr (by rfl)
theorem pa_consC {es c j pos te t} (ha : PE X (.Constant c j pos) te) (hr : PA X es t) : PA X (.Constant c j pos :: es) (tCons te t):=pa_cons ha hr (by rfl)
end
end L2
namespace L2
open PySem PySem.Spec PySem.Calls PyProof.Rows
def Frz (H H' : Hp) : Prop:=∀ b o u,H b = some (.frz o u)→H' b = some (.frz o u)
def hdIn (K : PySem.W.Frag) (c P : Addr) : Bool:=match K.lookup c with
  | some o=>(o.cls == .type "code") && c != P && (match o.data with
    | .fields vs=>(vs[11]? == some (.ref P)) && (match vs.getD 18 .none,vs.getD 7 .none,vs.getD 9 .none,vs.getD 10 .none with
      | .str _ _,.int _ _,.bool _,.int _ _=>true
      | _,_,_,_=>false)
    | _=>false)
  | none=>false
section
variable {P : Program} {w : World} {H H' : Hp} {h h' : Heap} {p : Addr} {ps : Array Value}
end
section
variable {X : Cx} {args : Arguments} {body : Expr} {scope : Scope} {pos : Pos} {x : Str} {c p : Addr} {clos : List (Str × Addr)}
end
structure Clo (P : Program) (w : World) (K : PySem.W.Frag) (mg : Str→Option Value) (base : Heap) (H₀ : Hp) (k : Nat) (f : Addr) (n : Nat) (sp : Sp) : Prop where
  fn : (∃ (oc : Value) (od : Option Addr) (fd : FuncData) (sl : Array (Option Value)) (u : HO),H₀ f = some (.frz ⟨oc,od,.func fd,sl⟩ u))∨∃ (oc : Value) (od : Option Addr) (fd : FuncData) (sl : Array (Option Value)),K.lookup f = some ⟨oc,od,.func fd,sl⟩
  len : ∀ vs H Q E,sp vs H Q E→vs.length = n
  run : ∀ (A : Around) (outer : List Env) (s : Shared) (H : Hp) (us : List Value) (vs : List V) (Q : VK) (E : XK),Room k A→Env0 P w K mg base A outer s H→Frz H₀ H→Vals vs us→sp vs H Q E →
    codeAny (model P w) A (.call (.ref f) ⟨us,[]⟩) (CR CX0 outer P w H s Q E) s
section
variable {X : Cx} {k n i : Nat} {x : Str} {p pos : Pos} {e : Expr} {es : List Expr} {t : TA}
end
section
variable {X : Cx} {k : Nat} {f : Addr} {fd : FuncData} {ps : List Str} {x : Str} {p pos : Pos} {e : Expr} {es : List Expr} {t : TA} {spf : Heap→Sp}
end
structure LamScope (ps cs : List Str) (sc : Scope) : Prop where
  kind : sc.kind = .function
  co : sc.isCoroutine = false
  gen : sc.isGenerator = false
  nd : (ps ++ cs).Nodup
  par : ∀ x∈ps,sc.names.lookup x = some .local
  free : ∀ x∈cs,sc.names.lookup x = some .free
  has : ∀ y∈sc.names,y.2≠.cell∧(y.2 = .free→y.1∈cs)
structure FunT (K : PySem.W.Frag) (x qual : Str) (st : Stmt) (f : Addr) (fd : FuncData) (c p : Addr) : Prop where
  ex : ∃ (oc : Value) (od : Option Addr) (kV doc pm : Value) (an : Option Addr) (ct : Value) (osl : Array (Option Value)),
    fd = PySem.W.fnOf x qual (defArgs st) (defBody st) (defScope st) .none kV doc pm an (.ref c) ct∧K.lookup f = some ⟨oc,od,.func fd,osl⟩∧PySem.W.codeIn K (.ref c) qual = true
  tab : (x,c,p)∈tabL K
  hd : hdIn K c p = true
def ndB : List Nat→Bool
  | []=>true
  | a :: r=>!(r.contains a) && ndB r
theorem find_nd {α : Type} (f : α→Nat) : ∀ {l : List α} {q : α},ndB (l.map f) = true→q∈l→l.find? (fun t=>f t == f q) = some q
  | [],_,_,m=>nomatch m
  | a :: r,q,h,m=>by
    rw [List.map_cons,ndB,Bool.and_eq_true] at h
    obtain ⟨h1,h2⟩:=h
    rcases List.mem_cons.mp m with e | m
    · subst e
      rw [List.find?_cons_of_pos (by simp)]
    · have ne : (f a == f q) = false:=by
        cases z : f a == f q with
        | false=>rfl
        | true =>
          have z' : f a = f q:=eq_of_beq z
          have : (r.map f).contains (f a) = true:=by
            rw [z']
            simpa using ⟨q,m,rfl⟩
          rw [this] at h1
          cases h1
      rw [List.find?_cons_of_neg (by rw [ne];simp)]
      exact find_nd f h2 m
def tabH (K : PySem.W.Frag) (b : Addr) : Option HO:=((tabL K).find? fun t=>t.2.2 == b).map fun t=>HO.tbl #[.str (t.1 ++ ".<locals>." ++ "<lambda>") 0]
theorem tabH_mem {K : PySem.W.Frag} {b : Addr} {o : HO} (e : tabH K b = some o) : ∃ t∈tabL K,t.2.2 = b∧o = HO.tbl #[.str (t.1 ++ ".<locals>." ++ "<lambda>") 0]:=by
  unfold tabH at e
  cases q : (tabL K).find? (fun t=>t.2.2 == b) with
  | none=>rw [q] at e;cases e
  | some t =>
    rw [q] at e
    cases e
    have:=List.find?_some q
    exact ⟨t,List.mem_of_find?_eq_some q,eq_of_beq this,rfl⟩
def tabsOk (K : PySem.W.Frag) (names : List Str) : Bool:=PySem.W.noTabs K && ndB ((tabL K).map fun t=>t.2.2) && (tabL K).all fun t=>names.contains t.1
theorem tabL_in {K : PySem.W.Frag} {t : Str × Addr × Addr} (h : t∈tabL K) : PySem.W.tabIn K t.1 = some t.2:=by
  unfold tabL at h
  split at h
  · obtain ⟨e,_,q⟩:=List.mem_filterMap.mp h
    split at q
    · rename_i x tk hx
      cases z : PySem.W.tabIn K x with
      | none=>rw [z] at q;cases q
      | some r=>rw [z] at q;cases q;exact z
    · cases q
  · cases h
theorem law_callT {P : Program} {w : World} {K : PySem.W.Frag} {mg mb : Str→Option Value} {CX : CXT} {k : Nat} {fa a : Addr} {fd : FuncData} {x : Str} {sp : Sp} {s₁ : Shared} {vs : List Value} {ns : List Int}
    (KX : K.In s₁.heap) (hns : s₁.heap.Ns mainGlobals mg) (hb : s₁.heap.Ns builtinsNs mb) (hbb : ∀ x : Str,x≠"__name__"→mb x = bootBuiltins x) (hlim : s₁.heap.NoLimit) (hg : s₁.gens = #[])
    (hbm : ∃ bm ob,mg "__builtins__" = some (.ref bm)∧bm≠builtinsNs∧s₁.heap.get? bm = some ob∧ob.cls = .type "module"∧ob.dict = some builtinsNs∧ob.data = .plain)
    (hT : ∀ t∈tabL K,PySem.W.CodeHd s₁.heap t.2.1 t.2.2∧s₁.heap.get? t.2.2 = some (PySem.W.tabObj #[])) (nt : PySem.W.noTabs K = true) (nd : ndB ((tabL K).map fun t=>t.2.2) = true)
    (ha : s₁.heap.get? a = some { cls:=.type "list",data:=.seq vs.toArray }) (hi : IntsAre vs ns) (hl : ns.length≤sizeLine) (hr : Room k callerA)
    (F : ∀ base : Heap,FnOk P w K mg base CX k fa fd [x] sp) (hbind : ∀ (s : Shared) (u : Value),BindsTo s fd ⟨[u],[]⟩ [(x,u)])
    (hsp : ∀ H : Hp,SqL K H a (ns.map V.int)→sp [.ref a] H (fun v _=>v = .bl true) fun _ _ _=>False)
    (hCX : ∀ H e s',CX [] H s₁ (fun _ _ _=>False) e s'→False) :
    codeAny (model P w) callerA (.call (.ref fa) ⟨[.ref a],[]⟩) (fun r s'=>r = .ok (.ret (.bool true))∧OldK s₁.heap s'.heap∧s'.os = s₁.os∧AllBare s'.gens) s₁:=by
  have rv:=vals_ints hi
  have lenV:=hi.length
  have tabNot : ∀ b o,K.lookup b = some o→tabH K b = none:=fun b o e=>by
    cases q : tabH K b with
    | none=>rfl
    | some u =>
      obtain ⟨t,ht,rfl,_⟩:=tabH_mem q
      have e1:=(hT t ht).2
      rw [KX _ _ e] at e1
      cases e1
      have h2:=List.all_eq_true.mp nt _ (PySem.W.mem_of_lookupK e)
      exact absurd (show false = true from h2) Bool.false_ne_true
  have tabA : tabH K a = none:=by
    cases q : tabH K a with
    | none=>rfl
    | some u =>
      obtain ⟨t,ht,e,_⟩:=tabH_mem q
      have e1:=(hT t ht).2
      rw [e,ha] at e1
      cases e1
  have core : ∀ H : Hp,(∀ b,b≠a→H b = tabH K b)→(H a = none∨(K.lookup a = none∧H a = some (.frz { cls:=.type "list",data:=.seq vs.toArray } (.lst (ns.map V.int)))))→SqL K H a (ns.map V.int) →
      codeAny (model P w) callerA (.call (.ref fa) ⟨[.ref a],[]⟩) (fun r s'=>r = .ok (.ret (.bool true))∧OldK s₁.heap s'.heap∧s'.os = s₁.os∧AllBare s'.gens) s₁:=by
    intro H hH hA hS
    have what : ∀ b u,H b = some u→(b = a∧K.lookup a = none∧u = .frz { cls:=.type "list",data:=.seq vs.toArray } (.lst (ns.map V.int)))∨∃ t∈tabL K,t.2.2 = b∧u = HO.tbl #[.str (t.1 ++ ".<locals>." ++ "<lambda>") 0]:=fun b u e=>by
      by_cases hb : b = a
      · subst hb
        rcases hA with z | ⟨z1,z2⟩
        · rw [z] at e;cases e
        · rw [z2] at e;cases e
          exact .inl ⟨rfl,z1,rfl⟩
      · rw [hH b hb] at e
        exact .inr (tabH_mem e)
    have hok : HOk P w H s₁.heap:=fun b u e=>by
      rcases what b u e with ⟨rfl,_,rfl⟩ | ⟨t,ht,rfl,rfl⟩
      · exact ⟨ha,by rw [List.length_map];exact hl,vs,_,rv,ha⟩
      · exact ⟨#[],(hT t ht).2,trivial,fun pos cv q=>by cases q⟩
    have tt : TabT K H:=fun t ht=>by
      refine ⟨#[.str (t.1 ++ ".<locals>." ++ "<lambda>") 0],?_,rfl⟩
      have ne : t.2.2≠a:=fun z=>by
        have e1:=(hT t ht).2
        rw [z,ha] at e1
        cases e1
      rw [hH _ ne]
      unfold tabH
      rw [find_nd (fun t : Str × Addr × Addr=>t.2.2) nd ht]
      rfl
    have base_of : ∀ {b : Addr} {o : Obj},s₁.heap.get? b = some o→H b = none→(hidT s₁.heap H).get? b = some o:=fun e n=>hidT_get e n
    have freeB : ∀ {b : Addr} {o : Obj},s₁.heap.get? b = some o→o.cls≠.none→o.cls≠.type "list"→H b = none:=fun {b o} e c1 c2=>by
      cases q : H b with
      | none=>rfl
      | some u =>
        rcases what b u q with ⟨rfl,_,_⟩ | ⟨t,ht,rfl,_⟩
        · rw [ha] at e;cases e;exact absurd rfl c2
        · rw [(hT t ht).2] at e;cases e;exact absurd rfl c1
    have noD : ∀ {b : Addr} {o : Obj} {es : Array DictEntry} {ep : Nat},s₁.heap.get? b = some o→o.data = .dict es ep→H b = none:=fun {b o es ep} e d=>by
      cases q : H b with
      | none=>rfl
      | some u =>
        rcases what b u q with ⟨rfl,_,_⟩ | ⟨t,ht,rfl,_⟩
        · rw [ha] at e;cases e;cases d
        · rw [(hT t ht).2] at e;cases e;cases d
    have nsK : ∀ {b : Addr} {m : Str→Option Value},s₁.heap.Ns b m→(hidT s₁.heap H).Ns b m:=fun {b m} ⟨o,es,ep,e,d,r⟩=>⟨o,es,ep,base_of e (noD e d),d,r⟩
    have hKb : K.In (hidT s₁.heap H):=fun b o e=>base_of (KX b o e) (by
      cases q : H b with
      | none=>rfl
      | some u =>
        by_cases hb : b = a
        · subst hb
          rcases hA with z | ⟨z1,_⟩
          · rw [z] at q;cases q
          · rw [e] at z1;cases z1
        · rw [hH b hb,tabNot b o e] at q;cases q)
    have hM : Mod K mg (hidT s₁.heap H):=⟨hKb,nsK hns,⟨mb,nsK hb,hbb⟩,let ⟨mc,h1,h2⟩:=hlim;⟨mc,nsK h1,h2⟩,
      let ⟨bm,ob,b1,b2,b3,b4,b5,b6⟩:=hbm;⟨bm,ob,b1,b2,base_of b3 (freeB b3 (by rw [b4];nofun) (by rw [b4];decide)),b4,b5,b6⟩⟩
    have e0 : Env0 P w K mg (hidT s₁.heap H) callerA [] s₁ H:=⟨rfl,hM,fun b o e=>of_hidT e,Nat.le_of_eq (hidT_size _ _),trivial,fun b hb=>absurd (show b∈([] : List Addr) from hb) (by simp),tt,hok,.of_eq hg⟩
    refine codeAny_mono ((F _).run callerA [] s₁ H ⟨[.ref a],[]⟩ [.ref a] [.ref a] _ _ hr e0 (hbind s₁ (.ref a)) (.cons rfl .nil) (hsp H hS)) fun r s' h=>?_
    cases r with
    | error e=>exact (hCX H e s' h).elim
    | ok fl =>
      cases fl with
      | next=>exact False.elim h
      | brk=>exact False.elim h
      | cont=>exact False.elim h
      | ret u =>
        obtain ⟨v,H',os,bare,un,hok',r',q⟩:=h
        have q' : v = .bl true:=q
        subst q'
        obtain rfl : u = Value.bool true:=r'
        refine ⟨rfl,⟨fun b o e=>?_,fun b o e=>un.there b o e (by simp)⟩,os,bare⟩
        cases q : H b with
        | none=>exact .inl (un.keep b o e q (by intro z;exact absurd (show b∈([] : List Addr) from z) (by simp)) (by simp))
        | some u =>
          rcases what b u q with ⟨rfl,_,rfl⟩ | ⟨t,ht,rfl,rfl⟩
          · have z2:=un.frzs _ _ _ q
            obtain ⟨e1,_⟩:=hok _ _ q
            obtain ⟨e2,_⟩:=hok' _ _ z2
            rw [e] at e1;cases e1
            exact .inl e2
          · obtain ⟨more,z2⟩:=un.tbls _ _ q
            obtain ⟨qs,e2,_⟩:=hok' _ _ z2
            have e1:=(hT t ht).2
            rw [e] at e1
            obtain rfl:=Option.some.inj e1
            exact .inr (.inl ⟨((hT t ht).1.tab (hT t ht).2).isCodeTable,rfl,#[],qs,rfl,by rw [Array.empty_append];exact e2⟩)
  cases hk : K.lookup a with
  | some o =>
    have e:=KX a o hk
    rw [ha] at e
    cases e
    exact core (fun b=>tabH K b) (fun _ _=>rfl) (.inl tabA) (.inr ⟨_,vs.toArray,_,hk,rfl,rfl,rfl,by rw [List.size_toArray,lenV];exact hl,by simpa using rv⟩)
  | none =>
    refine core (fun b=>if b = a then some (.frz { cls:=.type "list",data:=.seq vs.toArray } (.lst (ns.map V.int))) else tabH K b) (fun b hb=>if_neg hb) (.inr ⟨hk,if_pos rfl⟩) (.inl (.inr ⟨_,if_pos rfl⟩))
theorem walk_ofT {l : PySem.W.OpenLaw} {n k : Nat} {q : Program} {loose : List Str} {XP : (Str→Option Value)→Heap→Prop} {YP : World→Heap→Prop} {d : DefRec} {K : Params→PySem.W.Frag} {CX : CXT} {sp : PySem.W.Frag→Sp} {x : Str}
    (hn : l.most = some n) (hn2 : n≤sizeLine) (hdf : d.params.defaults = []) (hr : Room k callerA)
    (hY : ∀ (w : World) (h : Heap),YP w h→(K w.params).In h)
    (tabs : ∀ w : World,tabsOk (K w.params) ((recsOf q).map (·.name)) = true)
    (F : ∀ (w : World) (mg : Str→Option Value) (fa : Addr) (h : Heap),(K w.params).In h→h.Ns mainGlobals mg→mg d.name = some (.ref fa) →
      ∃ fd : FuncData,(∀ (s : Shared) (u : Value),BindsTo s fd ⟨[u],[]⟩ [(x,u)])∧∀ base : Heap,FnOk l.prog w (K w.params) mg base CX k fa fd [x] (sp (K w.params)))
    (hsp : ∀ (K : PySem.W.Frag) (H : Hp) (a : Addr) (ns : List Int),ns.length≤n→Only H→SqL K H a (ns.map V.int)→sp K [.ref a] H (fun v _=>v = .bl true) fun _ _ _=>False)
    (hCX : ∀ (H : Hp) (s : Shared) (e : Value) (s' : Shared),CX [] H s (fun _ _ _=>False) e s'→False) :
    PySem.W.WalkO q loose XP YP l.row.toRowW d [] (fun f vs=>PySem.call f vs):=by
  refine Att.attach_call hn hdf fun w s₀ s₁ mg mb fa o pm cd doc a vs ns G Y ho hd hcd hmg hobj hints hlen hg=>?_
  have KX:=hY w _ Y
  have tb:=tabs w
  unfold tabsOk at tb
  rw [Bool.and_eq_true,Bool.and_eq_true] at tb
  obtain ⟨⟨t1,t2⟩,t3⟩:=tb
  obtain ⟨fd,hb,hF⟩:=F w mg fa _ KX G.T.g hmg
  refine law_callT KX G.T.g G.T.b G.T.builtins G.T.nolimit hg G.T.bmain (fun t ht=>?_) t1 t2 hobj hints (Nat.le_trans hlen hn2) hr hF hb (fun H hS=>hsp _ H a ns hlen trivial hS) fun H e s'=>hCX H s₁ e s'
  have hc:=List.all_eq_true.mp t3 t ht
  have hm : t.1∈(recsOf q).map (·.name):=by simpa using hc
  obtain ⟨r,hr1,hr2⟩:=List.mem_map.mp hm
  cases z : (recsOf q).find? (fun e=>e.name == t.1) with
  | none =>
    have:=List.find?_eq_none.mp z r hr1
    rw [hr2] at this
    simp at this
  | some d'=>exact PySem.W.tab_of G.T KX z (tabL_in ht)
end L2
namespace L2
open PySem PySem.Spec PySem.Calls PyProof.Rows
open AutoSeq1 (wpAny_loadPart')
section
variable {prog : Program} {w : World} {A : Around} {E : Value→Shared→Prop} {S : Shared}
set_option maxHeartbeats 2000000 in
end
end L2
namespace L2
open PySem PySem.Spec PySem.Calls PyProof.Rows
section
variable {X : Cx}
end
section
variable {X : Cx}
end
structure Src (prog : Program) (w : World) (A : Around) (j q : Addr) (its : Array Value) (It1 : Nat→Heap→Prop) (Sq1 : Heap→Prop) : Prop where
  item : ∀ (n : Nat) (v : Value) (S : Shared) (Q : Value→Shared→Prop) (E : Value→Shared→Prop),It1 n S.heap→Sq1 S.heap→its[n]? = some v→(∀ h1,It1 (n + 1) h1→Heap.SameBut j S.heap h1→Q v { S with heap:=h1 })→wpAny (model prog w) A (Builtin.SmallTypes.nextOf (.ref j)) Q E S
  stop : ∀ (n : Nat) (S : Shared) (Q : Value→Shared→Prop) (E : Value→Shared→Prop),It1 n S.heap→Sq1 S.heap→its[n]? = none→(∀ h1 e,Heap.ExtBut j S.heap h1→(∃ o,h1.get? e = some o∧o.cls = .type "StopIteration")→E (.ref e) { S with heap:=h1 })→wpAny (model prog w) A (Builtin.SmallTypes.nextOf (.ref j)) Q E S
  mv : ∀ (n : Nat) (h h1 : Heap),It1 n h→(∀ o,h.get? j = some o→h1.get? j = some o)→It1 n h1
  sv : ∀ (h h1 : Heap),Sq1 h→(∀ o,h.get? q = some o→h1.get? q = some o)→Sq1 h1
  live : ∀ (n : Nat) (h : Heap),It1 n h→∃ o vs,h.get? j = some o∧o.data = .fields vs
section
variable {prog : Program} {w : World} {A : Around} {E : Value→Shared→Prop} {S : Shared} {z u o i j p q : Addr} {m n : Nat} {xs ys : Array Value} {x y a b : Value} {Ii Ij : Nat→Heap→Prop} {Sp Sq : Heap→Prop}
end
structure Kd (cls : String) (Sa : PySem.W.Frag→Hp→Addr→List V→Prop) (Iti : Heap→Addr→Addr→Nat→Prop) (Is : Heap→Addr→Array Value→Prop) : Prop where
  got : ∀ {X : Cx} {pins : List (Addr × Obj)} {σ : St} {H : Hp} {s : Shared} {a : Addr} {xs : List V},Inv X pins σ H s→Sa X.K H a xs→∃ its : List Value,Vals xs its∧Is s.heap a its.toArray
  inj : ∀ {X : Cx} {pins : List (Addr × Obj)} {σ : St} {H : Hp} {s : Shared} {a : Addr} {xs ys : List V},Inv X pins σ H s→Sa X.K H a xs→Sa X.K H a ys→xs = ys
  src : ∀ (prog : Program) (w : World) (A : Around) (j q : Addr) (its : Array Value),A.handled = none→Src prog w A j q its (fun n h=>Iti h j q n) (fun h=>Is h q its)
  seq : ∀ {h : Heap} {a : Addr} {its : Array Value},Is h a its→∃ o n,h.get? a = some o∧o.data = .seq its n
  ne : ∀ {X : Cx} {pins : List (Addr × Obj)} {σ : St} {H : Hp} {s : Shared} {a b : Addr} {xs : List V},Inv X pins σ H s→Sa X.K H a xs→FpOk X pins H b→a≠b
  itr : ∀ {prog : Program} {w : World} {A : Around} {E : Value→Shared→Prop} {S : Shared} {a : Addr} {its : Array Value} {Q : Value→Shared→Prop},Is S.heap a its→Q (.ref S.heap.objs.size) { S with heap:=S.heap.push { cls:=.type cls,data:=.fields #[.ref a,.int 0 0] } }→wpAny (model prog w) A (pyIter (.ref a)) Q E S
  sv : ∀ {h h1 : Heap} {a : Addr} {its : Array Value},Is h a its→(∀ ob,h.get? a = some ob→h1.get? a = some ob)→Is h1 a its
  new : ∀ {h : Heap} {j q : Addr},h.get? j = some { cls:=.type cls,data:=.fields #[.ref q,.int 0 0] }→Iti h j q 0
section
variable {c1 c2 : String} {Sa Sb : PySem.W.Frag→Hp→Addr→List V→Prop} {Ia Ib : Heap→Addr→Addr→Nat→Prop} {Isa Isb : Heap→Addr→Array Value→Prop}
end
section
variable {c1 c2 : String} {Sa Sb : PySem.W.Frag→Hp→Addr→List V→Prop} {Ia Ib : Heap→Addr→Addr→Nat→Prop} {Isa Isb : Heap→Addr→Array Value→Prop}
variable {X : Cx}
end
theorem pg_tupK {X : Cx} (K : PySem.W.Frag) (h : X.K = K) {ts : List Expr} {k n : Nat} {pos : Pos} {t : TGs} (hc : X.calm = true) (hts : PGs X ts t)
    (hn : (assignEach ts X.env).length = n:=by rfl) (hst : (assignEach ts X.env).findIdx? (·.1) = none:=by rfl) : PG X (.Tuple ts k pos) (gTup K n t):=h ▸ pg_tup hc hts hn hst
section
variable {K : PySem.W.Frag} {a b : Addr} {xs ys : List V} {g : TG} {tb : TS} {D : Ends} {σ : St} {H : Hp} {Sa Sb : Hp→Addr→List V→Prop} {acc : Addr} {tc : TT} {l : TL} {R : St→Hp→Prop} {J : It} {n : Nat}
end
def kEnd {α : Type} (c : Nat→Nat→Bool) : PySem.W.KasT α→α
  | .ret a=>a
  | .ask i j k=>kEnd c (k (c i j))
def KG {α : Type} (n : Nat) (R : α→Prop) : PySem.W.KasT α→Prop
  | .ret a=>R a
  | .ask i j k=>i < n∧j < n∧∀ b,KG n R (k b)
theorem KG.fin {α : Type} {n : Nat} {R : α→Prop} (c : Nat→Nat→Bool) : ∀ {t : PySem.W.KasT α},KG n R t→R (kEnd c t)
  | .ret _,h=>h
  | .ask i j k,h=>KG.fin c (t:=k (c i j)) (h.2.2 (c i j))
theorem KG.mono {α : Type} {n : Nat} {R S : α→Prop} (q : ∀ a,R a→S a) : ∀ {t : PySem.W.KasT α},KG n R t→KG n S t
  | .ret a,h=>q a h
  | .ask _ _ k,h=>⟨h.1,h.2.1,fun b=>KG.mono q (t:=k b) (h.2.2 b)⟩
theorem KG.bind {α β : Type} {n : Nat} {R : β→Prop} {f : α→PySem.W.KasT β} : ∀ {t : PySem.W.KasT α},KG n (fun a=>KG n R (f a)) t→KG n R (t.bind f)
  | .ret _,h=>h
  | .ask _ _ k,h=>⟨h.1,h.2.1,fun b=>KG.bind (t:=k b) (h.2.2 b)⟩
theorem KG.wp {α : Type} {n : Nat} {R : α→Prop} {c : Nat→Nat→Bool} {cmp : Nat→Nat→(Bool→Shared→Prop)→Shared→Prop} {Q : α→Shared→Prop} {s : Shared} (hc : ∀ i j C,i < n→j < n→C (c i j) s→cmp i j C s) :
    ∀ {t : PySem.W.KasT α},KG n R t→Q (kEnd c t) s→t.kasWp cmp Q s
  | .ret _,_,q=>q
  | .ask i j k,h,q=>hc i j _ h.1 h.2.1 (KG.wp hc (t:=k (c i j)) (h.2.2 (c i j)) q)
def Ord (n : Nat) (p : Array Nat) : Prop:=p.Perm (List.range n).toArray
theorem Ord.lt {n : Nat} {p : Array Nat} (hn : 0 < n) (h : Ord n p) (k : Nat) : p.getD k 0 < n:=by
  by_cases hk : k < p.size
  · have hm : p[k]∈p:=Array.getElem_mem hk
    have h2:=(h.mem_iff (a:=p[k])).mp hm
    simp at h2
    simp [Array.getD,hk]
    exact h2
  · simp [Array.getD,hk]
    exact hn
theorem Ord.rev {n i j : Nat} {p : Array Nat} (h : Ord n p) : Ord n (PySem.W.kas_rev p i j):=(mirror_perm p i j _).trans h
theorem Ord.bub {n i j : Nat} {p : Array Nat} (h : Ord n p) : Ord n (bubble p i j):=(bubble_perm p i j).trans h
section
variable {n : Nat} (hn : 0 < n)
include hn
theorem kg_asc {p : Array Nat} (hp : Ord n p) : ∀ f k,KG n (fun _=>True) (PySem.W.kas_asc p f k)
  | 0,_=>trivial
  | f + 1,k=>⟨hp.lt hn _,hp.lt hn _,fun b=>by
    cases b
    · exact kg_asc hp f (k + 1)
    · exact trivial⟩
theorem kg_desc : ∀ f (p : Array Nat) k q,Ord n p→KG n (fun r=>Ord n r.1) (PySem.W.kas_desc f p k q)
  | 0,_,_,_,hp=>hp
  | f + 1,p,k,q,hp=>by
    refine ⟨hp.lt hn _,hp.lt hn _,fun b=>?_⟩
    cases b
    · refine ⟨hp.lt hn _,hp.lt hn _,fun d=>?_⟩
      cases d
      · exact kg_desc f _ _ _ hp
      · exact hp
    · show KG n _ (if q > 0 then _ else _)
      split
      · exact kg_desc f _ _ _ hp.rev
      · exact kg_desc f _ _ _ hp
theorem kg_tail3 {p : Array Nat} (hp : Ord n p) (a b : Nat) : KG n (fun r=>Ord n r.2) (PySem.W.kas_tail3 a b p):=KG.bind ((kg_asc hn hp.rev _ _).mono fun _ _=>hp.rev)
theorem kg_descPart {p : Array Nat} (hp : Ord n p) (a b : Nat) : KG n (fun r=>Ord n r.2) (PySem.W.kas_descPart a b p):=KG.bind ((kg_desc hn _ _ _ _ hp).mono fun r hr=>by
  split
  · exact kg_tail3 hn hr.rev _ _
  · exact kg_tail3 hn hr _ _)
theorem kg_count {p : Array Nat} (hp : Ord n p) (a : Nat) : KG n (fun r=>Ord n r.2) (PySem.W.kas_count a p):=KG.bind ((kg_asc hn hp _ _).mono fun k _=>by
  split
  · exact hp
  · split
    · refine ⟨hp.lt hn _,hp.lt hn _,fun b=>?_⟩
      cases b
      · exact kg_descPart hn hp.rev _ _
      · exact hp
    · exact kg_descPart hn hp _ _)
theorem kg_place {p : Array Nat} (hp : Ord n p) (k : Nat) : ∀ f l r,KG n (fun _=>True) (PySem.W.kas_place p k f l r)
  | 0,_,_=>trivial
  | f + 1,l,r=>by
    show KG n _ (if l ≥ r then _ else _)
    split
    · exact trivial
    · refine ⟨hp.lt hn _,hp.lt hn _,fun b=>?_⟩
      cases b
      · exact kg_place hp k f _ _
      · exact kg_place hp k f _ _
theorem kg_bin : ∀ f (p : Array Nat) k,Ord n p→KG n (Ord n) (PySem.W.kas_bin f p k)
  | 0,_,_,hp=>hp
  | f + 1,_,k,hp=>KG.bind ((kg_place hn hp _ _ _ _).mono fun _ _=>kg_bin f _ _ hp.bub)
theorem kg_sort : KG n (Ord n) (PySem.W.kas_sort n):=KG.bind ((kg_count hn (.refl _) n).mono fun r hr=>by
  split
  · exact kg_bin hn _ _ _ hr
  · exact hr)
end
def Zs : List Value→List Int→Prop
  | [],[]=>True
  | v :: vs,n :: ns=>(∃ t,v = .int n t)∧Zs vs ns
  | _,_=>False
def ltF (e : Bool) : List Int→List Int→Bool
  | x :: xs,y :: ys=>if x = y then ltF e xs ys else decide (x < y)
  | _,_=>e
def ltZ (x y : List Int) : Bool:=ltF (decide (x.length < y.length)) x y
theorem Zs.len : ∀ {vs : List Value} {ns : List Int},Zs vs ns→vs.length = ns.length
  | [],[],_=>rfl
  | _ :: _,_ :: _,h=>congrArg (· + 1) (Zs.len h.2)
  | [],_ :: _,h=>h.elim
  | _ :: _,[],h=>h.elim
section
variable {prog : Program} {w : World} {A : Around} {E : Value→Shared→Prop} {s : Shared}
theorem one_int {b : Bool} {x y : Int} {t u : Tok} {Q : Bool→Shared→Prop} (h : Q (decide (x < y)) s) : wpAny (model prog w) A (oneLt' b (.int x t) (.int y u)) Q E s:=by
  cases b
  · exact PySem.W.kat_one _ _ (wpAny_lt_int h)
  · exact oneLt_int h
theorem lex_int {b e : Bool} {Q : Bool→Shared→Prop} : ∀ {xs ys : List Value} {ns ms : List Int} (i : Nat),Zs xs ns→Zs ys ms→Q (ltF e ns ms) s→PySem.W.KatLex prog w A b e Q (xs.zip ys) i s
  | [],_,[],_,_,_,_,q=>PySem.W.kat_nil (by simpa [ltF] using q)
  | _ :: _,[],_ :: _,[],_,_,_,q=>PySem.W.kat_nil (by simpa [ltF] using q)
  | x :: xs,y :: ys,n :: ns,m :: ms,i,hx,hy,q=>by
    obtain ⟨⟨t,rfl⟩,hx⟩:=hx
    obtain ⟨⟨u,rfl⟩,hy⟩:=hy
    refine PySem.W.kat_cons (wpAny_eqBool_int ?_)
    unfold ltF at q
    by_cases h : n = m
    · rw [if_pos h] at q
      rw [show (n == m) = true by simpa using h]
      exact PySem.W.kat_yes (lex_int (i + 1) hx hy q)
    · rw [if_neg h] at q
      rw [show (n == m) = false by simpa using h]
      exact PySem.W.kat_no (one_int q)
  | [],_,_ :: _,_,_,h,_,_=>h.elim
  | _ :: _,_,[],_,_,h,_,_=>h.elim
  | _ :: _,[],_,_ :: _,_,_,h,_=>h.elim
  | _ :: _,_ :: _,_,[],_,_,h,_=>h.elim
end
def TW (h : Heap) : List Value→List (List Int)→Prop
  | [],[]=>True
  | v :: vs,x :: xs=>(∃ a o its n,v = .ref a∧h.get? a = some o∧o.cls = .type "tuple"∧o.data = .seq its n∧Zs its.toList x)∧TW h vs xs
  | _,_=>False
theorem TW.len {h : Heap} : ∀ {vs : List Value} {W : List (List Int)},TW h vs W→vs.length = W.length
  | [],[],_=>rfl
  | _ :: _,_ :: _,q=>congrArg (· + 1) (TW.len q.2)
  | [],_ :: _,q=>q.elim
  | _ :: _,[],q=>q.elim
theorem TW.keep {h h' : Heap} (k : ∀ b o,h.get? b = some o→o.cls = .type "tuple"→h'.get? b = some o) : ∀ {vs : List Value} {W : List (List Int)},TW h vs W→TW h' vs W
  | [],[],_=>trivial
  | _ :: _,_ :: _,⟨⟨a,o,its,n,e1,e2,e3,e4⟩,q⟩=>⟨⟨a,o,its,n,e1,k _ _ e2 e3,e3,e4⟩,TW.keep k q⟩
  | [],_ :: _,q=>q.elim
  | _ :: _,[],q=>q.elim
theorem TW.at {h : Heap} : ∀ {vs : List Value} {W : List (List Int)} {i : Nat},TW h vs W→i < vs.length→∃ a o its n,vs.getD i Value.none = .ref a∧h.get? a = some o∧o.data = .seq its n∧Zs its.toList (W.getD i [])
  | _ :: _,_ :: _,0,⟨⟨a,o,its,n,e1,e2,e3,e4,e5⟩,_⟩,_=>⟨a,o,its,n,by simpa using e1,e2,e4,by simpa using e5⟩
  | _ :: _,_ :: _,i + 1,⟨_,q⟩,hi=>by
    obtain ⟨a,o,its,n,e1,e2,e3,e4⟩:=TW.at (i:=i) q (by simpa using hi)
    exact ⟨a,o,its,n,by simpa using e1,e2,e3,by simpa using e4⟩
  | [],_,_,_,hi=>absurd hi (by simp)
  | _ :: _,[],_,q,_=>q.elim
theorem TW.tups {h : Heap} : ∀ {vs : List Value} {W : List (List Int)},TW h vs W→(∀ x∈W,x≠[])→∃ fs,PySem.W.KatTups h vs fs∧fs.length = vs.length∧∀ v∈fs,∃ n t,v = .int n t
  | [],[],_,_=>⟨[],trivial,rfl,by simp⟩
  | _ :: vs,x :: xs,⟨⟨a,o,its,n,rfl,e2,e3,e4,e5⟩,q⟩,ne=>by
    obtain ⟨fs,g1,g2,g3⟩:=TW.tups q fun y hy=>ne y (List.mem_cons_of_mem _ hy)
    have e6:=ne x List.mem_cons_self
    match hi : its.toList,x,e5,e6 with
    | [],[],_,e6=>exact absurd rfl e6
    | [],_ :: _,e5,_=>exact e5.elim
    | _ :: _,[],e5,_=>exact e5.elim
    | f :: r,m :: ms,e5,_ =>
      obtain ⟨t,ht⟩:=e5.1
      refine ⟨f :: fs,PySem.W.KatTups.cons e2 e3 e4 ?_ g1,by simp [g2],?_⟩
      · rw [← Array.getElem?_toList,hi];rfl
      · intro v hv
        rcases List.mem_cons.mp hv with rfl | hv
        · exact ⟨m,t,ht⟩
        · exact g3 v hv
  | [],_ :: _,q,_=>q.elim
  | _ :: _,[],q,_=>q.elim
def sortP (W : List (List Int)) : Array Nat:=if W.length < 2 then (List.range W.length).toArray else kEnd (fun i j=>ltZ (W.getD i []) (W.getD j [])) (PySem.W.kas_sort W.length)
theorem sortP_ord (W : List (List Int)) : Ord W.length (sortP W):=by
  unfold sortP
  split
  · exact .refl _
  · exact KG.fin _ (kg_sort (by omega))
section
variable {prog : Program} {w : World} {A : Around} {E : Value→Shared→Prop} {s : Shared}
def outP (vs : List Value) (W : List (List Int)) : Array Value:=List.toArray ((sortP W).toList.map fun i=>vs.getD i Value.none)
theorem outP_size {h : Heap} {vs : List Value} {W : List (List Int)} (tw : TW h vs W) : (outP vs W).size = vs.length:=by
  have a:=(sortP_ord W).size_eq
  have b:=tw.len
  simp [outP]
  simp at a
  omega
theorem asks_tups {vs : List Value} {W : List (List Int)} {b : Bool} {s : Shared} (tw : TW s.heap vs W) {Q : Array Nat→Shared→Prop} (h2 : 0 < vs.length) (q : Q (kEnd (fun i j=>ltZ (W.getD i []) (W.getD j [])) (PySem.W.kas_sort vs.length)) s) :
    (PySem.W.kas_sort vs.length).kasWp (PySem.W.kas_ask prog w A (tuples' b) vs) Q s:=by
  refine KG.wp (fun i j C hi hj hC=>?_) (kg_sort h2) q
  obtain ⟨a1,o1,i1,n1,e1,e2,e3,e4⟩:=tw.at hi
  obtain ⟨a2,o2,i2,n2,f1,f2,f3,f4⟩:=tw.at hj
  show wpAny (model prog w) A (keyLt' (tuples' b) (vs.getD i Value.none) (vs.getD j Value.none)) C _ s
  rw [e1,f1]
  refine PySem.W.kat_lt e2 e3 f2 f3 (lex_int 0 e4 f4 ?_)
  have g1:=e4.len
  have g2:=f4.len
  rw [Array.length_toList] at g1 g2
  rw [g1,g2]
  exact hC
theorem small_out : ∀ (vs : List Value),vs.length < 2→Array.map (·.2) (vs.toArray.zip vs.toArray) = List.toArray ((List.range vs.length).map fun i=>vs.getD i Value.none)
  | [],_=>by simp
  | [v],_=>by simp
  | _ :: _ :: _,h=>absurd h (by simp)
theorem sort_tups {a : Addr} {vs : List Value} {W : List (List Int)} {k : Nat} {P : PySem.Fin→Shared→Prop} (g : s.heap.get? a = some (seqObj "list" vs.toArray k)) (tw : TW s.heap vs W) (ne : 2≤W.length→∀ x∈W,x≠[]) (hs : vs.length < 64)
    (q : P (.done (.ret .none)) { s with heap:=sortedHeap s.heap a vs (outP vs W) }) : wpAny (model prog w) A (Builtin.«list.sort» ⟨[.ref a],[]⟩) P E s:=by
  have line : 64≤sizeLine:=by rw [sizeLine_eq];omega
  have room : vs.toArray.size≤sizeLine:=by rw [List.size_toArray];omega
  have la : a < s.heap.objs.size:=Heap.lt_size g
  have osz:=outP_size tw
  rw [list_sort_plain]
  obtain ⟨e1,g1⟩ : ∃ e1,(s.heap.update a (Obj.mapSeq fun _=>(#[] : Array Value))).get? a = some (seqObj "list" #[] e1):=⟨_,get?_update_seq g fun _=>#[]⟩
  refine wpAny_bind (listItems_at g rfl (wpAny_bind (listUpdate_at g rfl (wpAny_bind (seqEpoch_at g1 rfl (wpAny_bind (wpAny_newTuple (wpAny_bind (wpAny_newList (wpAny_holding ?_) (Nat.zero_le _))) ?_)))) room (Nat.zero_le _))))
  case refine_2=>show vs.length≤_;omega
  have g3 : (((s.heap.update a (Obj.mapSeq fun _=>(#[] : Array Value))).push (seqObj "tuple" vs.toArray 0)).push (seqObj "list" #[] 0)).get? a = some (seqObj "list" #[] e1):=Heap.get?_push_of_some _ (Heap.get?_push_of_some _ g1)
  have tw3 : TW (((s.heap.update a (Obj.mapSeq fun _=>(#[] : Array Value))).push (seqObj "tuple" vs.toArray 0)).push (seqObj "list" #[] 0)) vs W:=tw.keep fun b o e c=>by
    have nb : b≠a:=fun z=>by
      subst z
      rw [g] at e
      cases e
      exact absurd (show Value.type "list" = Value.type "tuple" from c) (fun z=>by injection z with z;exact absurd z (by decide))
    exact Heap.get?_push_of_some _ (Heap.get?_push_of_some _ ((Heap.get?_update_ne _ _ _ _ nb).trans e))
  show wpAny (model prog w) A _ P E { s with heap:=((s.heap.update a (Obj.mapSeq fun _=>(#[] : Array Value))).push (seqObj "tuple" vs.toArray 0)).push (seqObj "list" #[] 0) }
  have fin : ∀ out : Array Value,out = outP vs W→P (.done (.ret .none)) { s with heap:=(((s.heap.update a (Obj.mapSeq fun _=>(#[] : Array Value))).push (seqObj "tuple" vs.toArray 0)).push (seqObj "list" #[] 0)).update a (Obj.mapSeq fun _=>out) }:=fun out e=>by
    subst e
    exact q
  generalize hh : ((s.heap.update a (Obj.mapSeq fun _=>(#[] : Array Value))).push (seqObj "tuple" vs.toArray 0)).push (seqObj "list" #[] 0) = hp at g3 tw3 fin ⊢
  dsimp only
  by_cases h2 : vs.toArray.size < 2
  · rw [if_pos h2,if_pos h2]
    refine wpAny_bind (wpAny_pure ?_)
    rw [StateT.run_pure]
    refine wpAny_bind (wpAny_pure ?_)
    dsimp only
    have same : (arrOf (SortSt.mk' general' (vs.toArray.zip vs.toArray) #[] 7 none)).map (·.2) = outP vs W:=by
      have hl:=tw.len
      rw [List.size_toArray] at h2
      unfold outP sortP
      rw [if_pos (by omega),← hl]
      exact small_out vs h2
    rw [same]
    refine wpAny_bind (seqEpoch_at g3 rfl (wpAny_bind (listUpdate_at g3 rfl ?_ (Nat.zero_le _) (by omega))))
    simp only [bne_self_eq_false,Bool.false_eq_true,if_false]
    exact wpAny_pure (fin _ rfl)
  · rw [if_neg h2,if_neg h2]
    rw [List.size_toArray] at h2
    obtain ⟨fs,t1,t2,t3⟩:=tw3.tups (ne (by have:=tw.len;omega))
    refine wpAny_bind (PySem.W.kat_kind (T:=.type "int") t1 (by omega) (fun v hv=>?_) rfl ?_)
    · obtain ⟨n,t,rfl⟩:=t3 v hv
      exact PySem.W.Looks.now
    refine wpAny_bind (wpAny_mono (PySem.W.kat_run (E:=E) (Q:=fun st' s'=>failedOf st' = none∧(arrOf st').map (·.2) = outP vs W∧s' = { s with heap:=hp }) (G:=fun p s'=>p = sortP W∧s' = { s with heap:=hp }) rfl (by omega) hs (fun p st' s' _ b1 b2 b3=>⟨b2,?_,b3.2⟩) (asks_tups tw3 (by omega) ⟨?_,rfl⟩)) ?_ fun _ _ e=>e)
    · rw [PySem.W.kat_snds rfl b1,b3.1]
      rfl
    · have hl:=tw.len
      unfold sortP
      rw [if_neg (by omega),← hl]
    · rintro ⟨⟨⟩,st'⟩ s' ⟨b1,b2,rfl⟩
      dsimp only at b1 b2 ⊢
      rw [b2]
      refine wpAny_bind (seqEpoch_at g3 rfl (wpAny_bind (listUpdate_at g3 rfl ?_ (Nat.zero_le _) (by omega))))
      rw [b1]
      simp only [bne_self_eq_false,Bool.false_eq_true,if_false]
      exact wpAny_pure (fin _ rfl)
theorem sorted_tups {l : Addr} {vs : List Value} {W : List (List Int)} {Q : Value→Shared→Prop} (g : s.heap.IsList l vs.toArray) (tw : TW s.heap vs W) (ne : 2≤W.length→∀ x∈W,x≠[]) (hs : vs.length < 64)
    (q : Q (.ref (s.heap.objs.size + 1)) { s with heap:=sortedAll s.heap vs (outP vs W) }) : wpAny (model prog w) A (call (.builtin "sorted") [.ref l]) Q E s:=by
  have line : 64≤sizeLine:=by rw [sizeLine_eq];omega
  refine Calls.call_function_entry kind_sorted plain_sorted entry_sorted (args_sorted1 _) ?_
  unfold Builtin.«sorted»
  have n1 : ((s.heap.push (seqObj "list" #[] 0)).update s.heap.objs.size (Obj.mapSeq (· ++ vs.toArray))).objs.size = s.heap.objs.size + 1:=by rw [Heap.size_update,size_push']
  refine wpAny_bind (m:=checkCount "sorted" 1 1 _) (wpAny_pure (wpAny_bind (collect_list g (wpAny_bind (wpAny_newList ?_ (by omega))) (by omega))))
  have g2 : (((s.heap.push (seqObj "list" #[] 0)).update s.heap.objs.size (Obj.mapSeq (· ++ vs.toArray))).push (seqObj "list" vs.toArray 0)).get? (s.heap.objs.size + 1) = some (seqObj "list" vs.toArray 0):=by
    rw [← n1];exact Heap.get?_push_size _ rfl
  have tw2 : TW (((s.heap.push (seqObj "list" #[] 0)).update s.heap.objs.size (Obj.mapSeq (· ++ vs.toArray))).push (seqObj "list" vs.toArray 0)) vs W:=tw.keep fun b o e _=>by
    have lt:=Heap.lt_size e
    exact Heap.get?_push_of_some _ ((Heap.get?_update_ne _ _ _ _ (Nat.ne_of_lt lt)).trans (Heap.get?_push_of_some _ e))
  show wpAny _ _ _ _ _ { s with heap:=((s.heap.push (seqObj "list" #[] 0)).update s.heap.objs.size (Obj.mapSeq (· ++ vs.toArray))).push (seqObj "list" vs.toArray 0) }
  rw [n1]
  exact wpAny_bind (wpAny_holding (wpAny_call_entry slot_list_sort ⟨_,g2,rfl⟩ entry_list_sort (sort_tups g2 tw2 ne hs ⟨_,rfl,wpAny_pure ⟨_,rfl,q⟩⟩) (args_list_sort _)))
end
def srt (xs : List V) (W : List (List Int)) : List V:=(sortP W).toList.map fun i=>xs.getD i .non
def TWv (H : Hp) : List V→List (List Int)→Prop
  | [],[]=>True
  | v :: vs,x :: xs=>(∃ a,v = .ref a∧H a = some (.tup (x.map V.int)))∧TWv H vs xs
  | _,_=>False
section
variable {X : Cx}
theorem Zs.of : ∀ {ns : List Int} {its : List Value},Vals (ns.map V.int) its→Zs its ns
  | [],[],_=>trivial
  | n :: ns,v :: vs,h=>by
    cases h with
    | cons r rr =>
      exact ⟨r,Zs.of rr⟩
  | [],_ :: _,h=>by cases h
  | _ :: _,[],h=>by cases h
theorem TWv.tw {pins : List (Addr × Obj)} {σ : St} {H : Hp} {s : Shared} (I : Inv X pins σ H s) : ∀ {xs : List V} {W : List (List Int)} {us : List Value},TWv H xs W→Vals xs us→TW s.heap us W
  | [],[],[],_,_=>trivial
  | v :: vs,x :: ys,u :: us,⟨⟨a,e1,e2⟩,q⟩,h=>by
    subst e1
    cases h with
    | cons r rr =>
      cases r
      obtain ⟨_,its,e4,⟨o,e5,e6,n,e7⟩,_⟩:=I.hok a _ e2
      exact ⟨⟨a,o,its.toArray,n,rfl,e5,e6,e7,Zs.of e4⟩,TWv.tw I q rr⟩
  | [],[],_ :: _,_,h=>by cases h
  | _ :: _,_,[],_,h=>by cases h
  | [],_ :: _,_,q,_=>q.elim
  | _ :: _,[],_,q,_=>q.elim
theorem vals_map {α : Type} {f : α→V} {g : α→Value} : ∀ {l : List α},(∀ i∈l,RelV (f i) (g i))→Vals (l.map f) (l.map g)
  | [],_=>.nil
  | _ :: _,h=>.cons (h _ (List.mem_cons_self ..)) (vals_map fun j hj=>h j (List.mem_cons_of_mem _ hj))
theorem Ord.mem {n : Nat} {p : Array Nat} (h : Ord n p) {i : Nat} (hi : i∈p.toList) : i < n:=by
  have:=(h.mem_iff (a:=i)).mp (Array.mem_toList_iff.mp hi)
  simpa using this
theorem call_sortedW : CallR X (.builtin "sorted") (fun xs H Q=>∃ p ys W,xs = [.ref p]∧SqL X.K H p ys∧TWv H ys W∧(2≤W.length→∀ x∈W,x≠[])∧W.length < 64∧∀ l,H l = none→Q (.ref l) (upd H l (.lst (srt ys W)))):=by
  intro pins s σ H xs us Q I r h
  obtain ⟨p,ys,W,rfl,hq,hT,hne,hW,q⟩:=h
  obtain ⟨u,rfl,rx⟩:=vals1 r
  cases rx
  obtain ⟨its,r',pl,hz⟩:=I.list hq
  have tw:=TWv.tw I hT r'
  have e1:=tw.len
  have e2:=r'.length
  obtain ⟨e,he⟩:=sortedAll_at s.heap its (outP its W)
  have hv : Vals (srt ys W) ((sortP W).toList.map fun i=>its.getD i Value.none):=vals_map fun i hi=>by
    have hi':=(sortP_ord W).mem hi
    obtain ⟨u,hu,ru⟩:=r'.get (List.getElem?_eq_getElem (by omega : i < ys.length))
    rw [List.getD_eq_getElem?_getD,List.getD_eq_getElem?_getD,hu,List.getElem?_eq_getElem (by omega : i < ys.length)]
    exact ru
  have hl : (srt ys W).length≤sizeLine:=by
    have a:=(sortP_ord W).size_eq
    have b : 64≤sizeLine:=by rw [sizeLine_eq];omega
    simp [srt] at a ⊢
    omega
  exact sorted_tups pl.isList tw hne (by omega) ⟨.ref (s.heap.objs.size + 1),_,I.laid (t':=s.toks) (fun b o e=>sortedAll_old e) (Nat.le_succ _) (show ObjOk X.prog X.w _ _ _ (.lst (srt ys W)) from ⟨hl,_,e,hv,he⟩),rfl,q _ (I.hok.fresh (Nat.le_succ _))⟩
end
def srtW (W : List (List Int)) : List (List Int):=(sortP W).toList.map fun i=>W.getD i []
theorem srtW_perm (W : List (List Int)) : (srtW W).Perm W:=by
  have h : (sortP W).toList.Perm (List.range W.length):=by
    have:=(sortP_ord W).toList
    simpa using this
  have:=h.map fun i=>W.getD i []
  refine this.trans (.of_eq ?_)
  apply List.ext_getElem?
  intro i
  by_cases hi : i < W.length
  · rw [List.getElem?_map,List.getElem?_range hi,List.getElem?_eq_getElem hi]
    simp [hi]
  · rw [List.getElem?_eq_none (by simpa using hi),List.getElem?_eq_none (by simpa using hi)]
theorem wd_ints {H : Hp} : ∀ {ns : List Int} {xs : List V},Dats H (ns.map D.int) xs→xs = ns.map V.int
  | [],xs,h=>by simpa [Dats] using h
  | n :: ns,xs,h=>by
    simp only [List.map_cons,Dats,Dat] at h
    obtain ⟨x,r,rfl,rfl,h2⟩:=h
    rw [wd_ints h2];rfl
theorem TWv.of {H : Hp} : ∀ {W : List (List Int)} {xs : List V},Dats H (W.map wdD) xs→TWv H xs W
  | [],xs,h=>by
    have : xs = []:=by simpa [Dats] using h
    subst this
    exact trivial
  | x :: W,xs,h=>by
    simp only [List.map_cons,Dats] at h
    obtain ⟨v,r,rfl,hv,h2⟩:=h
    simp only [wdD,Dat] at hv
    obtain ⟨a,ys,rfl,ha,hy⟩:=hv
    rw [wd_ints hy] at ha
    exact ⟨⟨a,rfl,ha⟩,TWv.of h2⟩
theorem dats_pick {H : Hp} {W : List (List Int)} {xs : List V} (h : Dats H (W.map wdD) xs) : ∀ {l : List Nat},(∀ i∈l,i < W.length)→Dats H ((l.map fun i=>W.getD i []).map wdD) (l.map fun i=>xs.getD i .non)
  | [],_=>by simp [Dats]
  | i :: l,q=>by
    simp only [List.map_cons,Dats]
    have hi:=q i (List.mem_cons_self ..)
    obtain ⟨x,e,hx⟩:=h.get (i:=i) (d:=wdD (W.getD i [])) (by rw [List.getElem?_map,List.getD_eq_getElem?_getD,List.getElem?_eq_getElem hi];rfl)
    refine ⟨_,_,rfl,?_,dats_pick h fun j hj=>q j (List.mem_cons_of_mem _ hj)⟩
    rw [show xs.getD i V.non = x by rw [List.getD_eq_getElem?_getD,e];rfl]
    exact hx
theorem dats_srt {H : Hp} {W : List (List Int)} {xs : List V} (h : Dats H (W.map wdD) xs) : Dats H ((srtW W).map wdD) (srt xs W):=dats_pick h fun i hi=>(sortP_ord W).mem hi
theorem srtW_mem {W : List (List Int)} {x : List Int} : x∈srtW W↔x∈W:=(srtW_perm W).mem_iff
section
variable {X : Cx}
theorem call_sorted : CallR X (.builtin "sorted") (fun xs H Q=>∃ p W,xs = [.ref p]∧LD H p (W.map wdD)∧(∀ x∈W,x≠[])∧W.length < 64∧∀ l H',H l = none→Same H H'→LD H' l ((srtW W).map wdD)→Q (.ref l) H'):=by
  intro pins s σ H xs us Q I r h
  obtain ⟨p,W,rfl,⟨hn,ys,hy,hd⟩,ne,hl,q⟩:=h
  exact call_sortedW pins s σ H _ us Q I r ⟨p,ys,W,rfl,SqL.of hy,TWv.of hd,fun _=>ne,hl,fun l hl=>q l _ hl (same_upd hl) ⟨noLs_wds _,_,upd_same,(dats_srt hd).same (same_upd hl)⟩⟩
end
structure Less (c : Nat→Nat→Bool) : Prop where
  as : ∀ i j,c i j = true→c j i = false
  tr : ∀ i j k,c j i = false→c k j = false→c k i = false
section
variable {c : Nat→Nat→Bool} (L : Less c)
def Dn (c : Nat→Nat→Bool) (p : Array Nat) (k : Nat) : Prop:=∀ i j,i≤j→j < k→c (p.getD i 0) (p.getD j 0) = false
include L
end
section
variable {c : Nat→Nat→Bool} (L : Less c)
include L
end
def lexL : List Int→List Int→Bool
  | [],[]=>false
  | [],_ :: _=>true
  | _ :: _,[]=>false
  | x :: xs,y :: ys=>if x = y then lexL xs ys else decide (x < y)
end L2
namespace L2
open PySem PySem.Spec PyProof.Rows
inductive AV where
  | d (x : D)
  | r (v : V)
  | p (v : V) (P : Hp→Prop)
inductive OC where
  | own (xs : List AV)
  | frz (ds : List D)
  | dic (kvs : List (Str × AV))
abbrev Om:=Addr→Option OC
abbrev SA:=List (Option AV)
abbrev Fs:=Addr→Bool
def Om.put (ω : Om) (l : Addr) (c : OC) : Om:=fun b=>if b = l then some c else ω b
theorem Om.put_same {ω : Om} {l : Addr} {c : OC} : ω.put l c l = some c:=by unfold Om.put;rw [if_pos rfl]
theorem Om.put_ne {ω : Om} {l b : Addr} {c : OC} (h : b≠l) : ω.put l c b = ω b:=by unfold Om.put;rw [if_neg h]
theorem Om.put_put {ω : Om} {l : Addr} {c e : OC} : (ω.put l c).put l e = ω.put l e:=by funext b;unfold Om.put;split<;>rfl
theorem Om.put_comm {ω : Om} {l p : Addr} {c e : OC} (h : p≠l) : (ω.put l c).put p e = (ω.put p e).put l c:=by
  funext b;unfold Om.put;split<;>split<;>simp_all
def ow : Option OC→Bool
  | some (.own _)=>true
  | some (.dic _)=>true
  | _=>false
def Fs.add (F : Fs) (l : Addr) : Fs:=fun b=>decide (b = l) || F b
def cut (F : Fs) (H : Hp) (ω : Om) : Hp:=fun b=>if (ow (ω b) || F b) = true then none else H b
def RV (G : Hp) : AV→V→Prop
  | .d x,v=>Dat G x v
  | .r u,v=>v = u
  | .p u P,v=>v = u∧∀ G',Same G G'→P G'
def RVs (G : Hp) : List AV→List V→Prop
  | [],vs=>vs = []
  | a :: as,vs=>∃ v r,vs = v :: r∧RV G a v∧RVs G as r
def RS (G : Hp) (ρ : SA) (σ : St) : Prop:=ρ.length = σ.length∧∀ (i : Nat) (a : AV),ρ[i]? = some (some a)→∃ v,σ[i]? = some (some v)∧RV G a v
def RKs (G : Hp) : List (Str × AV)→List (Key × V)→Prop
  | [],ks=>ks = []
  | p :: r,ks=>∃ v r',ks = ((Sum.inr p.1 : Key),v) :: r'∧RV G p.2 v∧RKs G r r'
structure Rep (F : Fs) (H : Hp) (ω : Om) : Prop where
  own : ∀ l xs,ω l = some (.own xs)→∃ vs,H l = some (.lst vs)∧RVs (cut F H ω) xs vs
  frz : ∀ l ds,ω l = some (.frz ds)→Dat (cut F H ω) (.lst ds) (.ref l)
  hid : ∀ b,F b = true→ω b = none∧∃ vs,H b = some (.lst vs)
  dic : ∀ l kvs,ω l = some (.dic kvs)→∃ ks,H l = some (.dK ks)∧RKs (cut F H ω) kvs ks
structure Fr (F : Fs) (H : Hp) (ω : Om) (H' : Hp) (ω' : Om) : Prop where
  st : ∀ b o,ow (ω b) = false→F b = false→H b = some o→H' b = some o∧ow (ω' b) = false
  hd : ∀ b,F b = true→H' b = H b
section
variable {F : Fs} {H H1 H2 H' : Hp} {ω ω1 ω2 ω' : Om} {G G' : Hp}
theorem Fr.refl : Fr F H ω H ω:=⟨fun _ _ h _ e=>⟨e,h⟩,fun _ _=>rfl⟩
theorem Fr.trans (a : Fr F H ω H1 ω1) (b : Fr F H1 ω1 H2 ω2) : Fr F H ω H2 ω2 :=
  ⟨fun c o h f e=>let ⟨x,y⟩:=a.st c o h f e;b.st c o y f x,fun c h=>(b.hd c h).trans (a.hd c h)⟩
theorem cut_some {b : Addr} {o : HO} : cut F H ω b = some o↔ow (ω b) = false∧F b = false∧H b = some o:=by
  unfold cut
  cases ow (ω b)<;>cases F b<;>simp
theorem Fr.same (a : Fr F H ω H' ω') : Same (cut F H ω) (cut F H' ω'):=fun b o e=>by
  obtain ⟨h,f,e⟩:=cut_some.mp e
  obtain ⟨x,y⟩:=a.st b o h f e
  exact cut_some.mpr ⟨y,f,x⟩
theorem cut_same : Same (cut F H ω) H:=fun b o e=>(cut_some.mp e).2.2
theorem RV.same (e : Same G G') : ∀ {a : AV} {v : V},RV G a v→RV G' a v
  | .d _,_,h=>Dat.same e h
  | .r _,_,h=>h
  | .p _ _,_,h=>⟨h.1,fun G2 s=>h.2 G2 (e.trans s)⟩
theorem RVs.same (e : Same G G') : ∀ {as : List AV} {vs : List V},RVs G as vs→RVs G' as vs
  | [],_,h=>h
  | _ :: _,_,⟨v,r,h1,h2,h3⟩=>⟨v,r,h1,h2.same e,h3.same e⟩
theorem RKs.same (e : Same G G') : ∀ {as : List (Str × AV)} {vs : List (Key × V)},RKs G as vs→RKs G' as vs
  | [],_,h=>h
  | _ :: _,_,⟨v,r,h1,h2,h3⟩=>⟨v,r,h1,h2.same e,h3.same e⟩
theorem RS.same (e : Same G G') {ρ : SA} {σ : St} (h : RS G ρ σ) : RS G' ρ σ:=⟨h.1,fun i a q=>let ⟨v,x,y⟩:=h.2 i a q;⟨v,x,y.same e⟩⟩
theorem RVs.length : ∀ {as : List AV} {vs : List V},RVs G as vs→vs.length = as.length
  | [],_,h=>by cases h;rfl
  | _ :: _,_,⟨v,r,h1,_,h3⟩=>by subst h1;simp [h3.length]
theorem RVs.get : ∀ {as : List AV} {vs : List V} {i : Nat} {a : AV},RVs G as vs→as[i]? = some a→∃ v,vs[i]? = some v∧RV G a v
  | [],_,_,_,_,e=>by simp at e
  | _ :: _,_,0,_,⟨v,r,h1,h2,_⟩,e=>by subst h1;simp at e;subst e;exact ⟨v,rfl,h2⟩
  | _ :: _,_,i + 1,_,⟨v,r,h1,_,h3⟩,e=>by subst h1;simp at e;obtain ⟨v',e1,e2⟩:=h3.get e;exact ⟨v',by simpa using e1,e2⟩
theorem RVs.append : ∀ {as bs : List AV} {vs us : List V},RVs G as vs→RVs G bs us→RVs G (as ++ bs) (vs ++ us)
  | [],_,_,_,h,k=>by cases h;exact k
  | _ :: _,_,_,_,⟨v,r,h1,h2,h3⟩,k=>by subst h1;exact ⟨v,_,rfl,h2,h3.append k⟩
theorem RVs.one {a : AV} {v : V} (h : RV G a v) : RVs G [a] [v]:=⟨v,[],rfl,h,rfl⟩
theorem RVs.dats : ∀ {ds : List D} {vs : List V},RVs G (ds.map AV.d) vs↔Dats G ds vs
  | [],_=>by simp [RVs,Dats]
  | d :: ds,vs=>by
    simp only [List.map_cons,RVs,Dats,RV]
    constructor
    · rintro ⟨v,r,h1,h2,h3⟩;exact ⟨v,r,h1,h2,RVs.dats.mp h3⟩
    · rintro ⟨v,r,h1,h2,h3⟩;exact ⟨v,r,h1,h2,RVs.dats.mpr h3⟩
theorem RVs.set {as : List AV} {vs : List V} (i : Nat) {a : AV} {v : V} (h : RVs G as vs) (k : RV G a v) : RVs G (as.set i a) (vs.set i v):=by
  induction as generalizing vs i with
  | nil=>cases h;exact rfl
  | cons b as ih =>
    obtain ⟨u,r,rfl,h2,h3⟩:=h
    cases i with
    | zero=>exact ⟨v,r,rfl,k,h3⟩
    | succ i=>exact ⟨u,_,rfl,h2,ih i h3⟩
theorem RVs.dropLast : ∀ {as : List AV} {vs : List V},RVs G as vs→RVs G as.dropLast vs.dropLast
  | [],_,h=>by cases h;exact rfl
  | [a],_,⟨v,r,h1,h2,h3⟩=>by cases h3;subst h1;exact rfl
  | a :: b :: as,_,⟨v,r,h1,h2,h3⟩=>by
    obtain ⟨u,r',rfl,k2,k3⟩:=id h3
    subst h1
    exact ⟨v,_,rfl,h2,h3.dropLast⟩
theorem Rep.free (R : Rep F H ω) {p : Addr} (h : H p = none) : ω p = none∧F p = false:=by
  constructor
  · cases e : ω p with
    | none=>rfl
    | some c=>cases c with
      | own xs=>obtain ⟨vs,q,_⟩:=R.own p xs e;rw [h] at q;cases q
      | frz ds =>
        have q:=R.frz p ds e
        simp only [Dat] at q
        obtain ⟨a,xs,e1,e2,_⟩:=q
        cases e1
        rw [cut_same _ _ e2] at h;cases h
      | dic kvs=>obtain ⟨vs,q,_⟩:=R.dic p kvs e;rw [h] at q;cases q
  · cases e : F p with
    | false=>rfl
    | true=>obtain ⟨_,o,q⟩:=R.hid p e;rw [h] at q;cases q
theorem Rep.lay (R : Rep F H ω) {p : Addr} {o : HO} (h : H p = none) : Rep F (upd H p o) ω∧Fr F H ω (upd H p o) ω∧cut F (upd H p o) ω p = some o:=by
  have hs:=same_upd (o:=o) h
  have fr : Fr F H ω (upd H p o) ω:=⟨fun b u x f e=>⟨hs _ _ e,x⟩,fun b f=>by
    obtain ⟨_,u,q⟩:=R.hid b f
    rw [upd_ne (ne_of_none q h)]⟩
  obtain ⟨f1,f2⟩:=R.free h
  refine ⟨⟨fun l xs e=>?_,fun l ds e=>(R.frz l ds e).same fr.same,fun b f=>?_,fun l ks e=>(by obtain ⟨vs,e1,e2⟩:=R.dic l ks e;exact ⟨vs,hs _ _ e1,e2.same fr.same⟩)⟩,fr,cut_some.mpr ⟨by rw [f1];rfl,f2,upd_same⟩⟩
  · obtain ⟨vs,e1,e2⟩:=R.own l xs e
    exact ⟨vs,hs _ _ e1,e2.same fr.same⟩
  · obtain ⟨x,u,q⟩:=R.hid b f
    exact ⟨x,u,hs _ _ q⟩
theorem cut_write {l : Addr} {xs ys : List AV} {o : HO} (h : ω l = some (.own xs)) : cut F (upd H l o) (ω.put l (.own ys)) = cut F H ω:=by
  funext b
  unfold cut Om.put
  by_cases hb : b = l
  · subst hb;rw [if_pos rfl,h];simp [ow]
  · rw [if_neg hb,upd_ne hb]
theorem Rep.write (R : Rep F H ω) {l : Addr} {xs ys : List AV} {vs : List V} (h : ω l = some (.own xs)) (hv : RVs (cut F H ω) ys vs) :
    Rep F (upd H l (.lst vs)) (ω.put l (.own ys))∧Fr F H ω (upd H l (.lst vs)) (ω.put l (.own ys)):=by
  have c:=cut_write (F:=F) (H:=H) (ys:=ys) (o:=.lst vs) h
  refine ⟨⟨fun k zs e=>?_,fun k ds e=>?_,fun b f=>?_,fun k ks e=>(by
    have hk : k≠l:=fun z=>(by subst z;rw [Om.put_same] at e;cases e)
    rw [Om.put_ne hk] at e;rw [c,upd_ne hk];exact R.dic k ks e)⟩,fun b o x f e=>?_,fun b f=>?_⟩
  · rw [c]
    by_cases hk : k = l
    · subst hk;rw [Om.put_same] at e;cases e;exact ⟨vs,upd_same,hv⟩
    · rw [Om.put_ne hk] at e;rw [upd_ne hk];exact R.own k zs e
  · rw [c]
    by_cases hk : k = l
    · subst hk;rw [Om.put_same] at e;cases e
    · rw [Om.put_ne hk] at e;exact R.frz k ds e
  · obtain ⟨x,o,q⟩:=R.hid b f
    have hb : b≠l:=fun z=>by subst z;rw [h] at x;cases x
    exact ⟨by rw [Om.put_ne hb];exact x,o,by rw [upd_ne hb];exact q⟩
  · have hb : b≠l:=fun z=>by subst z;rw [h] at x;cases x
    rw [Om.put_ne hb,upd_ne hb];exact ⟨e,x⟩
  · obtain ⟨x,o,q⟩:=R.hid b f
    have hb : b≠l:=fun z=>by subst z;rw [h] at x;cases x
    exact upd_ne hb
theorem Rep.mk' (R : Rep F H ω) {l : Addr} {xs : List AV} {vs : List V} (h : H l = none) (hv : RVs (cut F H ω) xs vs) :
    Rep F (upd H l (.lst vs)) (ω.put l (.own xs))∧Fr F H ω (upd H l (.lst vs)) (ω.put l (.own xs)):=by
  obtain ⟨f1,f2⟩:=R.free h
  have c : cut F (upd H l (.lst vs)) (ω.put l (.own xs)) = cut F H ω:=by
    funext b
    unfold cut Om.put
    by_cases hb : b = l
    · subst hb;rw [if_pos rfl,f1,f2,h];simp [ow]
    · rw [if_neg hb,upd_ne hb]
  refine ⟨⟨fun k zs e=>?_,fun k ds e=>?_,fun b f=>?_,fun k ks e=>(by
    have hk : k≠l:=fun z=>(by subst z;rw [Om.put_same] at e;cases e)
    rw [Om.put_ne hk] at e;rw [c,upd_ne hk];exact R.dic k ks e)⟩,fun b o x f e=>?_,fun b f=>?_⟩
  · rw [c]
    by_cases hk : k = l
    · subst hk;rw [Om.put_same] at e;cases e;exact ⟨vs,upd_same,hv⟩
    · rw [Om.put_ne hk] at e;rw [upd_ne hk];exact R.own k zs e
  · rw [c]
    by_cases hk : k = l
    · subst hk;rw [Om.put_same] at e;cases e
    · rw [Om.put_ne hk] at e;exact R.frz k ds e
  · obtain ⟨x,o,q⟩:=R.hid b f
    have hb : b≠l:=ne_of_none q h
    exact ⟨by rw [Om.put_ne hb];exact x,o,by rw [upd_ne hb];exact q⟩
  · have hb : b≠l:=ne_of_none e h
    rw [Om.put_ne hb,upd_ne hb];exact ⟨e,x⟩
  · obtain ⟨x,o,q⟩:=R.hid b f
    exact upd_ne (ne_of_none q h)
theorem Rep.freeze (R : Rep F H ω) {l : Addr} {ds : List D} (h : ω l = some (.own (ds.map AV.d))) :
    Rep F H (ω.put l (.frz ds))∧Fr F H ω H (ω.put l (.frz ds))∧Dat (cut F H (ω.put l (.frz ds))) (.lst ds) (.ref l):=by
  have fr : Fr F H ω H (ω.put l (.frz ds)):=⟨fun b o x f e=>⟨e,by
    by_cases hb : b = l
    · subst hb;rw [h] at x;cases x
    · rw [Om.put_ne hb];exact x⟩,fun _ _=>rfl⟩
  obtain ⟨vs,e1,e2⟩:=R.own l _ h
  have hF : F l = false:=by
    cases e : F l with
    | false=>rfl
    | true=>have:=(R.hid l e).1;rw [h] at this;cases this
  have dl : Dat (cut F H (ω.put l (.frz ds))) (.lst ds) (.ref l):=by
    simp only [Dat]
    exact ⟨l,vs,rfl,cut_some.mpr ⟨by rw [Om.put_same];rfl,hF,e1⟩,(RVs.dats.mp e2).same fr.same⟩
  refine ⟨⟨fun k zs e=>?_,fun k es e=>?_,fun b f=>?_,fun k ks e=>(by
    have hk : k≠l:=fun z=>(by subst z;rw [Om.put_same] at e;cases e)
    rw [Om.put_ne hk] at e;obtain ⟨us,q1,q2⟩:=R.dic k ks e;exact ⟨us,q1,q2.same fr.same⟩)⟩,fr,dl⟩
  · by_cases hk : k = l
    · subst hk;rw [Om.put_same] at e;cases e
    · rw [Om.put_ne hk] at e
      obtain ⟨us,q1,q2⟩:=R.own k zs e
      exact ⟨us,q1,q2.same fr.same⟩
  · by_cases hk : k = l
    · subst hk;rw [Om.put_same] at e;cases e;exact dl
    · rw [Om.put_ne hk] at e;exact (R.frz k es e).same fr.same
  · obtain ⟨x,o,q⟩:=R.hid b f
    have hb : b≠l:=fun z=>by subst z;rw [h] at x;cases x
    exact ⟨by rw [Om.put_ne hb];exact x,o,q⟩
theorem Rep.hide (R : Rep F H ω) {l : Addr} {vs : List V} (h : H l = none) : Rep (F.add l) (upd H l (.lst vs)) ω∧cut (F.add l) (upd H l (.lst vs)) ω = cut F H ω:=by
  obtain ⟨f1,f2⟩:=R.free h
  have c : cut (F.add l) (upd H l (.lst vs)) ω = cut F H ω:=by
    funext b
    unfold cut Fs.add
    by_cases hb : b = l
    · subst hb;simp [h]
    · rw [upd_ne hb];simp [hb]
  refine ⟨⟨fun k zs e=>?_,fun k ds e=>?_,fun b f=>?_,fun k ks e=>(by rw [c];obtain ⟨us,q1,q2⟩:=R.dic k ks e;exact ⟨us,by rw [upd_ne (ne_of_none q1 h)];exact q1,q2⟩)⟩,c⟩
  · rw [c]
    obtain ⟨us,q1,q2⟩:=R.own k zs e
    exact ⟨us,by rw [upd_ne (ne_of_none q1 h)];exact q1,q2⟩
  · rw [c];exact R.frz k ds e
  · by_cases hb : b = l
    · subst hb;exact ⟨f1,_,upd_same⟩
    · have f' : F b = true:=by simpa [Fs.add,hb] using f
      obtain ⟨x,o,q⟩:=R.hid b f'
      exact ⟨x,o,by rw [upd_ne hb];exact q⟩
theorem Rep.hwrite (R : Rep F H ω) {l : Addr} {vs : List V} (h : F l = true) : Rep F (upd H l (.lst vs)) ω∧cut F (upd H l (.lst vs)) ω = cut F H ω:=by
  have c : cut F (upd H l (.lst vs)) ω = cut F H ω:=by
    funext b
    unfold cut
    by_cases hb : b = l
    · subst hb;simp [h]
    · rw [upd_ne hb]
  refine ⟨⟨fun k zs e=>?_,fun k ds e=>?_,fun b f=>?_,fun k ks e=>(by
    have hk : k≠l:=fun z=>(by subst z;rw [(R.hid _ h).1] at e;cases e)
    rw [c,upd_ne hk];exact R.dic k ks e)⟩,c⟩
  · rw [c]
    obtain ⟨us,q1,q2⟩:=R.own k zs e
    have hk : k≠l:=fun z=>by subst z;rw [(R.hid _ h).1] at e;cases e
    exact ⟨us,by rw [upd_ne hk];exact q1,q2⟩
  · rw [c];exact R.frz k ds e
  · by_cases hb : b = l
    · subst hb;exact ⟨(R.hid _ h).1,_,upd_same⟩
    · obtain ⟨x,o,q⟩:=R.hid b f
      exact ⟨x,o,by rw [upd_ne hb];exact q⟩
theorem Rep.unhide {l : Addr} {vs : List V} (R : Rep (F.add l) H ω) (hF : F l = false) (h : H l = some (.lst vs)) :
    Rep F H ω∧Same (cut (F.add l) H ω) (cut F H ω)∧cut F H ω l = some (.lst vs):=by
  have hl : ω l = none:=(R.hid l (by simp [Fs.add])).1
  have sm : Same (cut (F.add l) H ω) (cut F H ω):=fun b o e=>by
    obtain ⟨x,f,e⟩:=cut_some.mp e
    refine cut_some.mpr ⟨x,?_,e⟩
    unfold Fs.add at f
    cases q : F b with
    | false=>rfl
    | true=>rw [q] at f;simp at f
  refine ⟨⟨fun k zs e=>?_,fun k ds e=>(R.frz k ds e).same sm,fun b f=>R.hid b (by simp [Fs.add,f]),fun k ks e=>(by obtain ⟨us,q1,q2⟩:=R.dic k ks e;exact ⟨us,q1,q2.same sm⟩)⟩,sm,cut_some.mpr ⟨by rw [hl];rfl,hF,h⟩⟩
  obtain ⟨us,q1,q2⟩:=R.own k zs e
  exact ⟨us,q1,q2.same sm⟩
end
def LP {α β : Type} (R : Hp→α→β→Prop) (F : Fs) (H : Hp) (ω : Om) (Q' : α→Om→Prop) (Q : β→Hp→Prop) : Prop :=
  ∀ a ω' v H',Rep F H' ω'→Fr F H ω H' ω'→R (cut F H' ω') a v→Q' a ω'→Q v H'
theorem LP.fr {α β : Type} {R : Hp→α→β→Prop} {F : Fs} {H H1 : Hp} {ω ω1 : Om} {Q' : α→Om→Prop} {Q : β→Hp→Prop} (k : LP R F H ω Q' Q) (f : Fr F H ω H1 ω1) : LP R F H1 ω1 Q' Q :=
  fun a ω' v H' rp fr rv q=>k a ω' v H' rp (f.trans fr) rv q
structure Ref {α β : Type} (R : Hp→α→β→Prop) (t : St→Hp→(β→Hp→Prop)→Prop) (t' : SA→Om→(α→Om→Prop)→Prop) : Prop where
  run : ∀ (F : Fs) (H : Hp) (ω : Om) (σ : St) (ρ : SA) (Q : β→Hp→Prop) (Q' : α→Om→Prop),Rep F H ω→RS (cut F H ω) ρ σ→t' ρ ω Q'→LP R F H ω Q' Q→t σ H Q
theorem Ref.go {α β : Type} {R : Hp→α→β→Prop} {t : St→Hp→(β→Hp→Prop)→Prop} {t' : SA→Om→(α→Om→Prop)→Prop} (h : Ref R t t') {F : Fs} {H : Hp} {ω : Om} {σ : St} {ρ : SA} {Q : β→Hp→Prop} {Q' : α→Om→Prop}
    (rp : Rep F H ω) (rs : RS (cut F H ω) ρ σ) (w : t' ρ ω Q') (k : ∀ a ω1 v H1,Rep F H1 ω1→Fr F H ω H1 ω1→RS (cut F H1 ω1) ρ σ→R (cut F H1 ω1) a v→Q' a ω1→Q v H1) : t σ H Q :=
  h.run F H ω σ ρ Q Q' rp rs w fun a ω1 v H1 rp1 fr1 rv q=>k a ω1 v H1 rp1 fr1 (rs.same fr1.same) rv q
abbrev AE:=SA→Om→(AV→Om→Prop)→Prop
abbrev AT:=SA→Om→(Bool→Om→Prop)→Prop
abbrev AA:=SA→Om→(List AV→Om→Prop)→Prop
def REq {α : Type} (_ : Hp) (a b : α) : Prop:=a = b
abbrev RefE (t : TE) (t' : AE) : Prop:=Ref RV t t'
abbrev RefT (t : TT) (t' : AT) : Prop:=Ref REq t t'
abbrev RefA (t : TA) (t' : AA) : Prop:=Ref RVs t t'
structure AEnds where
  nx : SA→Om→Prop
  rt : AV→Om→Prop
  bk : SA→Om→Prop:=fun _ _=>False
  ct : SA→Om→Prop:=fun _ _=>False
abbrev AS:=AEnds→SA→Om→Prop
structure LE (F : Fs) (H : Hp) (ω : Om) (D' : AEnds) (D : Ends) : Prop where
  nx : LP RS F H ω D'.nx D.nx
  rt : LP RV F H ω D'.rt D.rt
  bk : LP RS F H ω D'.bk D.bk
  ct : LP RS F H ω D'.ct D.ct
theorem LE.fr {F : Fs} {H H1 : Hp} {ω ω1 : Om} {D' : AEnds} {D : Ends} (k : LE F H ω D' D) (f : Fr F H ω H1 ω1) : LE F H1 ω1 D' D:=⟨k.nx.fr f,k.rt.fr f,k.bk.fr f,k.ct.fr f⟩
structure RefS (t : TS) (t' : AS) : Prop where
  run : ∀ (F : Fs) (H : Hp) (ω : Om) (σ : St) (ρ : SA) (D : Ends) (D' : AEnds),Rep F H ω→RS (cut F H ω) ρ σ→t' D' ρ ω→LE F H ω D' D→t D σ H
abbrev AG:=AV→SA→Om→(SA→Om→Prop)→Prop
abbrev AGs:=List AV→SA→Om→(SA→Om→Prop)→Prop
structure RefG (g : TG) (g' : AG) : Prop where
  run : ∀ (F : Fs) (H : Hp) (ω : Om) (σ : St) (ρ : SA) (v : V) (a : AV) (Q : St→Hp→Prop) (Q' : SA→Om→Prop),Rep F H ω→RS (cut F H ω) ρ σ→RV (cut F H ω) a v→g' a ρ ω Q'→LP RS F H ω Q' Q→g v σ H Q
structure RefGs (g : TGs) (g' : AGs) : Prop where
  run : ∀ (F : Fs) (H : Hp) (ω : Om) (σ : St) (ρ : SA) (v : List V) (a : List AV) (Q : St→Hp→Prop) (Q' : SA→Om→Prop),Rep F H ω→RS (cut F H ω) ρ σ→RVs (cut F H ω) a v→g' a ρ ω Q'→LP RS F H ω Q' Q→g v σ H Q
abbrev ASp:=List AV→Om→(AV→Om→Prop)→Prop
def lift (sp : ASp) : Sp:=fun vs H Q _=>∃ (F : Fs) (xs : List AV) (ω : Om) (Q' : AV→Om→Prop),Rep F H ω∧RVs (cut F H ω) xs vs∧sp xs ω Q'∧LP RV F H ω Q' Q
def aNext : AS:=fun D ρ ω=>D.nx ρ ω
def aSeq (t u : AS) : AS:=fun D ρ ω=>t { D with nx:=u D } ρ ω
def aCont : AS:=fun D ρ ω=>D.ct ρ ω
def aDrop (te : AE) : AS:=fun D ρ ω=>te ρ ω fun _ ω1=>D.nx ρ ω1
def aRet (te : AE) : AS:=fun D ρ ω=>te ρ ω D.rt
def aIfS (c : AT) (t u : AS) : AS:=fun D ρ ω=>c ρ ω fun b ω1=>if b = true then t D ρ ω1 else u D ρ ω1
def aNever : AS:=fun _ _ _=>False
def aAsg (te : AE) (g : AG) : AS:=fun D ρ ω=>te ρ ω fun x ω1=>g x ρ ω1 D.nx
def aWhile (c : AT) (tb : AS) : AS:=fun D ρ ω=>∃ W : Nat→SA→Om→Prop,(∃ m,W m ρ ω)∧∀ m ρ ω,W m ρ ω →
  c ρ ω fun b ω1=>if b = true then ∃ N : SA→Om→Prop,(∀ ρ' ω',N ρ' ω'→∃ m',m' < m∧W m' ρ' ω')∧tb { D with nx:=N,ct:=N,bk:=D.nx } ρ ω1 else D.nx ρ ω1
def agName (i : Nat) : AG:=fun v ρ ω Q=>Q (ρ.set i (some v)) ω
def agNil : AGs:=fun vs ρ ω Q=>vs = []∧Q ρ ω
def agCons (t : AG) (u : AGs) : AGs:=fun vs ρ ω Q=>∃ v r,vs = v :: r∧t v ρ ω fun ρ' ω'=>u r ρ' ω' Q
section
variable {t u : TS} {t' u' : AS} {te : TE} {te' : AE} {tc : TT} {tc' : AT} {g : TG} {g' : AG} {gs : TGs} {gs' : AGs}
theorem RS.set {G : Hp} {ρ : SA} {σ : St} {i : Nat} {a : AV} {v : V} (h : RS G ρ σ) (r : RV G a v) : RS G (ρ.set i (some a)) (σ.set i (some v)):=by
  refine ⟨by simp [h.1],fun j b e=>?_⟩
  by_cases hj : j = i
  · subst hj
    rw [List.getElem?_set] at e
    rw [List.getElem?_set]
    simp only [if_true] at e ⊢
    split at e
    · rename_i hl
      cases e
      rw [if_pos (h.1 ▸ hl)]
      exact ⟨v,rfl,r⟩
    · cases e
  · rw [List.getElem?_set_ne (Ne.symm hj)] at e
    rw [List.getElem?_set_ne (Ne.symm hj)]
    exact h.2 j b e
theorem s_next : RefS tNext aNext:=⟨fun F H ω σ ρ D D' rp rs h k=>k.nx ρ ω σ H rp .refl rs h⟩
theorem s_seq (h1 : RefS t t') (h2 : RefS u u') : RefS (tSeq t u) (aSeq t' u'):=⟨fun F H ω σ ρ D D' rp rs h k =>
  h1.run F H ω σ ρ _ _ rp rs h ⟨fun ρ1 ω1 σ1 H1 rp1 fr1 rs1 q=>h2.run F H1 ω1 σ1 ρ1 D D' rp1 rs1 q (k.fr fr1),k.rt,k.bk,k.ct⟩⟩
theorem s_cont : RefS tCont aCont:=⟨fun F H ω σ ρ D D' rp rs h k=>k.ct ρ ω σ H rp .refl rs h⟩
theorem s_drop (h : RefE te te') : RefS (tDrop te) (aDrop te'):=⟨fun F H ω σ ρ D D' rp rs w k=>h.go rp rs w fun a ω1 v H1 rp1 fr1 rs1 rv q=>k.nx ρ ω1 σ H1 rp1 fr1 rs1 q⟩
theorem s_ret (h : RefE te te') : RefS (tRet te) (aRet te'):=⟨fun F H ω σ ρ D D' rp rs w k=>h.run F H ω σ ρ _ _ rp rs w k.rt⟩
theorem s_if (hc : RefT tc tc') (h1 : RefS t t') (h2 : RefS u u') : RefS (tIfS tc t u) (aIfS tc' t' u'):=⟨fun F H ω σ ρ D D' rp rs w k =>
  hc.go rp rs w fun a ω1 v H1 rp1 fr1 rs1 rv q=>by
    cases (show a = v from rv)
    cases a with
    | true=>rw [if_pos rfl] at q ⊢;exact h1.run F H1 ω1 σ ρ D D' rp1 rs1 q (k.fr fr1)
    | false=>rw [if_neg Bool.false_ne_true] at q ⊢;exact h2.run F H1 ω1 σ ρ D D' rp1 rs1 q (k.fr fr1)⟩
theorem s_never : RefS t aNever:=⟨fun F H ω σ ρ D D' rp rs w k=>w.elim⟩
theorem s_asg (h : RefE te te') (hg : RefG g g') : RefS (tAsg te g) (aAsg te' g'):=⟨fun F H ω σ ρ D D' rp rs w k=>h.go rp rs w fun a ω1 v H1 rp1 fr1 rs1 rv q =>
  hg.run F H1 ω1 σ ρ v a _ _ rp1 rs1 rv q (k.nx.fr fr1)⟩
theorem g_name {i : Nat} : RefG (gName i) (agName i):=⟨fun F H ω σ ρ v a Q Q' rp rs rv w k=>k _ ω _ H rp .refl (rs.set rv) w⟩
theorem g_nil : RefGs gNil agNil:=⟨fun F H ω σ ρ vs as Q Q' rp rs rv w k=>by
  obtain ⟨rfl,w⟩:=w
  exact ⟨rv,k ρ ω σ H rp .refl rs w⟩⟩
theorem g_cons (h1 : RefG g g') (h2 : RefGs gs gs') : RefGs (gCons g gs) (agCons g' gs'):=⟨fun F H ω σ ρ vs as Q Q' rp rs rv w k=>by
  obtain ⟨a,r,rfl,w⟩:=w
  obtain ⟨v,us,rfl,rv1,rv2⟩:=rv
  exact ⟨v,us,rfl,h1.run F H ω σ ρ v a _ _ rp rs rv1 w fun ρ1 ω1 σ1 H1 rp1 fr1 rs1 q=>h2.run F H1 ω1 σ1 ρ1 us r Q Q' rp1 rs1 (rv2.same fr1.same) q (k.fr fr1)⟩⟩
theorem s_while (hc : RefT tc tc') (hb : RefS t t') : RefS (tWhile tc t) (aWhile tc' t'):=⟨fun F H ω σ ρ D D' rp rs w k=>by
  obtain ⟨W,⟨m0,w0⟩,turn⟩:=w
  refine ⟨fun m σ1 H1=>∃ ρ1 ω1,Rep F H1 ω1∧RS (cut F H1 ω1) ρ1 σ1∧Fr F H ω H1 ω1∧W m ρ1 ω1,⟨m0,ρ,ω,rp,rs,.refl,w0⟩,?_⟩
  rintro m σ1 H1 ⟨ρ1,ω1,rp1,rs1,fr1,w1⟩
  refine hc.go rp1 rs1 (turn m ρ1 ω1 w1) fun a ω2 v H2 rp2 fr2 rs2 rv q=>?_
  cases (show a = v from rv)
  have k2:=k.fr (fr1.trans fr2)
  cases a with
  | true =>
    rw [if_pos rfl] at q ⊢
    obtain ⟨N,hN,q⟩:=q
    refine ⟨fun σ' H'=>∃ ρ' ω',Rep F H' ω'∧RS (cut F H' ω') ρ' σ'∧Fr F H ω H' ω'∧N ρ' ω',?_,hb.run F H2 ω2 σ1 ρ1 _ _ rp2 rs2 q ⟨?_,k2.rt,k2.nx,?_⟩⟩
    · rintro σ' H' ⟨ρ',ω',e1,e2,e3,e4⟩
      obtain ⟨m',hm,z⟩:=hN _ _ e4
      exact ⟨m',hm,ρ',ω',e1,e2,e3,z⟩
    · exact fun ρ' ω' σ' H' e1 e2 e3 e4=>⟨ρ',ω',e1,e3,(fr1.trans fr2).trans e2,e4⟩
    · exact fun ρ' ω' σ' H' e1 e2 e3 e4=>⟨ρ',ω',e1,e3,(fr1.trans fr2).trans e2,e4⟩
  | false =>
    rw [if_neg Bool.false_ne_true] at q ⊢
    exact k2.nx ρ1 ω2 σ1 H2 rp2 .refl rs2 q⟩
end
def ItOk (G : Hp) (as : List AV) (J : It) : Prop:=∀ (F : Fs) (H : Hp) (ω : Om),Rep F H ω→Same G (cut F H ω)→J.stop as.length H ∧
  ∀ (i : Nat) (a : AV),as[i]? = some a→J.go i H∧∀ x H',J.yld i H x H'→Rep F H' ω∧Fr F H ω H' ω∧RV (cut F H' ω) a x
abbrev AI:=SA→Om→(List AV→Om→Prop)→Prop
abbrev RefI (t : TI) (t' : AI) : Prop:=Ref ItOk t t'
def aForL (g : AG) (tb : AS) (D : AEnds) : List AV→SA→Om→Prop
  | [],ρ,ω=>D.nx ρ ω
  | a :: as,ρ,ω=>g a ρ ω fun ρ1 ω1=>tb { nx:=aForL g tb D as,ct:=aForL g tb D as,bk:=D.nx,rt:=D.rt } ρ1 ω1
def aFor (wi : AI) (g : AG) (tb : AS) : AS:=fun D ρ ω=>wi ρ ω fun as ω1=>aForL g tb D as ρ ω1
theorem drop_cons {α : Type} {as : List α} {i : Nat} (h : i < as.length) : ∃ a,as[i]? = some a∧as.drop i = a :: as.drop (i + 1) :=
  ⟨as[i],List.getElem?_eq_getElem h,List.drop_eq_getElem_cons h⟩
theorem s_for {wi : TI} {wi' : AI} {g : TG} {g' : AG} {t : TS} {t' : AS} (hi : RefI wi wi') (hg : RefG g g') (hb : RefS t t') : RefS (tFor wi g t) (aFor wi' g' t'):=⟨fun F H ω σ ρ D D' rp rs w k=>by
  rw [tFor_eq]
  refine hi.go rp rs w fun as ω1 J H1 rp1 fr1 rs1 it q=>?_
  refine ⟨fun i m σ2 H2=>m + i = as.length∧∃ ρ2 ω2,Rep F H2 ω2∧RS (cut F H2 ω2) ρ2 σ2∧Fr F H1 ω1 H2 ω2∧aForL g' t' D' (as.drop i) ρ2 ω2,⟨as.length,rfl,ρ,ω1,rp1,rs1,.refl,q⟩,?_⟩
  rintro i m σ2 H2 ⟨hm,ρ2,ω2,rp2,rs2,fr2,q2⟩
  obtain ⟨stop,go⟩:=it F H2 ω2 rp2 fr2.same
  by_cases hl : i < as.length
  · obtain ⟨a,ha,hd⟩:=drop_cons hl
    rw [hd] at q2
    obtain ⟨g1,y1⟩:=go i a ha
    refine .inr ⟨g1,fun σ' H'=>m - 1 + (i + 1) = as.length∧∃ ρ' ω',Rep F H' ω'∧RS (cut F H' ω') ρ' σ'∧Fr F H1 ω1 H' ω'∧aForL g' t' D' (as.drop (i + 1)) ρ' ω',fun σ' H' z=>⟨m - 1,by omega,z⟩,fun x H' hy=>?_⟩
    obtain ⟨rp3,fr3,rv3⟩:=y1 x H' hy
    have fr13:=(fr2.trans fr3)
    refine hg.run F H' ω2 σ2 ρ2 x a _ _ rp3 (rs2.same fr3.same) rv3 q2 fun ρ4 ω4 σ4 H4 rp4 fr4 rs4 q4=>?_
    have k4:=k.fr ((fr1.trans fr13).trans fr4)
    refine hb.run F H4 ω4 σ4 ρ4 _ _ rp4 rs4 q4 ⟨?_,k4.rt,k4.nx,?_⟩
    · exact fun ρ' ω' σ' H'' e1 e2 e3 e4=>⟨by omega,ρ',ω',e1,e3,(fr13.trans fr4).trans e2,e4⟩
    · exact fun ρ' ω' σ' H'' e1 e2 e3 e4=>⟨by omega,ρ',ω',e1,e3,(fr13.trans fr4).trans e2,e4⟩
  · have hi : i = as.length:=by omega
    subst hi
    rw [List.drop_length] at q2
    exact .inl ⟨stop,k.nx ρ2 ω2 σ2 H2 rp2 (fr1.trans fr2) rs2 q2⟩⟩
abbrev AL:=List AV→SA→Om→(List AV→SA→Om→Prop)→Prop
structure Fa (l : Addr) (F : Fs) (H : Hp) (ω : Om) (H' : Hp) (ω' : Om) : Prop where
  st : ∀ b o,ow (ω b) = false→F b = false→H b = some o→H' b = some o∧ow (ω' b) = false
  hd : ∀ b,F b = true→b≠l→H' b = H b
theorem Fr.fa {l : Addr} {F : Fs} {H H' : Hp} {ω ω' : Om} (h : Fr F H ω H' ω') : Fa l F H ω H' ω':=⟨h.st,fun b f _=>h.hd b f⟩
theorem Fa.trans {l : Addr} {F : Fs} {H H1 H2 : Hp} {ω ω1 ω2 : Om} (a : Fa l F H ω H1 ω1) (b : Fa l F H1 ω1 H2 ω2) : Fa l F H ω H2 ω2 :=
  ⟨fun c o h f e=>let ⟨x,y⟩:=a.st c o h f e;b.st c o y f x,fun c h n=>(b.hd c h n).trans (a.hd c h n)⟩
theorem Fa.same {l : Addr} {F : Fs} {H H' : Hp} {ω ω' : Om} (a : Fa l F H ω H' ω') : Same (cut F H ω) (cut F H' ω'):=fun b o e=>by
  obtain ⟨h,f,e⟩:=cut_some.mp e
  obtain ⟨x,y⟩:=a.st b o h f e
  exact cut_some.mpr ⟨y,f,x⟩
def LL (l : Addr) (F : Fs) (H : Hp) (ω : Om) (K' : List AV→SA→Om→Prop) (K : St→Hp→Prop) : Prop :=
  ∀ xs vs ρ ω' σ H',Rep F H' ω'→Fa l F H ω H' ω'→RS (cut F H' ω') ρ σ→H' l = some (.lst vs)→RVs (cut F H' ω') xs vs→K' xs ρ ω'→K σ H'
theorem LL.fa {l : Addr} {F : Fs} {H H1 : Hp} {ω ω1 : Om} {K' : List AV→SA→Om→Prop} {K : St→Hp→Prop} (k : LL l F H ω K' K) (f : Fa l F H ω H1 ω1) : LL l F H1 ω1 K' K :=
  fun xs vs ρ ω' σ H' e1 e2 e3 e4 e5 e6=>k xs vs ρ ω' σ H' e1 (f.trans e2) e3 e4 e5 e6
structure RefL (l : TL) (l' : AL) : Prop where
  run : ∀ (F : Fs) (H : Hp) (ω : Om) (σ : St) (ρ : SA) (acc : Addr) (vs : List V) (xs : List AV) (K : St→Hp→Prop) (K' : List AV→SA→Om→Prop),Rep F H ω→RS (cut F H ω) ρ σ→F acc = true→H acc = some (.lst vs)→RVs (cut F H ω) xs vs →
    l' xs ρ ω K'→LL acc F H ω K' K→l acc σ H K
def aNoTest : AT:=fun _ ω Q=>Q true ω
def aLast (te : AE) : AL:=fun xs ρ ω K=>te ρ ω fun y ω1=>xs.length < sizeLine∧K (xs ++ [y]) ρ ω1
def aLoop (g : AG) (tc : AT) (l : AL) : List AV→AL
  | [],xs,ρ,ω,K=>K xs ρ ω
  | a :: as,xs,ρ,ω,K=>g a ρ ω fun ρ1 ω1=>tc ρ1 ω1 fun b ω2=>if b = true then l xs ρ1 ω2 (fun xs' ρ' ω'=>aLoop g tc l as xs' ρ' ω' K) else aLoop g tc l as xs ρ1 ω2 K
def aLFor (wi : AI) (g : AG) (tc : AT) (l : AL) : AL:=fun xs ρ ω K=>wi ρ ω fun as ω1=>aLoop g tc l as xs ρ ω1 K
def blkA (src : List (Option Nat)) (ρ : SA) : SA:=src.map fun o=>match o with | none=>none | some j=>(ρ[j]?).join
def und : List AV→Option (List D)
  | []=>some []
  | .d x :: r=>(und r).map (x :: ·)
  | _=>none
theorem und_map : ∀ ds : List D,und (ds.map AV.d) = some ds
  | []=>rfl
  | d :: ds=>by simp [und,und_map ds]
theorem und_some : ∀ {xs : List AV} {ds : List D},und xs = some ds→xs = ds.map AV.d
  | [],ds,h=>by cases h;rfl
  | .d x :: r,ds,h=>by
    simp only [und,Option.map_eq_some_iff] at h
    obtain ⟨es,e1,rfl⟩:=h
    rw [und_some e1];rfl
  | .r _ :: _,_,h=>by simp [und] at h
  | .p _ _ :: _,_,h=>by simp [und] at h
def aComp (src : List (Option Nat)) (wi : AI) (g : AG) (tc : AT) (l : AL) : AE:=fun ρ ω Q=>wi ρ ω fun as ω1=>aLoop g tc l as [] (blkA src ρ) ω1 fun xs _ ω'=>∃ ds,und xs = some ds∧Q (.d (.lst ds)) ω'
section
variable {te : TE} {te' : AE} {tc : TT} {tc' : AT} {g : TG} {g' : AG} {wi : TI} {wi' : AI} {l : TL} {l' : AL} {src : List (Option Nat)}
theorem t_no : RefT tNoTest aNoTest:=⟨fun F H ω σ ρ Q Q' rp rs w k=>k true ω true H rp .refl rfl w⟩
theorem l_last (h : RefE te te') : RefL (lLast te) (aLast te'):=⟨fun F H ω σ ρ acc vs xs K K' rp rs fa ha rx w k=>by
  refine h.go rp rs w fun y ω1 v H1 rp1 fr1 rs1 rv q=>?_
  obtain ⟨q1,q2⟩:=q
  have ha1 : H1 acc = some (.lst vs):=(fr1.hd acc fa).trans ha
  obtain ⟨rp2,c2⟩:=rp1.hwrite (vs:=vs ++ [v]) fa
  refine ⟨vs,ha1,by rw [rx.length];exact q1,k (xs ++ [y]) (vs ++ [v]) ρ ω1 σ _ rp2 ?_ ?_ upd_same ?_ q2⟩
  · refine fr1.fa.trans ⟨fun b o e1 e2 e3=>⟨?_,e1⟩,fun b f n=>upd_ne n⟩
    have hb : b≠acc:=fun z=>by subst z;rw [fa] at e2;cases e2
    rw [upd_ne hb];exact e3
  · rw [c2];exact rs1
  · rw [c2];exact (rx.same fr1.same).append (.one rv)⟩
theorem l_loop (hg : RefG g g') (hc : RefT tc tc') (hl : RefL l l') {G : Hp} {as : List AV} {J : It} (it : ItOk G as J) {F : Fs} {H : Hp} {ω : Om} {σ : St} {ρ : SA} {acc : Addr} {vs : List V} {xs : List AV} {K : St→Hp→Prop} {K' : List AV→SA→Om→Prop}
    (rp : Rep F H ω) (rs : RS (cut F H ω) ρ σ) (fa : F acc = true) (ha : H acc = some (.lst vs)) (rx : RVs (cut F H ω) xs vs) (sG : Same G (cut F H ω)) (w : aLoop g' tc' l' as xs ρ ω K') (k : LL acc F H ω K' K) : lLoop J g tc l acc σ H K:=by
  refine ⟨fun i m σ2 H2=>m + i = as.length∧∃ ρ2 ω2 vs2 xs2,Rep F H2 ω2∧RS (cut F H2 ω2) ρ2 σ2∧Fa acc F H ω H2 ω2∧H2 acc = some (.lst vs2)∧RVs (cut F H2 ω2) xs2 vs2∧aLoop g' tc' l' (as.drop i) xs2 ρ2 ω2 K',
    ⟨as.length,rfl,ρ,ω,vs,xs,rp,rs,Fr.refl.fa,ha,rx,w⟩,?_⟩
  rintro i m σ2 H2 ⟨hm,ρ2,ω2,vs2,xs2,rp2,rs2,fr2,ha2,rx2,q2⟩
  obtain ⟨stop,go⟩:=it F H2 ω2 rp2 (sG.trans fr2.same)
  by_cases hl' : i < as.length
  · obtain ⟨a,hai,hd⟩:=drop_cons hl'
    rw [hd] at q2
    obtain ⟨g1,y1⟩:=go i a hai
    refine .inr ⟨g1,fun x H' hy=>?_⟩
    obtain ⟨rp3,fr3,rv3⟩:=y1 x H' hy
    refine hg.run F H' ω2 σ2 ρ2 x a _ _ rp3 (rs2.same fr3.same) rv3 q2 fun ρ4 ω4 σ4 H4 rp4 fr4 rs4 q4=>?_
    refine hc.go rp4 rs4 q4 fun b ω5 b' H5 rp5 fr5 rs5 rb q5=>?_
    cases (show b = b' from rb)
    have fr25 : Fr F H2 ω2 H5 ω5:=(fr3.trans fr4).trans fr5
    have ha5 : H5 acc = some (.lst vs2):=(fr25.hd acc fa).trans ha2
    have rx5:=rx2.same fr25.same
    cases b with
    | true =>
      rw [if_pos rfl] at q5 ⊢
      refine hl.run F H5 ω5 σ4 ρ4 acc vs2 xs2 _ _ rp5 rs5 fa ha5 rx5 q5 fun xs6 vs6 ρ6 ω6 σ6 H6 e1 e2 e3 e4 e5 e6=>?_
      exact ⟨m - 1,by omega,by omega,ρ6,ω6,vs6,xs6,e1,e3,(fr2.trans fr25.fa).trans e2,e4,e5,e6⟩
    | false =>
      rw [if_neg Bool.false_ne_true] at q5 ⊢
      exact ⟨m - 1,by omega,by omega,ρ4,ω5,vs2,xs2,rp5,rs5,fr2.trans fr25.fa,ha5,rx5,q5⟩
  · have hi : i = as.length:=by omega
    subst hi
    rw [List.drop_length] at q2
    exact .inl ⟨stop,k xs2 vs2 ρ2 ω2 σ2 H2 rp2 fr2 rs2 ha2 rx2 q2⟩
theorem l_for (hi : RefI wi wi') (hg : RefG g g') (hc : RefT tc tc') (hl : RefL l l') : RefL (lFor wi g tc l) (aLFor wi' g' tc' l'):=⟨fun F H ω σ ρ acc vs xs K K' rp rs fa ha rx w k =>
  hi.go rp rs w fun as ω1 J H1 rp1 fr1 rs1 it q=>l_loop hg hc hl it rp1 rs1 fa ((fr1.hd acc fa).trans ha) (rx.same fr1.same) (Same.refl _) q (k.fa fr1.fa)⟩
theorem RS.blk {G : Hp} {ρ : SA} {σ : St} (h : RS G ρ σ) : RS G (blkA src ρ) (blkSt src σ):=by
  refine ⟨by simp [blkA,blkSt],fun i a e=>?_⟩
  unfold blkA at e
  unfold blkSt
  rw [List.getElem?_map] at e ⊢
  cases q : src[i]? with
  | none=>rw [q] at e;simp at e
  | some o =>
    rw [q] at e
    cases o with
    | none=>simp at e
    | some j =>
      simp only [Option.map_some,Option.some.injEq] at e ⊢
      have e' : ρ[j]? = some (some a):=by
        cases z : ρ[j]? with
        | none=>rw [z] at e;simp at e
        | some y=>rw [z] at e;simp at e;rw [e]
      obtain ⟨v,e1,e2⟩:=h.2 j a e'
      exact ⟨v,by rw [e1];rfl,e2⟩
theorem comp_at (hi : RefI wi wi') (hg : RefG g g') (hc : RefT tc tc') (hl : RefL l l') {F : Fs} {H : Hp} {ω : Om} {σ : St} {ρ : SA} {Q : VK} {K' : List AV→SA→Om→Prop} (rp : Rep F H ω) (rs : RS (cut F H ω) ρ σ)
    (w : wi' ρ ω fun as ω1=>aLoop g' tc' l' as [] (blkA src ρ) ω1 K')
    (k : ∀ p xs vs ρ' ω' H',F p = false→(∀ b o,ow (ω b) = false→F b = false→H b = some o→b≠p)→Rep (F.add p) H' ω'→Fr F H ω H' ω'→H' p = some (.lst vs)→RVs (cut (F.add p) H' ω') xs vs→K' xs ρ' ω'→Q (.ref p) H') : tComp src wi g tc l σ H Q:=by
  refine hi.go rp rs w fun as ω1 J H1 rp1 fr1 rs1 it q=>fun acc hacc=>?_
  obtain ⟨rp2,c2⟩:=rp1.hide (vs:=[]) hacc
  obtain ⟨f1,f2⟩:=rp1.free hacc
  have hb1 : ∀ b,b≠acc→F b = false→(F.add acc) b = false:=fun b h f=>by simp [Fs.add,h,f]
  have hne : ∀ b o,ow (ω b) = false→F b = false→H b = some o→b≠acc:=fun b o h f e=>ne_of_none (fr1.st b o h f e).1 hacc
  refine l_loop (xs:=[]) hg hc hl it rp2 (by rw [c2];exact rs1.blk) (by simp [Fs.add]) upd_same rfl (by rw [c2];exact Same.refl _) q fun xs vs ρ' ω' σ' H' e1 e2 e3 e4 e5 e6=>?_
  refine k acc xs vs ρ' ω' H' f2 hne e1 ⟨fun b o h f e=>?_,fun b f=>?_⟩ e4 e5 e6
  · obtain ⟨x,y⟩:=fr1.st b o h f e
    have hb:=hne b o h f e
    exact e2.st b o y (hb1 b hb f) (by rw [upd_ne hb];exact x)
  · have hb : b≠acc:=fun z=>by subst z;rw [f] at f2;cases f2
    rw [e2.hd b (by simp [Fs.add,f]) hb,upd_ne hb,fr1.hd b f]
theorem e_comp (hi : RefI wi wi') (hg : RefG g g') (hc : RefT tc tc') (hl : RefL l l') : RefE (tComp src wi g tc l) (aComp src wi' g' tc' l'):=⟨fun F H ω σ ρ Q Q' rp rs w k=>by
  refine comp_at hi hg hc hl rp rs w fun p xs vs ρ' ω' H' f hne rp1 fr1 e1 e2 q=>?_
  obtain ⟨ds,hu,q⟩:=q
  cases und_some hu
  obtain ⟨rp2,sm,hp⟩:=rp1.unhide f e1
  refine k (.d (.lst ds)) ω' _ H' rp2 fr1 ?_ q
  simp only [RV,Dat]
  exact ⟨p,vs,rfl,hp,RVs.dats.mp (e2.same sm)⟩⟩
end
def datA (ω : Om) : AV→Option D
  | .d x=>some x
  | .r (.ref l)=>match ω l with
    | some (.own xs)=>(und xs).map D.lst
    | some (.frz ds)=>some (.lst ds)
    | _=>none
  | _=>none
def lstA (ω : Om) : AV→Option (List AV)
  | .d (.lst ds)=>some (ds.map AV.d)
  | .r (.ref l)=>match ω l with
    | some (.own xs)=>some xs
    | some (.frz ds)=>some (ds.map AV.d)
    | _=>none
  | _=>none
def tupA : AV→Option (List AV)
  | .d (.tup ds)=>some (ds.map AV.d)
  | _=>none
def frzA (ω : Om) (x : AV) (K : D→Om→Prop) : Prop:=match x with
  | .d x=>K x ω
  | .r (.ref l)=>match ω l with
    | some (.own xs)=>∃ ds,und xs = some ds∧K (.lst ds) (ω.put l (.frz ds))
    | some (.frz ds)=>K (.lst ds) ω
    | _=>False
  | _=>False
section
variable {F : Fs} {H : Hp} {ω : Om} {x : AV} {v : V}
theorem lst_of (rp : Rep F H ω) (rv : RV (cut F H ω) x v) {xs : List AV} (h : lstA ω x = some xs) : ∃ a vs,v = .ref a∧H a = some (.lst vs)∧RVs (cut F H ω) xs vs:=by
  cases x with
  | d x=>cases x with
    | lst ds =>
      simp only [lstA,Option.some.injEq] at h
      subst h
      simp only [RV,Dat] at rv
      obtain ⟨a,vs,rfl,e1,e2⟩:=rv
      exact ⟨a,vs,rfl,cut_same _ _ e1,RVs.dats.mpr e2⟩
    | _=>simp [lstA] at h
  | p u P=>simp [lstA] at h
  | r u =>
    cases (show v = u from rv)
    cases v with
    | ref l =>
      simp only [lstA] at h
      cases e : ω l with
      | none=>rw [e] at h;simp at h
      | some c =>
        rw [e] at h
        cases c with
        | own ys =>
          simp only [Option.some.injEq] at h
          subst h
          obtain ⟨vs,e1,e2⟩:=rp.own l _ e
          exact ⟨l,vs,rfl,e1,e2⟩
        | frz ds =>
          simp only [Option.some.injEq] at h
          subst h
          have q:=rp.frz l ds e
          simp only [Dat] at q
          obtain ⟨a,vs,e1,e2,e3⟩:=q
          cases e1
          exact ⟨l,vs,rfl,cut_same _ _ e2,RVs.dats.mpr e3⟩
        | dic ks=>simp at h
    | _=>simp [lstA] at h
theorem tup_of (rv : RV (cut F H ω) x v) {xs : List AV} (h : tupA x = some xs) : ∃ a vs,v = .ref a∧cut F H ω a = some (.tup vs)∧RVs (cut F H ω) xs vs:=by
  cases x with
  | d x=>cases x with
    | tup ds =>
      simp only [tupA,Option.some.injEq] at h
      subst h
      simp only [RV,Dat] at rv
      obtain ⟨a,vs,rfl,e1,e2⟩:=rv
      exact ⟨a,vs,rfl,e1,RVs.dats.mpr e2⟩
    | _=>simp [tupA] at h
  | p u P=>simp [tupA] at h
  | r u=>simp [tupA] at h
theorem dat_of (rp : Rep F H ω) (rv : RV (cut F H ω) x v) {d : D} (h : datA ω x = some d) : Dat H d v:=by
  cases x with
  | d x =>
    simp only [datA,Option.some.injEq] at h
    subst h
    exact Dat.same cut_same rv
  | p u P=>simp [datA] at h
  | r u =>
    cases (show v = u from rv)
    cases v with
    | ref l =>
      simp only [datA] at h
      cases e : ω l with
      | none=>rw [e] at h;simp at h
      | some c =>
        rw [e] at h
        cases c with
        | own ys =>
          simp only [Option.map_eq_some_iff] at h
          obtain ⟨ds,h1,rfl⟩:=h
          cases und_some h1
          obtain ⟨vs,e1,e2⟩:=rp.own l _ e
          simp only [Dat]
          exact ⟨l,vs,rfl,e1,(RVs.dats.mp e2).same cut_same⟩
        | frz ds =>
          simp only [Option.some.injEq] at h
          subst h
          exact (rp.frz l ds e).same cut_same
        | dic ks=>simp at h
    | _=>simp [datA] at h
theorem dats_of (rp : Rep F H ω) (rv : RV (cut F H ω) x v) {ds : List D} (h : datA ω x = some (.lst ds)) : ∃ a vs,v = .ref a∧H a = some (.lst vs)∧Dats (cut F H ω) ds vs:=by
  have : lstA ω x = some (ds.map AV.d):=by
    cases x with
    | d x=>simp only [datA,Option.some.injEq] at h;subst h;rfl
    | p u P=>simp [datA] at h
    | r u=>cases u with
      | ref l =>
        simp only [datA] at h
        simp only [lstA]
        cases e : ω l with
        | none=>rw [e] at h;simp at h
        | some c =>
          rw [e] at h
          cases c with
          | own ys =>
            simp only [Option.map_eq_some_iff] at h
            obtain ⟨es,h1,h2⟩:=h
            cases h2
            rw [und_some h1]
          | frz es=>simp only [Option.some.injEq] at h;cases h;rfl
          | dic ks=>simp at h
      | _=>simp [datA] at h
  obtain ⟨a,vs,e1,e2,e3⟩:=lst_of rp rv this
  exact ⟨a,vs,e1,e2,RVs.dats.mp e3⟩
theorem frz_of (rp : Rep F H ω) (rv : RV (cut F H ω) x v) {K : D→Om→Prop} (h : frzA ω x K) : ∃ d ω',Rep F H ω'∧Fr F H ω H ω'∧Dat (cut F H ω') d v∧K d ω':=by
  cases x with
  | d x=>exact ⟨x,ω,rp,.refl,rv,h⟩
  | p u P=>exact h.elim
  | r u =>
    cases (show v = u from rv)
    cases v with
    | ref l =>
      simp only [frzA] at h
      cases e : ω l with
      | none=>rw [e] at h;exact h.elim
      | some c =>
        rw [e] at h
        cases c with
        | own ys =>
          obtain ⟨ds,h1,h2⟩:=h
          cases und_some h1
          obtain ⟨q1,q2,q3⟩:=rp.freeze e
          exact ⟨_,_,q1,q2,q3,h2⟩
        | frz ds=>exact ⟨_,_,rp,.refl,rp.frz l ds e,h⟩
        | dic ks=>exact h.elim
    | _=>exact h.elim
end
abbrev A2:=AV→AV→Om→(AV→Om→Prop)→Prop
structure Ref2 (r : R2) (r' : A2) : Prop where
  run : ∀ (F : Fs) (H : Hp) (ω : Om) (v u : V) (x y : AV) (Q : VK) (Q' : AV→Om→Prop),Rep F H ω→RV (cut F H ω) x v→RV (cut F H ω) y u→r' x y ω Q'→LP RV F H ω Q' Q→r v u H Q
structure Ref1 (r : V→Hp→VK→Prop) (r' : AV→Om→(AV→Om→Prop)→Prop) : Prop where
  run : ∀ (F : Fs) (H : Hp) (ω : Om) (v : V) (x : AV) (Q : VK) (Q' : AV→Om→Prop),Rep F H ω→RV (cut F H ω) x v→r' x ω Q'→LP RV F H ω Q' Q→r v H Q
structure RefC (r : List V→Hp→VK→Prop) (r' : List AV→Om→(AV→Om→Prop)→Prop) : Prop where
  run : ∀ (F : Fs) (H : Hp) (ω : Om) (vs : List V) (xs : List AV) (Q : VK) (Q' : AV→Om→Prop),Rep F H ω→RVs (cut F H ω) xs vs→r' xs ω Q'→LP RV F H ω Q' Q→r vs H Q
def aVar (i : Nat) : AE:=fun ρ ω Q=>∃ a,ρ[i]? = some (some a)∧Q a ω
def aVarF (i : Nat) : AE:=fun ρ ω Q=>∃ a,ρ[i]? = some (some a)∧frzA ω a fun d ω'=>Q (.d d) ω'
def aC (d : D) : AE:=fun _ ω Q=>Q (.d d) ω
def aOp (r : A2) (ta tb : AE) : AE:=fun ρ ω Q=>ta ρ ω fun x ω1=>tb ρ ω1 fun y ω2=>r x y ω2 Q
def aUn (r : AV→Om→(AV→Om→Prop)→Prop) (ta : AE) : AE:=fun ρ ω Q=>ta ρ ω fun x ω1=>r x ω1 Q
def aNil : AA:=fun _ ω Q=>Q [] ω
def aCons (ta : AE) (tr : AA) : AA:=fun ρ ω Q=>ta ρ ω fun x ω1=>tr ρ ω1 fun xs ω2=>Q (x :: xs) ω2
def aTup (t : AA) : AE:=fun ρ ω Q=>t ρ ω fun xs ω1=>xs.length≤sizeLine∧∃ ds,und xs = some ds∧Q (.d (.tup ds)) ω1
def aLst (t : AA) : AE:=fun ρ ω Q=>t ρ ω fun xs ω1=>xs.length≤sizeLine∧∃ ds,und xs = some ds∧Q (.d (.lst ds)) ω1
def aLstO (t : AA) : AE:=fun ρ ω Q=>t ρ ω fun xs ω1=>xs.length≤sizeLine∧∀ p,ω1 p = none→Q (.r (.ref p)) (ω1.put p (.own xs))
def aCall (sp : ASp) (t : AA) : AE:=fun ρ ω Q=>t ρ ω fun xs ω1=>sp xs ω1 Q
def aCB (r : List AV→Om→(AV→Om→Prop)→Prop) (t : AA) : AE:=fun ρ ω Q=>t ρ ω fun xs ω1=>r xs ω1 Q
def aTest (t : AE) : AT:=fun ρ ω Q=>t ρ ω fun x ω1=>∃ k,x = .d (.bl k)∧Q k ω1
def aAnd (t u : AT) : AT:=fun ρ ω Q=>t ρ ω fun c ω1=>if c = true then u ρ ω1 Q else Q false ω1
def aOr (t u : AT) : AT:=fun ρ ω Q=>t ρ ω fun c ω1=>if c = true then Q true ω1 else u ρ ω1 Q
def aNot (t : AT) : AT:=fun ρ ω Q=>t ρ ω fun c ω1=>Q (!c) ω1
def aIf (t : AT) (ta tb : AE) : AE:=fun ρ ω Q=>t ρ ω fun c ω1=>if c = true then ta ρ ω1 Q else tb ρ ω1 Q
section
variable {ta tb tc : TE} {ta' tb' tc' : AE} {t u : TT} {t' u' : AT} {r r2 : R2} {r' r2' : A2} {s : TA} {s' : AA}
theorem e_var {i : Nat} : RefE (tVar i) (aVar i):=⟨fun F H ω σ ρ Q Q' rp rs h k=>by
  obtain ⟨a,e,q⟩:=h
  obtain ⟨v,e1,e2⟩:=rs.2 i a e
  exact ⟨v,e1,k a ω v H rp .refl e2 q⟩⟩
theorem e_varF {i : Nat} : RefE (tVar i) (aVarF i):=⟨fun F H ω σ ρ Q Q' rp rs h k=>by
  obtain ⟨a,e,q⟩:=h
  obtain ⟨v,e1,e2⟩:=rs.2 i a e
  obtain ⟨d,ω',q1,q2,q3,q4⟩:=frz_of rp e2 q
  exact ⟨v,e1,k (.d d) ω' v H q1 q2 q3 q4⟩⟩
theorem e_int {i : Int} : RefE (tC (.int i)) (aC (.int i)):=⟨fun F H ω σ ρ Q Q' rp rs h k=>k _ ω _ H rp .refl (by simp [RV,Dat]) h⟩
theorem e_str {x : Str} : RefE (tC (.str x)) (aC (.str x)):=⟨fun F H ω σ ρ Q Q' rp rs h k=>k _ ω _ H rp .refl (by simp [RV,Dat]) h⟩
theorem e_bl {b : Bool} : RefE (tC (.bl b)) (aC (.bl b)):=⟨fun F H ω σ ρ Q Q' rp rs h k=>k _ ω _ H rp .refl (by simp [RV,Dat]) h⟩
theorem e_non : RefE (tC .non) (aC .non):=⟨fun F H ω σ ρ Q Q' rp rs h k=>k _ ω _ H rp .refl (by simp [RV,Dat]) h⟩
theorem e_op (h2 : Ref2 r r') (ha : RefE ta ta') (hb : RefE tb tb') : RefE (tOp r ta tb) (aOp r' ta' tb'):=⟨fun F H ω σ ρ Q Q' rp rs h k =>
  ha.go rp rs h fun x ω1 v H1 rp1 fr1 rs1 rv1 q1=>hb.go rp1 rs1 q1 fun y ω2 u H2 rp2 fr2 rs2 rv2 q2=>h2.run F H2 ω2 v u x y Q Q' rp2 (rv1.same fr2.same) rv2 q2 (k.fr (fr1.trans fr2))⟩
theorem e_un {r : V→Hp→VK→Prop} {r' : AV→Om→(AV→Om→Prop)→Prop} (h2 : Ref1 r r') (ha : RefE ta ta') : RefE (tUn r ta) (aUn r' ta'):=⟨fun F H ω σ ρ Q Q' rp rs h k =>
  ha.go rp rs h fun x ω1 v H1 rp1 fr1 rs1 rv1 q1=>h2.run F H1 ω1 v x Q Q' rp1 rv1 q1 (k.fr fr1)⟩
theorem a_nil : RefA tNil aNil:=⟨fun F H ω σ ρ Q Q' rp rs h k=>k [] ω _ H rp .refl rfl h⟩
theorem a_cons (ha : RefE ta ta') (hs : RefA s s') : RefA (tCons ta s) (aCons ta' s'):=⟨fun F H ω σ ρ Q Q' rp rs h k =>
  ha.go rp rs h fun x ω1 v H1 rp1 fr1 rs1 rv1 q1=>hs.go rp1 rs1 q1 fun y ω2 u H2 rp2 fr2 rs2 rv2 q2=>k (x :: y) ω2 (v :: u) H2 rp2 (fr1.trans fr2) ⟨v,u,rfl,rv1.same fr2.same,rv2⟩ q2⟩
theorem e_tup (hs : RefA s s') : RefE (tTup s) (aTup s'):=⟨fun F H ω σ ρ Q Q' rp rs h k =>
  hs.go rp rs h fun xs ω1 vs H1 rp1 fr1 rs1 rv1 ⟨z,ds,hu,q1⟩=>⟨by rw [rv1.length];exact z,fun p hp=>by
    cases und_some hu
    obtain ⟨rp2,fr2,hc⟩:=rp1.lay (o:=.tup vs) hp
    refine k _ ω1 _ _ rp2 (fr1.trans fr2) ?_ q1
    simp only [RV,Dat]
    exact ⟨p,vs,rfl,hc,(RVs.dats.mp rv1).same fr2.same⟩⟩⟩
theorem e_lst (hs : RefA s s') : RefE (tLst s) (aLst s'):=⟨fun F H ω σ ρ Q Q' rp rs h k =>
  hs.go rp rs h fun xs ω1 vs H1 rp1 fr1 rs1 rv1 ⟨z,ds,hu,q1⟩=>⟨by rw [rv1.length];exact z,fun p hp=>by
    cases und_some hu
    obtain ⟨rp2,fr2,hc⟩:=rp1.lay (o:=.lst vs) hp
    refine k _ ω1 _ _ rp2 (fr1.trans fr2) ?_ q1
    simp only [RV,Dat]
    exact ⟨p,vs,rfl,hc,(RVs.dats.mp rv1).same fr2.same⟩⟩⟩
theorem e_lstO (hs : RefA s s') : RefE (tLst s) (aLstO s'):=⟨fun F H ω σ ρ Q Q' rp rs h k =>
  hs.go rp rs h fun xs ω1 vs H1 rp1 fr1 rs1 rv1 ⟨z,q1⟩=>⟨by rw [rv1.length];exact z,fun p hp=>by
    obtain ⟨rp2,fr2⟩:=rp1.mk' (vs:=vs) hp rv1
    exact k (.r (.ref p)) _ _ _ rp2 (fr1.trans fr2) rfl (q1 p (rp1.free hp).1)⟩⟩
theorem e_call {sp : ASp} {E : XK} (hs : RefA s s') : RefE (tCall (lift sp) [] E s) (aCall sp s'):=⟨fun F H ω σ ρ Q Q' rp rs h k =>
  hs.go rp rs h fun xs ω1 vs H1 rp1 fr1 rs1 rv1 q=>⟨F,xs,ω1,Q',rp1,by rw [List.append_nil];exact rv1,q,k.fr fr1⟩⟩
theorem e_cb {r : List V→Hp→VK→Prop} {r' : List AV→Om→(AV→Om→Prop)→Prop} (hr : RefC r r') (hs : RefA s s') : RefE (tCB r s) (aCB r' s'):=⟨fun F H ω σ ρ Q Q' rp rs h k =>
  hs.go rp rs h fun xs ω1 vs H1 rp1 fr1 rs1 rv1 q=>hr.run F H1 ω1 vs xs Q Q' rp1 rv1 q (k.fr fr1)⟩
theorem t_test (ha : RefE ta ta') : RefT (tTest ta) (aTest ta'):=⟨fun F H ω σ ρ Q Q' rp rs h k =>
  ha.go rp rs h fun x ω1 v H1 rp1 fr1 rs1 rv1 ⟨c,e,q⟩=>by subst e;exact ⟨c,by simpa [RV,Dat] using rv1,k c ω1 c H1 rp1 fr1 rfl q⟩⟩
theorem t_and (h1 : RefT t t') (h2 : RefT u u') : RefT (tAnd t u) (aAnd t' u'):=⟨fun F H ω σ ρ Q Q' rp rs h k =>
  h1.go rp rs h fun c ω1 c' H1 rp1 fr1 rs1 rv1 q=>by
    cases (show c = c' from rv1)
    cases c with
    | true=>rw [if_pos rfl] at q ⊢;exact h2.run F H1 ω1 σ ρ Q Q' rp1 rs1 q (k.fr fr1)
    | false=>rw [if_neg Bool.false_ne_true] at q ⊢;exact k false ω1 false H1 rp1 fr1 rfl q⟩
theorem t_or (h1 : RefT t t') (h2 : RefT u u') : RefT (tOr t u) (aOr t' u'):=⟨fun F H ω σ ρ Q Q' rp rs h k =>
  h1.go rp rs h fun c ω1 c' H1 rp1 fr1 rs1 rv1 q=>by
    cases (show c = c' from rv1)
    cases c with
    | true=>rw [if_pos rfl] at q ⊢;exact k true ω1 true H1 rp1 fr1 rfl q
    | false=>rw [if_neg Bool.false_ne_true] at q ⊢;exact h2.run F H1 ω1 σ ρ Q Q' rp1 rs1 q (k.fr fr1)⟩
theorem t_not (h1 : RefT t t') : RefT (tNot t) (aNot t'):=⟨fun F H ω σ ρ Q Q' rp rs h k =>
  h1.go rp rs h fun c ω1 c' H1 rp1 fr1 rs1 rv1 q=>by
    cases (show c = c' from rv1)
    exact k _ ω1 _ H1 rp1 fr1 rfl q⟩
theorem rv_bl {G : Hp} {c : Bool} {v : V} (h : RV G (.d (.bl c)) v) : v = .bl c:=by simpa [RV,Dat] using h
theorem e_if (h1 : RefT t t') (ha : RefE ta ta') (hb : RefE tb tb') : RefE (tIf t ta tb) (aIf t' ta' tb'):=⟨fun F H ω σ ρ Q Q' rp rs h k =>
  h1.go rp rs h fun c ω1 c' H1 rp1 fr1 rs1 rv1 q=>by
    cases (show c = c' from rv1)
    cases c with
    | true=>rw [if_pos rfl] at q ⊢;exact ha.run F H1 ω1 σ ρ Q Q' rp1 rs1 q (k.fr fr1)
    | false=>rw [if_neg Bool.false_ne_true] at q ⊢;exact hb.run F H1 ω1 σ ρ Q Q' rp1 rs1 q (k.fr fr1)⟩
def truA (ω : Om) (x : AV) : Option Bool:=match x with
  | .d .non=>some false
  | .d (.bl b)=>some b
  | .d (.int i)=>some (i != 0)
  | .d (.tup ds)=>some (!ds.isEmpty)
  | x=>(lstA ω x).map fun xs=>!xs.isEmpty
def aTru (ta : AE) : AT:=fun ρ ω Q=>ta ρ ω fun x ω1=>∃ k,truA ω1 x = some k∧Q k ω1
theorem isEmpty_len {α β : Type} {xs : List α} {ys : List β} (h : xs.length = ys.length) : xs.isEmpty = ys.isEmpty:=by
  cases xs<;>cases ys<;>simp_all
theorem tru_of {K : PySem.W.Frag} {F : Fs} {H1 : Hp} {ω1 : Om} {x : AV} {v : V} {c : Bool} (rp1 : Rep F H1 ω1) (rv1 : RV (cut F H1 ω1) x v) (e : truA ω1 x = some c) : TruV K v H1 c:=by
    have ls : ∀ {xs : List AV},lstA ω1 x = some xs→c = (!xs.isEmpty)→TruV K v H1 c:=fun {xs} e1 e2=>by
      obtain ⟨a,vs,rfl,e3,e4⟩:=lst_of rp1 rv1 e1
      exact .inl ⟨vs,.inl (.inl e3),by rw [e2,isEmpty_len e4.length.symm]⟩
    cases x with
    | d x=>cases x with
      | non=>simp only [truA,Option.some.injEq] at e;simp only [RV,Dat] at rv1;subst rv1;exact e.symm
      | bl b=>simp only [truA,Option.some.injEq] at e;simp only [RV,Dat] at rv1;subst rv1;exact e.symm
      | int b=>simp only [truA,Option.some.injEq] at e;simp only [RV,Dat] at rv1;subst rv1;exact e.symm
      | str b=>simp [truA,lstA] at e
      | tup ds =>
        simp only [truA,Option.some.injEq] at e
        simp only [RV,Dat] at rv1
        obtain ⟨a,vs,rfl,e1,e2⟩:=rv1
        exact .inr (.inl ⟨vs,.inl (.inl (cut_same _ _ e1)),by rw [← e,isEmpty_len e2.length]⟩)
      | lst ds =>
        simp only [truA,Option.map_eq_some_iff] at e
        obtain ⟨xs,e1,e2⟩:=e
        exact ls e1 e2.symm
    | r u =>
      simp only [truA,Option.map_eq_some_iff] at e
      obtain ⟨xs,e1,e2⟩:=e
      exact ls e1 e2.symm
    | p u P=>simp [truA,lstA] at e
theorem t_tru {K : PySem.W.Frag} (ha : RefE ta ta') : RefT (fun σ H Q=>ta σ H fun x H'=>∃ k,TruV K x H' k∧Q k H') (aTru ta'):=⟨fun F H ω σ ρ Q Q' rp rs h k =>
  ha.go rp rs h fun x ω1 v H1 rp1 fr1 rs1 rv1 ⟨c,e,q⟩=>⟨c,tru_of rp1 rv1 e,k c ω1 c H1 rp1 fr1 rfl q⟩⟩
end
def aI0 (f : Int→Int→D) : A2:=fun x y ω Q=>∃ i j,x = .d (.int i)∧y = .d (.int j)∧Q (.d (f i j)) ω
def aI (C : Int→Int→Prop) (f : Int→Int→D) : A2:=fun x y ω Q=>∃ i j,x = .d (.int i)∧y = .d (.int j)∧C i j∧Q (.d (f i j)) ω
def aU (f : Int→D) : AV→Om→(AV→Om→Prop)→Prop:=fun x ω Q=>∃ i,x = .d (.int i)∧Q (.d (f i)) ω
section
variable {F : Fs} {H : Hp} {ω : Om} {Q : VK} {Q' : AV→Om→Prop}
theorem LP.int (k : LP RV F H ω Q' Q) (rp : Rep F H ω) {i : Int} (q : Q' (.d (.int i)) ω) : Q (.int i) H:=k (.d (.int i)) ω _ H rp .refl (by simp [RV,Dat]) q
theorem LP.bl (k : LP RV F H ω Q' Q) (rp : Rep F H ω) {i : Bool} (q : Q' (.d (.bl i)) ω) : Q (.bl i) H:=k (.d (.bl i)) ω _ H rp .refl (by simp [RV,Dat]) q
theorem LP.str (k : LP RV F H ω Q' Q) (rp : Rep F H ω) {i : Str} (q : Q' (.d (.str i)) ω) : Q (.str i) H:=k (.d (.str i)) ω _ H rp .refl (by simp [RV,Dat]) q
theorem rv_int {G : Hp} {i : Int} {v : V} (h : RV G (.d (.int i)) v) : v = .int i:=by simpa [RV,Dat] using h
theorem rv_str {G : Hp} {i : Str} {v : V} (h : RV G (.d (.str i)) v) : v = .str i:=by simpa [RV,Dat] using h
theorem rv_non {G : Hp} {v : V} (h : RV G (.d .non) v) : v = .non:=by simpa [RV,Dat] using h
theorem LP.tup (k : LP RV F H ω Q' Q) (rp : Rep F H ω) {ds : List D} {vs : List V} (hd : Dats (cut F H ω) ds vs) (q : Q' (.d (.tup ds)) ω) : ∀ p,H p = none→Q (.ref p) (upd H p (.tup vs)):=fun p hp=>by
  obtain ⟨rp2,fr2,hc⟩:=rp.lay (o:=.tup vs) hp
  refine k (.d (.tup ds)) ω _ _ rp2 fr2 ?_ q
  simp only [RV,Dat]
  exact ⟨p,vs,rfl,hc,hd.same fr2.same⟩
theorem LP.lst (k : LP RV F H ω Q' Q) (rp : Rep F H ω) {ds : List D} {vs : List V} (hd : Dats (cut F H ω) ds vs) (q : Q' (.d (.lst ds)) ω) : ∀ p,H p = none→Q (.ref p) (upd H p (.lst vs)):=fun p hp=>by
  obtain ⟨rp2,fr2,hc⟩:=rp.lay (o:=.lst vs) hp
  refine k (.d (.lst ds)) ω _ _ rp2 fr2 ?_ q
  simp only [RV,Dat]
  exact ⟨p,vs,rfl,hc,hd.same fr2.same⟩
theorem LP.own (k : LP RV F H ω Q' Q) (rp : Rep F H ω) {xs : List AV} {vs : List V} (hd : RVs (cut F H ω) xs vs) (q : ∀ p,ω p = none→Q' (.r (.ref p)) (ω.put p (.own xs))) : ∀ p,H p = none→Q (.ref p) (upd H p (.lst vs)):=fun p hp=>by
  obtain ⟨rp2,fr2⟩:=rp.mk' (vs:=vs) hp hd
  exact k (.r (.ref p)) _ _ _ rp2 fr2 rfl (q p (rp.free hp).1)
end
theorem o_I0i {f : Int→Int→Int} : Ref2 (rI0 fun i j=>.int (f i j)) (aI0 fun i j=>.int (f i j)):=⟨fun F H ω v u x y Q Q' rp h1 h2 ⟨i,j,e1,e2,q⟩ k=>by
  subst e1 e2;exact ⟨i,j,rv_int h1,rv_int h2,k.int rp q⟩⟩
theorem o_I0b {f : Int→Int→Bool} : Ref2 (rI0 fun i j=>.bl (f i j)) (aI0 fun i j=>.bl (f i j)):=⟨fun F H ω v u x y Q Q' rp h1 h2 ⟨i,j,e1,e2,q⟩ k=>by
  subst e1 e2;exact ⟨i,j,rv_int h1,rv_int h2,k.bl rp q⟩⟩
theorem o_Ii {C : Int→Int→Prop} {f : Int→Int→Int} : Ref2 (rI C fun i j=>.int (f i j)) (aI C fun i j=>.int (f i j)):=⟨fun F H ω v u x y Q Q' rp h1 h2 ⟨i,j,e1,e2,c,q⟩ k=>by
  subst e1 e2;exact ⟨i,j,rv_int h1,rv_int h2,c,k.int rp q⟩⟩
theorem u_i {f : Int→Int} : Ref1 (rU fun i=>.int (f i)) (aU fun i=>.int (f i)):=⟨fun F H ω v x Q Q' rp h1 ⟨i,e1,q⟩ k=>by
  subst e1;exact ⟨i,rv_int h1,k.int rp q⟩⟩
def aEqD (neg : Bool) : A2:=fun x y ω Q=>∃ a b,datA ω x = some a∧datA ω y = some b∧dep a≤100∧Q (.d (.bl (if neg then !eqD a b else eqD a b))) ω
theorem o_eqD {neg : Bool} : Ref2 (rEqD neg) (aEqD neg):=⟨fun F H ω v u x y Q Q' rp h1 h2 ⟨a,b,e1,e2,s,q⟩ k=>⟨a,b,dat_of rp h1 e1,dat_of rp h2 e2,s,k.bl rp q⟩⟩
def aIn (neg : Bool) : A2:=fun x y ω Q=>∃ a b ds,datA ω x = some a∧datA ω y = some b∧(b = .lst ds∨b = .tup ds)∧deps ds≤90∧Q (.d (.bl (if neg then !inD a ds else inD a ds))) ω
theorem o_in {neg : Bool} : Ref2 (rInD neg) (aIn neg):=⟨fun F H ω v u x y Q Q' rp h1 h2 ⟨a,b,ds,e1,e2,e3,s,q⟩ k=>⟨a,ds,dat_of rp h1 e1,by
  have:=dat_of rp h2 e2
  rcases e3 with rfl | rfl
  · exact .inl this
  · exact .inr this,s,k.bl rp q⟩⟩
def aCatT : A2:=fun x y ω Q=>∃ ds es,x = .d (.tup ds)∧y = .d (.tup es)∧ds.length + es.length≤sizeLine∧Q (.d (.tup (ds ++ es))) ω
def rCat3 : R2:=fun x y H Q=>∃ a b xs ys,x = .ref a∧y = .ref b∧H a = some (.tup xs)∧H b = some (.tup ys)∧xs.length + ys.length≤sizeLine ∧
  (xs = []→Q (.ref b) H)∧(ys = []→Q (.ref a) H)∧∀ p,H p = none→Q (.ref p) (upd H p (.tup (xs ++ ys)))
theorem op_cat3 {X : Cx} : OpR X (binaryOp .Add) rCat3:=by
  intro pins s σ H x y v u Q I rx ry h
  obtain ⟨a,b,xs,ys,rfl,rfl,ha,hb,hz,g1,g2,g3⟩:=h
  by_cases hn : xs = []
  · subst hn
    cases rx
    cases ry
    obtain ⟨its,r1,ht⟩:=tup_at I ha
    obtain ⟨its2,r2,hb2⟩:=tup_at I hb
    cases r1
    obtain ⟨⟨cls,dd,data,sl⟩,ho,hc,n,hd⟩:=id ht
    obtain ⟨⟨cls2,dd2,data2,sl2⟩,ho2,hc2,n2,hd2⟩:=id hb2
    simp only at hc hd hc2 hd2
    subst hc hd hc2 hd2
    exact concat_meets ⟨_,ho,rfl⟩ ⟨_,ho2,rfl⟩ noFill_tuple_add seq_tuple_add PySem.F.slot_tuple_add PySem.F.entry_tuple_add (PySem.F.args_tuple_add_2 _ _)
      (tuple_addW0 a b _ _ n n2 dd dd2 sl sl2 (by simp)) ⟨ho,ho2,⟨.ref b,H,I,rfl,g1 rfl⟩⟩
  · exact op_catT pins s σ H (.ref a) (.ref b) v u Q I rx ry ⟨a,b,xs,ys,rfl,rfl,SqT.of ha,SqT.of hb,hn,hz,g2,fun _ p hp=>g3 p hp⟩
theorem o_cat3 : Ref2 rCat3 aCatT:=⟨fun F H ω v u x y Q Q' rp h1 h2 ⟨ds,es,e1,e2,z,q⟩ k=>by
  subst e1 e2
  have h1':=h1
  have h2':=h2
  simp only [RV,Dat] at h1 h2
  obtain ⟨a,xs,rfl,ha,hxs⟩:=h1
  obtain ⟨b,ys,rfl,hb,hys⟩:=h2
  refine ⟨a,b,xs,ys,rfl,rfl,cut_same _ _ ha,cut_same _ _ hb,by rw [hxs.length,hys.length];exact z,fun e=>?_,fun e=>?_,k.tup rp (hxs.append hys) q⟩
  · have : ds = []:=List.length_eq_zero_iff.mp (by rw [← hxs.length,e];rfl)
    subst this
    exact k _ ω _ H rp .refl h2' q
  · have : es = []:=List.length_eq_zero_iff.mp (by rw [← hys.length,e];rfl)
    subst this
    rw [List.append_nil] at q
    exact k _ ω _ H rp .refl h1' q⟩
theorem Rep.later {F : Fs} {H H' : Hp} {ω : Om} (rp : Rep F H ω) (s : Same H H') : Rep F H' ω∧Fr F H ω H' ω:=by
  have fr : Fr F H ω H' ω:=⟨fun b o x f e=>⟨s _ _ e,x⟩,fun b f=>by
    obtain ⟨_,o,q⟩:=rp.hid b f
    rw [q,s _ _ q]⟩
  refine ⟨⟨fun l xs e=>?_,fun l ds e=>(rp.frz l ds e).same fr.same,fun b f=>?_,fun l ks e=>(by obtain ⟨vs,e1,e2⟩:=rp.dic l ks e;exact ⟨vs,s _ _ e1,e2.same fr.same⟩)⟩,fr⟩
  · obtain ⟨vs,e1,e2⟩:=rp.own l xs e
    exact ⟨vs,s _ _ e1,e2.same fr.same⟩
  · obtain ⟨x,o,q⟩:=rp.hid b f
    exact ⟨x,o,s _ _ q⟩
def aIxL : A2:=fun x y ω Q=>∃ xs i a,lstA ω x = some xs∧y = .d (.int i)∧atI xs i = some a∧Q a ω
def aIxT : A2:=fun x y ω Q=>∃ xs i a,tupA x = some xs∧y = .d (.int i)∧atI xs i = some a∧Q a ω
theorem RVs.atI {G : Hp} {xs : List AV} {vs : List V} {i : Int} {a : AV} (h : RVs G xs vs) (e : atI xs i = some a) : ∃ v,L2.atI vs i = some v∧RV G a v:=by
  unfold L2.atI at e ⊢
  rw [h.length]
  cases z : ixN xs.length i with
  | none=>rw [z] at e;cases e
  | some j =>
    rw [z] at e
    exact h.get e
theorem o_ixL {K : PySem.W.Frag} : Ref2 (rIxL K) aIxL:=⟨fun F H ω v u x y Q Q' rp h1 h2 ⟨xs,i,a,e1,e2,e3,q⟩ k=>by
  subst e2
  obtain ⟨l,vs,rfl,q1,q2⟩:=lst_of rp h1 e1
  obtain ⟨w,z1,z2⟩:=q2.atI e3
  exact ⟨l,vs,i,w,rfl,rv_int h2,.inl (.inl q1),z1,k a ω w H rp .refl z2 q⟩⟩
theorem o_ixT {K : PySem.W.Frag} : Ref2 (rIxT K) aIxT:=⟨fun F H ω v u x y Q Q' rp h1 h2 ⟨xs,i,a,e1,e2,e3,q⟩ k=>by
  subst e2
  obtain ⟨l,vs,rfl,q1,q2⟩:=tup_of h1 e1
  obtain ⟨w,z1,z2⟩:=q2.atI e3
  exact ⟨l,vs,i,w,rfl,rv_int h2,.inl (.inl (cut_same _ _ q1)),z1,k a ω w H rp .refl z2 q⟩⟩
def aIx : A2:=fun x y ω Q=>∃ xs i a,(lstA ω x = some xs∨tupA x = some xs)∧y = .d (.int i)∧atI xs i = some a∧Q a ω
theorem o_ix {K : PySem.W.Frag} : Ref2 (rIx K) aIx:=⟨fun F H ω v u x y Q Q' rp h1 h2 ⟨xs,i,a,e1,e2,e3,q⟩ k=>by
  rcases e1 with e1 | e1
  · exact .inl (o_ixL.run F H ω v u x y Q Q' rp h1 h2 ⟨xs,i,a,e1,e2,e3,q⟩ k)
  · exact .inr (.inl (o_ixT.run F H ω v u x y Q Q' rp h1 h2 ⟨xs,i,a,e1,e2,e3,q⟩ k))⟩
def aIsN (neg : Bool) : A2:=fun x y ω Q=>∃ a,x = .d a∧y = .d .non∧Q (.d (.bl (if neg then !eqD a .non else eqD a .non))) ω
theorem eq_non {G : Hp} {a : D} {v : V} (h : RV G (.d a) v) : decide (v = .non) = eqD a .non:=by
  cases a<;>simp only [RV,Dat] at h
  all_goals first
    | (subst h;simp [eqD])
    | (obtain ⟨_,_,rfl,_⟩:=h;simp [eqD])
theorem o_isN : Ref2 (fun x y H Q=>y = .non∧Q (.bl (decide (x = .non))) H) (aIsN false):=⟨fun F H ω v u x y Q Q' rp h1 h2 ⟨a,e1,e2,q⟩ k=>by
  subst e1 e2;exact ⟨rv_non h2,by rw [eq_non h1];exact k.bl rp q⟩⟩
abbrev AC:=List AV→Om→(AV→Om→Prop)→Prop
theorem rvs1 {G : Hp} {a : AV} {vs : List V} (h : RVs G [a] vs) : ∃ v,vs = [v]∧RV G a v:=by
  obtain ⟨v,r,rfl,h1,h2⟩:=h
  cases h2
  exact ⟨v,rfl,h1⟩
theorem rvs2 {G : Hp} {a b : AV} {vs : List V} (h : RVs G [a,b] vs) : ∃ v u,vs = [v,u]∧RV G a v∧RV G b u:=by
  obtain ⟨v,r,rfl,h1,h2⟩:=h
  obtain ⟨u,rfl,h3⟩:=rvs1 h2
  exact ⟨v,u,rfl,h1,h3⟩
def lenA (ω : Om) (x : AV) : Option Nat:=match tupA x with
  | some xs=>some xs.length
  | none=>(lstA ω x).map List.length
def aLen : AC:=fun xs ω Q=>∃ x n,xs = [x]∧lenA ω x = some n∧Q (.d (.int n)) ω
theorem c_len {K : PySem.W.Frag} : RefC (fun xs H Q=>∃ x n,xs = [x]∧LenV K x H n∧Q (.int n) H) aLen:=⟨fun F H ω vs xs Q Q' rp rv ⟨x,n,e1,e2,q⟩ k=>by
  subst e1
  obtain ⟨v,rfl,r⟩:=rvs1 rv
  refine ⟨v,n,rfl,?_,k.int rp q⟩
  unfold lenA at e2
  cases z : tupA x with
  | some xs =>
    rw [z] at e2;cases e2
    obtain ⟨a,us,rfl,q1,q2⟩:=tup_of r z
    exact .inr ⟨us,.inl (.inl (cut_same _ _ q1)),q2.length.symm⟩
  | none =>
    rw [z] at e2
    simp only [Option.map_eq_some_iff] at e2
    obtain ⟨ys,e3,rfl⟩:=e2
    obtain ⟨a,us,rfl,q1,q2⟩:=lst_of rp r e3
    exact .inl ⟨us,.inl (.inl q1),q2.length.symm⟩⟩
def aF2 (f : Int→Int→Int) : AC:=fun xs ω Q=>∃ i j,xs = [.d (.int i),.d (.int j)]∧Q (.d (.int (f i j))) ω
theorem c_F2 {f : Int→Int→Int} : RefC (fun xs H Q=>∃ i j,xs = [.int i,.int j]∧Q (.int (f i j)) H) (aF2 f):=⟨fun F H ω vs xs Q Q' rp rv ⟨i,j,e1,q⟩ k=>by
  subst e1
  obtain ⟨v,u,rfl,r1,r2⟩:=rvs2 rv
  exact ⟨i,j,by rw [rv_int r1,rv_int r2],k.int rp q⟩⟩
def aF1 (f : Int→Int) : AC:=fun xs ω Q=>∃ i,xs = [.d (.int i)]∧Q (.d (.int (f i))) ω
theorem c_F1 {f : Int→Int} : RefC (fun xs H Q=>∃ i,xs = [.int i]∧Q (.int (f i)) H) (aF1 f):=⟨fun F H ω vs xs Q Q' rp rv ⟨i,e1,q⟩ k=>by
  subst e1
  obtain ⟨v,rfl,r1⟩:=rvs1 rv
  exact ⟨i,by rw [rv_int r1],k.int rp q⟩⟩
def aTupOf : AC:=fun xs ω Q=>∃ x ds,xs = [x]∧(datA ω x = some (.lst ds)∨x = .d (.tup ds))∧Q (.d (.tup ds)) ω
theorem c_tuple {K : PySem.W.Frag} : RefC (fun xs H Q=>∃ p ys,xs = [.ref p]∧((SqL K H p ys∧∀ l,H l = none→Q (.ref l) (upd H l (.tup ys)))∨(SqT K H p ys∧Q (.ref p) H))) aTupOf:=⟨fun F H ω vs xs Q Q' rp rv ⟨x,ds,e1,e2,q⟩ k=>by
  subst e1
  obtain ⟨v,rfl,r1⟩:=rvs1 rv
  rcases e2 with e2 | rfl
  · obtain ⟨a,us,rfl,q1,q2⟩:=dats_of rp r1 e2
    exact ⟨a,us,rfl,.inl ⟨.inl (.inl q1),k.tup rp q2 q⟩⟩
  · have r2:=r1
    simp only [RV,Dat] at r2
    obtain ⟨a,us,rfl,q1,q2⟩:=r2
    exact ⟨a,us,rfl,.inr ⟨.inl (.inl (cut_same _ _ q1)),k _ ω _ H rp .refl r1 q⟩⟩⟩
def aListOf : AC:=fun xs ω Q=>∃ x ds,xs = [x]∧(datA ω x = some (.lst ds)∨x = .d (.tup ds))∧Q (.d (.lst ds)) ω
def aListO : AC:=fun xs ω Q=>∃ x ds,xs = [x]∧(datA ω x = some (.lst ds)∨x = .d (.tup ds))∧∀ p,ω p = none→Q (.r (.ref p)) (ω.put p (.own (ds.map AV.d)))
theorem c_list {K : PySem.W.Frag} : RefC (fun xs H Q=>∃ p ys,xs = [.ref p]∧(SqL K H p ys∨SqT K H p ys)∧∀ l,H l = none→Q (.ref l) (upd H l (.lst ys))) aListOf:=⟨fun F H ω vs xs Q Q' rp rv ⟨x,ds,e1,e2,q⟩ k=>by
  subst e1
  obtain ⟨v,rfl,r1⟩:=rvs1 rv
  rcases e2 with e2 | rfl
  · obtain ⟨a,us,rfl,q1,q2⟩:=dats_of rp r1 e2
    exact ⟨a,us,rfl,.inl (.inl (.inl q1)),k.lst rp q2 q⟩
  · have r2:=r1
    simp only [RV,Dat] at r2
    obtain ⟨a,us,rfl,q1,q2⟩:=r2
    exact ⟨a,us,rfl,.inr (.inl (.inl (cut_same _ _ q1))),k.lst rp q2 q⟩⟩
theorem c_listO {K : PySem.W.Frag} : RefC (fun xs H Q=>∃ p ys,xs = [.ref p]∧(SqL K H p ys∨SqT K H p ys)∧∀ l,H l = none→Q (.ref l) (upd H l (.lst ys))) aListO:=⟨fun F H ω vs xs Q Q' rp rv ⟨x,ds,e1,e2,q⟩ k=>by
  subst e1
  obtain ⟨v,rfl,r1⟩:=rvs1 rv
  rcases e2 with e2 | rfl
  · obtain ⟨a,us,rfl,q1,q2⟩:=dats_of rp r1 e2
    exact ⟨a,us,rfl,.inl (.inl (.inl q1)),k.own rp (RVs.dats.mpr q2) q⟩
  · have r2:=r1
    simp only [RV,Dat] at r2
    obtain ⟨a,us,rfl,q1,q2⟩:=r2
    exact ⟨a,us,rfl,.inr (.inl (.inl (cut_same _ _ q1))),k.own rp (RVs.dats.mpr q2) q⟩⟩
def rngA (lo : Int) (n : Nat) : List AV:=(List.range n).map fun i=>AV.d (.int (lo + (i : Nat)))
def aiRng1 (ta : AA) : AI:=fun ρ ω R=>ta ρ ω fun xs ω1=>∃ j : Int,xs = [.d (.int j)]∧-(2 ^ 62)≤j∧j < 2 ^ 62∧R (rngA 0 j.toNat) ω1
section
variable {te : TE} {te' : AE} {ta : TA} {ta' : AA} {K : PySem.W.Frag}
theorem it_list {G : Hp} {ds : List D} {a : Addr} (h : Dat G (.lst ds) (.ref a)) : ItOk G (ds.map AV.d) (Itl K a):=fun F H ω rp s=>by
  have h2:=h.same s
  simp only [Dat] at h2
  obtain ⟨_,vs,e,ha,hd⟩:=h2
  cases e
  have hq : SqL K H a vs:=.inl (.inl (cut_same _ _ ha))
  have hl:=hd.length
  refine ⟨⟨vs,hq,by simp;omega⟩,fun i x hx=>?_⟩
  obtain ⟨v,e1,e2⟩:=(RVs.dats.mpr hd).get hx
  refine ⟨⟨vs,v,hq,e1⟩,fun y H' hy=>?_⟩
  obtain ⟨rfl,hy⟩:=hy
  have:=hy vs hq
  rw [e1] at this
  cases this
  exact ⟨rp,.refl,e2⟩
theorem it_tup {G : Hp} {ds : List D} {a : Addr} (h : Dat G (.tup ds) (.ref a)) : ItOk G (ds.map AV.d) (Itt K a):=fun F H ω rp s=>by
  have h2:=h.same s
  simp only [Dat] at h2
  obtain ⟨_,vs,e,ha,hd⟩:=h2
  cases e
  have hq : SqT K H a vs:=.inl (.inl (cut_same _ _ ha))
  have hl:=hd.length
  refine ⟨⟨vs,hq,by simp;omega⟩,fun i x hx=>?_⟩
  obtain ⟨v,e1,e2⟩:=(RVs.dats.mpr hd).get hx
  refine ⟨⟨vs,v,hq,e1⟩,fun y H' hy=>?_⟩
  obtain ⟨rfl,hy⟩:=hy
  have:=hy vs hq
  rw [e1] at this
  cases this
  exact ⟨rp,.refl,e2⟩
theorem dat_ref_l {G : Hp} {ds : List D} {v : V} (h : Dat G (.lst ds) v) : ∃ a vs,v = .ref a∧G a = some (.lst vs):=by
  simp only [Dat] at h
  obtain ⟨a,vs,e,h,_⟩:=h
  exact ⟨a,vs,e,h⟩
theorem dat_ref_t {G : Hp} {ds : List D} {v : V} (h : Dat G (.tup ds) v) : ∃ a vs,v = .ref a∧G a = some (.tup vs):=by
  simp only [Dat] at h
  obtain ⟨a,vs,e,h,_⟩:=h
  exact ⟨a,vs,e,h⟩
theorem it_rng {G : Hp} {lo : Int} {n : Nat} : ItOk G (rngA lo n) (Itr lo n):=fun F H ω rp s=>by
  refine ⟨by simp [rngA,Itr],fun i x hx=>?_⟩
  unfold rngA at hx
  rw [List.getElem?_map] at hx
  by_cases hi : i < n
  · rw [List.getElem?_range hi] at hx
    simp only [Option.map_some,Option.some.injEq] at hx
    subst hx
    refine ⟨hi,fun y H' hy=>?_⟩
    obtain ⟨rfl,rfl⟩:=hy
    exact ⟨rp,.refl,by simp [RV,Dat]⟩
  · rw [List.getElem?_eq_none (by simp;omega)] at hx
    cases hx
theorem i_rng1 (h : RefA ta ta') : RefI (iRng1 ta) (aiRng1 ta'):=⟨fun F H ω σ ρ R R' rp rs w k=>h.go rp rs w fun xs ω1 vs H1 rp1 fr1 rs1 rv ⟨j,e,h1,h2,q⟩=>by
  subst e
  obtain ⟨v,rfl,r⟩:=rvs1 rv
  exact ⟨j,by rw [rv_int r],h1,h2,k _ ω1 _ H1 rp1 fr1 it_rng q⟩⟩
def seqD : D→Option (List D)
  | .tup ds=>some ds
  | .lst ds=>some ds
  | _=>none
end
def agTup (n : Nat) (t : AGs) : AG:=fun v ρ ω Q=>∃ ds,v = .d (.tup ds)∧ds.length = n∧t (ds.map AV.d) ρ ω Q
def agLst (n : Nat) (t : AGs) : AG:=fun v ρ ω Q=>∃ xs,lstA ω v = some xs∧xs.length = n∧t xs ρ ω Q
def agSub (to ti : AE) : AG:=fun v ρ ω Q=>to ρ ω fun o ω1=>ti ρ ω1 fun i ω2=>∃ l k xs j,o = .r (.ref l)∧i = .d (.int k)∧ω2 l = some (.own xs)∧ixN xs.length k = some j∧Q ρ (ω2.put l (.own (xs.set j v)))
section
variable {K : PySem.W.Frag} {n : Nat} {gs : TGs} {gs' : AGs} {to ti : TE} {to' ti' : AE}
theorem g_tup (h : RefGs gs gs') : RefG (gTup K n gs) (agTup n gs'):=⟨fun F H ω σ ρ v a Q Q' rp rs rv ⟨ds,e,hn,q⟩ k=>by
  subst e
  simp only [RV,Dat] at rv
  obtain ⟨b,vs,rfl,h1,h2⟩:=rv
  exact ⟨b,vs,rfl,.inl (.inl (cut_same _ _ h1)),by rw [h2.length];exact hn,h.run F H ω σ ρ vs _ Q Q' rp rs (RVs.dats.mpr h2) q k⟩⟩
theorem g_lst (h : RefGs gs gs') : RefG (gLst K n gs) (agLst n gs'):=⟨fun F H ω σ ρ v a Q Q' rp rs rv ⟨xs,e,hn,q⟩ k=>by
  obtain ⟨b,vs,rfl,h1,h2⟩:=lst_of rp rv e
  exact ⟨b,vs,rfl,.inl (.inl h1),by rw [h2.length];exact hn,h.run F H ω σ ρ vs _ Q Q' rp rs h2 q k⟩⟩
theorem g_sub (ho : RefE to to') (hi : RefE ti ti') : RefG (gSub to ti rSetL) (agSub to' ti'):=⟨fun F H ω σ ρ v a Q Q' rp rs rv w k =>
  ho.go rp rs w fun x ω1 u H1 rp1 fr1 rs1 rv1 q1=>hi.go rp1 rs1 q1 fun y ω2 u2 H2 rp2 fr2 rs2 rv2 ⟨l,j,xs,i,e1,e2,e3,e4,q⟩=>by
    subst e1 e2
    have e5 : u = .ref l:=rv1
    obtain ⟨vs,z1,z2⟩:=rp2.own l xs e3
    have rv':=rv.same (fr1.trans fr2).same
    obtain ⟨rp3,fr3⟩:=rp2.write e3 (z2.set i rv')
    have fr:=(fr1.trans fr2).trans fr3
    exact ⟨l,vs,j,i,e5,rv_int rv2,z1,by rw [z2.length];exact e4,k ρ _ σ _ rp3 fr (rs.same fr.same) q⟩⟩
end
def cutL {α : Type} (xs : List α) (lo hi : Option Int) : List α:=(xs.drop (HT.sIx xs.length 0 lo)).take (HT.sIx xs.length xs.length hi - HT.sIx xs.length 0 lo)
abbrev AO:=SA→Om→(Option Int→Om→Prop)→Prop
def aoNone : AO:=fun _ ω Q=>Q none ω
def aoSome (t : AE) : AO:=fun ρ ω Q=>t ρ ω fun x ω1=>∃ i,x = .d (.int i)∧Q (some i) ω1
theorem Dats.cut {G : Hp} {ds : List D} {vs : List V} {lo hi : Option Int} (h : Dats G ds vs) : Dats G (cutL ds lo hi) (cutV vs lo hi):=by
  unfold cutL cutV
  rw [h.length]
  exact (h.drop _).take _
section
variable {K : PySem.W.Frag} {te ts : TE} {te' ts' : AE} {tl th : TO} {tl' th' : AO}
theorem n_none : Ref REq tNoPart aoNone:=⟨fun F H ω σ ρ Q Q' rp rs w k=>k none ω none H rp .refl rfl w⟩
theorem n_some (h : RefE te te') : Ref REq (tPart te) (aoSome te'):=⟨fun F H ω σ ρ Q Q' rp rs w k=>h.go rp rs w fun x ω1 v H1 rp1 fr1 rs1 rv ⟨i,e,q⟩=>by
  subst e;exact ⟨i,rv_int rv,k _ ω1 _ H1 rp1 fr1 rfl q⟩⟩
def aRev (te : AE) : AE:=fun ρ ω Q=>te ρ ω fun x ω1=>∃ ds,datA ω1 x = some (.lst ds)∧Q (.d (.lst ds.reverse)) ω1
theorem Dats.rev {G : Hp} : ∀ {ds : List D} {vs : List V},Dats G ds vs→Dats G ds.reverse vs.reverse
  | [],_,h=>by simp only [Dats] at h;subst h;simp [Dats]
  | d :: ds,vs,h=>by
    simp only [Dats] at h
    obtain ⟨x,r,rfl,h1,h2⟩:=h
    simp only [List.reverse_cons]
    exact h2.rev.append (.one h1)
theorem e_rev (he : RefE te te') : RefE (tRev K te (tUn (rU fun i=>.int (-i)) (tC (.int 1)))) (aRev te'):=⟨fun F H ω σ ρ Q Q' rp rs w k =>
  he.go rp rs w fun x ω1 v H1 rp1 fr1 rs1 rv1 ⟨ds,e,q⟩=>⟨1,rfl,rfl,by
    obtain ⟨a,vs,rfl,z1,z2⟩:=dats_of rp1 rv1 e
    exact ⟨a,vs,rfl,.inl (.inl z1),(k.fr fr1).lst rp1 z2.rev q⟩⟩⟩
end
def aAppend (to : AE) (t : AA) : AE:=fun ρ ω Q=>to ρ ω fun x ω1=>∃ l,x = .r (.ref l)∧(∃ zs,ω1 l = some (.own zs))∧t ρ ω1 fun ys ω2=>∃ xs y,ys = [y]∧ω2 l = some (.own xs)∧xs.length < sizeLine∧Q (.d .non) (ω2.put l (.own (xs ++ [y])))
def aExtend (to : AE) (t : AA) : AE:=fun ρ ω Q=>to ρ ω fun x ω1=>∃ l,x = .r (.ref l)∧(∃ zs,ω1 l = some (.own zs))∧t ρ ω1 fun ys ω2=>∃ xs y zs,ys = [y]∧ω2 l = some (.own xs)∧lstA ω2 y = some zs∧xs.length + zs.length≤sizeLine∧Q (.d .non) (ω2.put l (.own (xs ++ zs)))
def aPop (to : AE) : AE:=fun ρ ω Q=>to ρ ω fun x ω1=>∃ l xs y,x = .r (.ref l)∧ω1 l = some (.own xs)∧xs[xs.length - 1]? = some y∧Q y (ω1.put l (.own xs.dropLast))
section
variable {K : PySem.W.Frag} {to : TE} {to' : AE} {t : TA} {t' : AA}
theorem e_append (ho : RefE to to') (ht : RefA t t') : RefE (tBM K "list" rAppend to t) (aAppend to' t'):=⟨fun F H ω σ ρ Q Q' rp rs w k =>
  ho.go rp rs w fun x ω1 v H1 rp1 fr1 rs1 rv1 ⟨l,e,⟨zs,hz⟩,q1⟩=>by
    subst e
    cases (show v = .ref l from rv1)
    obtain ⟨us,z1,_⟩:=rp1.own l zs hz
    refine ⟨.inl ⟨rfl,us,.inl (.inl z1)⟩,ht.go rp1 rs1 q1 fun ys ω2 vs H2 rp2 fr2 rs2 rv2 ⟨xs,y,e1,e2,e3,q⟩=>?_⟩
    subst e1
    obtain ⟨u,rfl,r⟩:=rvs1 rv2
    obtain ⟨ws,z3,z4⟩:=rp2.own l xs e2
    obtain ⟨rp3,fr3⟩:=rp2.write e2 (z4.append (.one r))
    exact ⟨l,ws,u,rfl,rfl,z3,by rw [z4.length];exact e3,k _ _ _ _ rp3 ((fr1.trans fr2).trans fr3) (by simp [RV,Dat]) q⟩⟩
theorem e_extend (ho : RefE to to') (ht : RefA t t') : RefE (tBM K "list" rExtend to t) (aExtend to' t'):=⟨fun F H ω σ ρ Q Q' rp rs w k =>
  ho.go rp rs w fun x ω1 v H1 rp1 fr1 rs1 rv1 ⟨l,e,⟨zs,hz⟩,q1⟩=>by
    subst e
    cases (show v = .ref l from rv1)
    obtain ⟨us,z1,_⟩:=rp1.own l zs hz
    refine ⟨.inl ⟨rfl,us,.inl (.inl z1)⟩,ht.go rp1 rs1 q1 fun ys ω2 vs H2 rp2 fr2 rs2 rv2 ⟨xs,y,ss,e1,e2,e3,e4,q⟩=>?_⟩
    subst e1
    obtain ⟨u,rfl,r⟩:=rvs1 rv2
    obtain ⟨ws,z3,z4⟩:=rp2.own l xs e2
    obtain ⟨b,bs,rfl,z5,z6⟩:=lst_of rp2 r e3
    obtain ⟨rp3,fr3⟩:=rp2.write e2 (z4.append z6)
    exact ⟨l,b,ws,bs,rfl,rfl,z3,z5,by rw [z4.length,z6.length];exact e4,k _ _ _ _ rp3 ((fr1.trans fr2).trans fr3) (by simp [RV,Dat]) q⟩⟩
theorem e_pop (ho : RefE to to') : RefE (tBM0 K "list" rPop to) (aPop to'):=⟨fun F H ω σ ρ Q Q' rp rs w k =>
  ho.go rp rs w fun x ω1 v H1 rp1 fr1 rs1 rv1 ⟨l,xs,y,e,hz,hy,q⟩=>by
    subst e
    cases (show v = .ref l from rv1)
    obtain ⟨us,z1,z2⟩:=rp1.own l xs hz
    obtain ⟨u,z3,z4⟩:=z2.get hy
    obtain ⟨rp3,fr3⟩:=rp1.write hz z2.dropLast
    exact ⟨.inl ⟨rfl,us,.inl (.inl z1)⟩,l,us,u,rfl,rfl,z1,by rw [z2.length];exact z3,k y _ u _ rp3 (fr1.trans fr3) (z4.same fr3.same) q⟩⟩
end
def aSorted : AC:=fun xs ω Q=>∃ (x : AV) (W : List (List Int)),xs = [x]∧datA ω x = some (.lst (W.map wdD))∧(∀ y∈W,y≠[])∧W.length < 64∧Q (.d (.lst ((srtW W).map wdD))) ω
theorem Rep.stays {F : Fs} {H : Hp} {ω : Om} (rp : Rep F H ω) : TSame H (cut F H ω):=fun b xs e=>by
  refine cut_some.mpr ⟨?_,?_,e⟩
  · cases y : ω b with
    | none=>rfl
    | some c=>cases c with
      | frz ds=>rfl
      | own ys =>
        obtain ⟨vs,e1,_⟩:=rp.own b ys y
        rw [e] at e1;cases e1
      | dic ys =>
        obtain ⟨vs,e1,_⟩:=rp.dic b ys y
        rw [e] at e1;cases e1
  · cases z : F b with
    | false=>rfl
    | true =>
      obtain ⟨_,vs,q⟩:=rp.hid b z
      rw [e] at q;cases q
theorem c_sorted : RefC (fun xs H Q=>∃ p W,xs = [.ref p]∧LD H p (W.map wdD)∧(∀ x∈W,x≠[])∧W.length < 64∧∀ l H',H l = none→Same H H'→LD H' l ((srtW W).map wdD)→Q (.ref l) H') aSorted:=⟨fun F H ω vs xs Q Q' rp rv ⟨x,W,e1,e2,e3,e4,q⟩ k=>by
  subst e1
  obtain ⟨v,rfl,r⟩:=rvs1 rv
  obtain ⟨a,us,rfl,z1,z2⟩:=dats_of rp r e2
  refine ⟨a,W,rfl,⟨noLs_wds _,us,z1,z2.same cut_same⟩,e3,e4,fun l H' hl s ld=>?_⟩
  obtain ⟨rp2,fr2⟩:=rp.later s
  obtain ⟨hn,ws,y1,y2⟩:=ld
  obtain ⟨f1,f2⟩:=rp.free hl
  refine k _ ω _ H' rp2 fr2 ?_ q
  simp only [RV,Dat]
  exact ⟨l,ws,rfl,cut_some.mpr ⟨by rw [f1];rfl,f2,y1⟩,Dats.t rp2.stays hn y2⟩⟩
def aCatL : A2:=fun x y ω Q=>∃ ds es,datA ω x = some (.lst ds)∧datA ω y = some (.lst es)∧ds.length + es.length≤sizeLine∧Q (.d (.lst (ds ++ es))) ω
theorem o_catL : Ref2 rCat aCatL:=⟨fun F H ω v u x y Q Q' rp h1 h2 ⟨ds,es,e1,e2,z,q⟩ k=>by
  obtain ⟨a,vs,rfl,z1,z2⟩:=dats_of rp h1 e1
  obtain ⟨b,us,rfl,z3,z4⟩:=dats_of rp h2 e2
  exact ⟨a,b,vs,us,rfl,rfl,z1,z3,by rw [z2.length,z4.length];exact z,k.lst rp (z2.append z4) q⟩⟩
def aRepL : A2:=fun x y ω Q=>∃ ds k,datA ω x = some (.lst ds)∧y = .d (.int k)∧-(2 ^ 63)≤k∧k < 2 ^ 63∧ds.length * k.toNat≤sizeLine∧Q (.d (.lst (List.replicate k.toNat ds).flatten)) ω
theorem Dats.rep {G : Hp} {ds : List D} {vs : List V} (h : Dats G ds vs) : ∀ n : Nat,Dats G (List.replicate n ds).flatten (List.replicate n vs).flatten
  | 0=>by simp [Dats]
  | n + 1=>by
    simp only [List.replicate_succ,List.flatten_cons]
    exact h.append (h.rep n)
theorem o_repL : Ref2 rRep aRepL:=⟨fun F H ω v u x y Q Q' rp h1 h2 ⟨ds,k',e1,e2,b1,b2,z,q⟩ k=>by
  subst e2
  obtain ⟨a,vs,rfl,z1,z2⟩:=dats_of rp h1 e1
  exact ⟨a,k',vs,rfl,rv_int h2,z1,b1,b2,by rw [z2.length];exact z,k.lst rp (z2.rep _) q⟩⟩
section
variable {X : Cx} {tg : Expr}
def notS : D→Bool
  | .str _=>false
  | _=>true
theorem call_reprX (hg : X.A.guards = some []) (hu : X.A.units + 100 < cLine) : CallR X (.builtin "repr") (fun xs H Q=>∃ (x : V) (d : D),xs = [x]∧Dat H d x∧notS d = true∧dep d≤90∧fit d = true∧wt d≤1000000∧Q (.str (repD d)) H):=by
  intro pins s σ H xs us Q I r h
  obtain ⟨x,d,rfl,hd,hs,hdp,hf,hw,q⟩:=h
  obtain ⟨u,rfl,ru⟩:=vals1 r
  cases d with
  | non =>
    simp only [Dat] at hd;subst hd
    cases (show u = Value.none from ru)
    exact PySem.P.repr_of_none ⟨.str (repD .non),H,I.tok _,⟨_,rfl⟩,q⟩
  | bl b =>
    simp only [Dat] at hd;subst hd
    cases (show u = Value.bool b from ru)
    exact PySem.P.repr_of_bool ⟨.str (repD (.bl b)),H,I.tok _,⟨_,by cases b<;>rfl⟩,q⟩
  | int i =>
    simp only [Dat] at hd;subst hd
    obtain ⟨t,rfl⟩:=ru
    exact PySem.P.repr_of_int (by simpa [fit] using hf) ⟨.str (repD (.int i)),H,I.tok _,⟨_,rfl⟩,q⟩
  | str b=>cases hs
  | tup ds =>
    obtain ⟨a,_,rfl,_⟩:=dat_ref_t hd
    exact call_reprD hg hu pins s σ H [.ref a] [u] Q I r ⟨a,_,rfl,hd,hdp,hf,hw,q⟩
  | lst ds =>
    obtain ⟨a,_,rfl,_⟩:=dat_ref_l hd
    exact call_reprD hg hu pins s σ H [.ref a] [u] Q I r ⟨a,_,rfl,hd,hdp,hf,hw,q⟩
def rOr (r1 r2 : R2) : R2:=fun x y H Q=>r1 x y H Q∨r2 x y H Q
theorem op_alt {f : Value→Value→Sem Value} {r1 r2 : R2} (h1 : OpR X f r1) (h2 : OpR X f r2) : OpR X f (rOr r1 r2):=fun pins s σ H x y v u Q I rx ry h=>by
  rcases h with h | h
  · exact h1 pins s σ H x y v u Q I rx ry h
  · exact h2 pins s σ H x y v u Q I rx ry h
def rSlAny (K : PySem.W.Frag) : V→Option Int→Option Int→Hp→VK→Prop:=fun x lo hi H Q=>rSlL K x lo hi H Q∨rSlTA K x lo hi H Q
theorem sl_any (K : PySem.W.Frag) (hK : X.K = K) : SlR X (rSlAny K):=by
  subst hK
  intro pins s σ H x v vl vu lo hi sl Q I rx hs pl pu h
  rcases h with h | h
  · exact sl_list pins s σ H x v vl vu lo hi sl Q I rx hs pl pu h
  · exact sl_tupA pins s σ H x v vl vu lo hi sl Q I rx hs pl pu h
def iSeq (K : PySem.W.Frag) (tl : TE) : TI:=fun σ H R=>tl σ H fun x H1=>(∃ a,x = .ref a∧(∃ xs,SqL K H1 a xs)∧R (Itl K a) H1)∨∃ a,x = .ref a∧(∃ xs,SqT K H1 a xs)∧R (Itt K a) H1
theorem pi_seq (K : PySem.W.Frag) (hK : X.K = K) {l : Expr} {tl : TE} (hl : PE X l tl) : PI X tg l (iSeq K tl):=by
  subst hK
  intro pins s σ H R I h
  refine thn (hl pins s σ H _ I h) fun v s1 ⟨x,H1,I1,r1,q1⟩=>?_
  rcases q1 with q1 | q1
  · obtain ⟨a,e,⟨xs,hq⟩,q⟩:=q1
    subst e
    cases r1
    obtain ⟨its,rv,p,hz⟩:=I1.list hq
    refine wpAny_pyIter_list p.isList ?_
    refine ⟨s1.heap.objs.size,[s1.heap.objs.size],_,_,H1,rfl,I1.kept (t':=s1.toks) fun b o e=>Heap.get?_push_of_some _ e,turn_list a _,⟨_,Heap.get?_push_size _ rfl,rfl,rfl⟩,fun b hb=>?_,q⟩
    have e : b = s1.heap.objs.size:=by simpa using hb
    subst e
    exact I1.fpOk (Nat.le_refl _) (I1.hok.fresh (Nat.le_refl _))
  · obtain ⟨a,e,⟨xs,hq⟩,q⟩:=q1
    subst e
    cases r1
    obtain ⟨its,rv,p,hz⟩:=I1.tuple hq
    refine wpAny_pyIter_tuple (show s1.heap.IsTuple a its.toArray from p) ?_
    refine ⟨s1.heap.objs.size,[s1.heap.objs.size],_,_,H1,rfl,I1.kept (t':=s1.toks) fun b o e=>Heap.get?_push_of_some _ e,turn_tuple a _,⟨_,Heap.get?_push_size _ rfl,rfl,rfl⟩,fun b hb=>?_,q⟩
    have e : b = s1.heap.objs.size:=by simpa using hb
    subst e
    exact I1.fpOk (Nat.le_refl _) (I1.hok.fresh (Nat.le_refl _))
def tOrG (K : PySem.W.Frag) (ta tb : TE) : TE:=fun σ H Q=>ta σ H fun x H1=>∃ c,TruV K x H1 c∧if c = true then Q x H1 else tb σ H1 Q
def tAndG (K : PySem.W.Frag) (ta tb : TE) : TE:=fun σ H Q=>ta σ H fun x H1=>∃ c,TruV K x H1 c∧if c = true then tb σ H1 Q else Q x H1
variable {a b : Expr} {rest : List Expr} {pos : Pos} {ta tb : TE}
theorem pe_orG (K : PySem.W.Frag) (hK : X.K = K) (ha : PE X a ta) (hb : PE X (.BoolOp .Or (b :: rest) pos) tb) : PE X (.BoolOp .Or (a :: b :: rest) pos) (tOrG K ta tb):=.mk <| by
  subst hK
  intro pins s σ H Q I h
  refine BoolOp_or (thn (ha pins s σ H _ I h) fun v s1 ⟨x,H1,I1,r1,q1⟩=>?_)
  refine thn (tru_ok pins s1 σ H1 x v (fun c H2=>H2 = H1∧if c = true then Q x H1 else tb σ H1 Q) I1 r1 ?_) fun c s2 ⟨H2,I2,e,q2⟩=>?_
  · obtain ⟨c,hc,q⟩:=q1
    exact ⟨c,hc,rfl,q⟩
  · subst e
    cases c with
    | false=>rw [if_neg Bool.false_ne_true] at q2;exact hb pins s2 σ H2 Q I2 q2
    | true=>rw [if_pos rfl] at q2;exact ⟨x,H2,I2,r1,q2⟩
theorem pe_andG (K : PySem.W.Frag) (hK : X.K = K) (ha : PE X a ta) (hb : PE X (.BoolOp .And (b :: rest) pos) tb) : PE X (.BoolOp .And (a :: b :: rest) pos) (tAndG K ta tb):=.mk <| by
  subst hK
  intro pins s σ H Q I h
  refine BoolOp_and (thn (ha pins s σ H _ I h) fun v s1 ⟨x,H1,I1,r1,q1⟩=>?_)
  refine thn (tru_ok pins s1 σ H1 x v (fun c H2=>H2 = H1∧if c = true then tb σ H1 Q else Q x H1) I1 r1 ?_) fun c s2 ⟨H2,I2,e,q2⟩=>?_
  · obtain ⟨c,hc,q⟩:=q1
    exact ⟨c,hc,rfl,q⟩
  · subst e
    cases c with
    | true=>rw [if_pos rfl] at q2;exact hb pins s2 σ H2 Q I2 q2
    | false=>rw [if_neg Bool.false_ne_true] at q2;exact ⟨x,H2,I2,r1,q2⟩
end
def aOrG (ta tb : AE) : AE:=fun ρ ω Q=>ta ρ ω fun x ω1=>∃ c,truA ω1 x = some c∧if c = true then Q x ω1 else tb ρ ω1 Q
def aAndG (ta tb : AE) : AE:=fun ρ ω Q=>ta ρ ω fun x ω1=>∃ c,truA ω1 x = some c∧if c = true then tb ρ ω1 Q else Q x ω1
def aSl (te : AE) (tl th : AO) : AE:=fun ρ ω Q=>te ρ ω fun x ω1=>tl ρ ω1 fun lo ω2=>th ρ ω2 fun hi ω3=>match x with
  | .d (.tup ds)=>Q (.d (.tup (cutL ds lo hi))) ω3
  | x=>∃ ds,datA ω3 x = some (.lst ds)∧Q (.d (.lst (cutL ds lo hi))) ω3
def aiSeq (te : AE) : AI:=fun ρ ω R=>te ρ ω fun x ω1=>frzA ω1 x fun d ω2=>∃ ds,seqD d = some ds∧R (ds.map AV.d) ω2
def aAdd : A2:=fun x y ω Q=>match x with
  | .d (.int i)=>∃ j,y = .d (.int j)∧Q (.d (.int (i + j))) ω
  | .d (.tup ds)=>∃ es,y = .d (.tup es)∧ds.length + es.length≤sizeLine∧Q (.d (.tup (ds ++ es))) ω
  | x=>∃ ds es,datA ω x = some (.lst ds)∧datA ω y = some (.lst es)∧ds.length + es.length≤sizeLine∧Q (.d (.lst (ds ++ es))) ω
def aMul : A2:=fun x y ω Q=>match x with
  | .d (.int i)=>∃ j,y = .d (.int j)∧CMul i j∧Q (.d (.int (i * j))) ω
  | x=>aRepL x y ω Q
def aReprX : AC:=fun xs ω Q=>∃ x d,xs = [x]∧datA ω x = some d∧notS d = true∧dep d≤90∧fit d = true∧wt d≤1000000∧Q (.d (.str (repD d))) ω
section
variable {K : PySem.W.Frag} {te ta tb : TE} {te' ta' tb' : AE} {tl th : TO} {tl' th' : AO} {sa : TA} {sa' : AA}
theorem e_orG (ha : RefE ta ta') (hb : RefE tb tb') : RefE (tOrG K ta tb) (aOrG ta' tb'):=⟨fun F H ω σ ρ Q Q' rp rs h k =>
  ha.go rp rs h fun x ω1 v H1 rp1 fr1 rs1 rv1 ⟨c,e,q⟩=>⟨c,tru_of rp1 rv1 e,by
    cases c with
    | true=>rw [if_pos rfl] at q ⊢;exact k x ω1 v H1 rp1 fr1 rv1 q
    | false=>rw [if_neg Bool.false_ne_true] at q ⊢;exact hb.run F H1 ω1 σ ρ Q Q' rp1 rs1 q (k.fr fr1)⟩⟩
theorem e_andG (ha : RefE ta ta') (hb : RefE tb tb') : RefE (tAndG K ta tb) (aAndG ta' tb'):=⟨fun F H ω σ ρ Q Q' rp rs h k =>
  ha.go rp rs h fun x ω1 v H1 rp1 fr1 rs1 rv1 ⟨c,e,q⟩=>⟨c,tru_of rp1 rv1 e,by
    cases c with
    | false=>rw [if_neg Bool.false_ne_true] at q ⊢;exact k x ω1 v H1 rp1 fr1 rv1 q
    | true=>rw [if_pos rfl] at q ⊢;exact hb.run F H1 ω1 σ ρ Q Q' rp1 rs1 q (k.fr fr1)⟩⟩
theorem e_sl (he : RefE te te') (hl : Ref REq tl tl') (hh : Ref REq th th') : RefE (tSl (rSlAny K) te tl th) (aSl te' tl' th'):=⟨fun F H ω σ ρ Q Q' rp rs w k =>
  he.go rp rs w fun x ω1 v H1 rp1 fr1 rs1 rv1 q1=>hl.go rp1 rs1 q1 fun lo ω2 lo' H2 rp2 fr2 rs2 e2 q2=>hh.go rp2 rs2 q2 fun hi ω3 hi' H3 rp3 fr3 rs3 e3 q=>by
    cases (show lo = lo' from e2)
    cases (show hi = hi' from e3)
    have r:=rv1.same (fr2.trans fr3).same
    have k3:=k.fr ((fr1.trans fr2).trans fr3)
    have ls : (∃ ds,datA ω3 x = some (.lst ds)∧Q' (.d (.lst (cutL ds lo hi))) ω3)→rSlAny K v lo hi H3 Q:=fun ⟨ds,e,q⟩=>by
      obtain ⟨a,vs,rfl,z1,z2⟩:=dats_of rp3 r e
      exact .inl ⟨a,vs,rfl,.inl (.inl z1),k3.lst rp3 z2.cut q⟩
    cases x with
    | d x=>cases x with
      | tup ds =>
        refine .inr ?_
        have r':=r
        simp only [RV,Dat] at r
        obtain ⟨a,vs,rfl,z1,z2⟩:=r
        refine ⟨a,vs,rfl,.inl (.inl (cut_same _ _ z1)),?_⟩
        by_cases hw : HT.sIx vs.length 0 lo = 0∧HT.sIx vs.length vs.length hi = vs.length
        · rw [if_pos hw]
          have : cutL ds lo hi = ds:=by
            unfold cutL
            rw [← z2.length,hw.1,hw.2,List.drop_zero,Nat.sub_zero,z2.length,List.take_length]
          replace q : Q' (.d (.tup (cutL ds lo hi))) ω3:=q
          rw [this] at q
          exact k3 _ ω3 _ H3 rp3 .refl r' q
        · rw [if_neg hw]
          exact k3.tup rp3 z2.cut q
      | _=>exact ls q
    | _=>exact ls q⟩
theorem i_seq (h : RefE te te') : RefI (iSeq K te) (aiSeq te'):=⟨fun F H ω σ ρ R R' rp rs w k=>h.go rp rs w fun x ω1 v H1 rp1 fr1 rs1 rv q=>by
  obtain ⟨d,ω2,rp2,fr2,hd,ds,hs,q2⟩:=frz_of rp1 rv q
  cases d with
  | lst es =>
    cases hs
    obtain ⟨a,vs,rfl,ha⟩:=dat_ref_l hd
    exact .inl ⟨a,rfl,⟨vs,.inl (.inl (cut_same _ _ ha))⟩,k _ ω2 _ H1 rp2 (fr1.trans fr2) (it_list hd) q2⟩
  | tup es =>
    cases hs
    obtain ⟨a,vs,rfl,ha⟩:=dat_ref_t hd
    exact .inr ⟨a,rfl,⟨vs,.inl (.inl (cut_same _ _ ha))⟩,k _ ω2 _ H1 rp2 (fr1.trans fr2) (it_tup hd) q2⟩
  | _=>cases hs⟩
theorem o_add : Ref2 (rOr (rI0 fun i j=>.int (i + j)) (rOr rCat3 rCat)) aAdd:=⟨fun F H ω v u x y Q Q' rp h1 h2 q k=>by
  have ls : (∃ ds es,datA ω x = some (.lst ds)∧datA ω y = some (.lst es)∧ds.length + es.length≤sizeLine∧Q' (.d (.lst (ds ++ es))) ω)→rOr (rI0 fun i j=>.int (i + j)) (rOr rCat3 rCat) v u H Q:=fun q =>
    .inr (.inr (o_catL.run F H ω v u x y Q Q' rp h1 h2 q k))
  cases x with
  | d x=>cases x with
    | int i =>
      obtain ⟨j,rfl,q⟩:=q
      exact .inl ⟨i,j,rv_int h1,rv_int h2,k.int rp q⟩
    | tup ds =>
      obtain ⟨es,rfl,z,q⟩:=q
      exact .inr (.inl (o_cat3.run F H ω v u _ _ Q Q' rp h1 h2 ⟨ds,es,rfl,rfl,z,q⟩ k))
    | _=>exact ls q
  | _=>exact ls q⟩
theorem o_mul : Ref2 (rOr (rI CMul fun i j=>.int (i * j)) rRep) aMul:=⟨fun F H ω v u x y Q Q' rp h1 h2 q k=>by
  have ls : aRepL x y ω Q'→rOr (rI CMul fun i j=>.int (i * j)) rRep v u H Q:=fun q=>.inr (o_repL.run F H ω v u x y Q Q' rp h1 h2 q k)
  cases x with
  | d x=>cases x with
    | int i =>
      obtain ⟨j,rfl,c,q⟩:=q
      exact .inl ⟨i,j,rv_int h1,rv_int h2,c,k.int rp q⟩
    | _=>exact ls q
  | _=>exact ls q⟩
theorem c_reprX : RefC (fun xs H Q=>∃ (x : V) (d : D),xs = [x]∧Dat H d x∧notS d = true∧dep d≤90∧fit d = true∧wt d≤1000000∧Q (.str (repD d)) H) aReprX:=⟨fun F H ω vs xs Q Q' rp rv ⟨x,d,e1,e2,e3,h1,h2,h3,q⟩ k=>by
  subst e1
  obtain ⟨v,rfl,r⟩:=rvs1 rv
  exact ⟨v,d,rfl,dat_of rp r e2,e3,h1,h2,h3,k.str rp q⟩⟩
end
def vD : V→Option D
  | .non=>some .non
  | .bl b=>some (.bl b)
  | .int i=>some (.int i)
  | .str x=>some (.str x)
  | _=>none
def aSGet (kvs : List (Str × V)) (ty : AE) : AE:=fun ρ ω Q=>ty ρ ω fun y ω1=>∃ x v d,y = .d (.str x)∧valS kvs x = some v∧vD v = some d∧Q (.d d) ω1
theorem e_sget {kvs : List (Str × V)} {a : Addr} {ty : TE} {ty' : AE} (h : RefE ty ty') : RefE (tSGet kvs (tC (.ref a)) ty) (aSGet kvs ty'):=⟨fun F H ω σ ρ Q Q' rp rs w k=>h.go rp rs w fun y ω1 u H1 rp1 fr1 rs1 rv ⟨x,v,d,e1,e2,e3,q⟩=>by
  subst e1
  refine ⟨x,v,rv_str rv,e2,?_⟩
  refine k (.d d) ω1 v H1 rp1 fr1 ?_ q
  cases v<;>simp only [vD,Option.some.injEq,reduceCtorEq] at e3
  all_goals (subst e3;simp [RV,Dat])⟩
def startA (N : List Str) (xs : List AV) : SA:=xs.map some ++ List.replicate (N.length - xs.length) none
theorem RS.start {G : Hp} {N : List Str} {xs : List AV} {vs : List V} (h : RVs G xs vs) : RS G (startA N xs) (start N vs):=by
  refine ⟨by simp [startA,L2.start,h.length],fun i a e=>?_⟩
  unfold startA at e
  unfold L2.start
  by_cases hi : i < xs.length
  · rw [List.getElem?_append_left (by simpa using hi),List.getElem?_map] at e
    rw [List.getElem?_append_left (by simpa [h.length] using hi),List.getElem?_map]
    cases z : xs[i]? with
    | none=>rw [z] at e;simp at e
    | some b =>
      rw [z] at e
      simp at e
      subst e
      obtain ⟨v,e1,e2⟩:=h.get z
      exact ⟨v,by rw [e1];rfl,e2⟩
  · rw [List.getElem?_append_right (by simpa using hi)] at e
    have:=List.mem_of_getElem? e
    rw [List.mem_replicate] at this
    cases this.2
theorem Fun.okA {P : Program} {w : World} {K : PySem.W.Frag} {mg : Str→Option Value} {base : Heap} {x qual : Str} {st : Stmt} {f : Addr} {fd : FuncData} {N ps : List Str} {k : Nat} {sp : ASp} (F : Fun K x qual st f fd) (S : FnScope N ps (defScope st)) (len : ∀ xs ω Q,sp xs ω Q→xs.length = ps.length)
    (hbody : ∀ (cdv : Value) (A : Around) (outer : List Env) (s : Shared) (H : Hp) (E : XK),Room k (A.deeper (envOfC qual (defScope st) s.heap.objs.size f cdv)) →
      ∃ t t',PSs (cxOf CX0 P w K mg base N qual (defScope st) f cdv A outer s H E).nox (defBody st) t∧RefS t t'∧∀ xs ω Q',sp xs ω Q'→t' { nx:=fun _ ω'=>Q' (.d .non) ω',rt:=Q' } (startA N xs) ω) : FnOk P w K mg base CX0 (k + 1) f fd ps (lift sp):=by
  refine F.ok S (fun vs H Q E h=>?_) (fun cdv A outer s H vs Q E hr h=>?_)
  · obtain ⟨F,xs,ω,Q',rp,rv,h,_⟩:=h
    rw [rv.length,len xs ω Q' h]
  · obtain ⟨t,t',h1,h2,h3⟩:=hbody cdv A outer s H E hr
    obtain ⟨F,xs,ω,Q',rp,rv,h,kq⟩:=h
    refine ⟨t,h1,h2.run F H ω _ _ _ _ rp (RS.start rv) (h3 xs ω Q' h) ⟨?_,kq,fun _ _ _ _ _ _ _ z=>z.elim,fun _ _ _ _ _ _ _ z=>z.elim⟩⟩
    exact fun ρ' ω' σ' H' e1 e2 e3 q=>kq (.d .non) ω' .non H' e1 e2 (by simp [RV,Dat]) q
theorem aNext_eq (D : AEnds) (ρ : SA) (ω : Om) : aNext D ρ ω = (D.nx ρ ω):=rfl
theorem aSeq_eq (t u : AS) (D : AEnds) (ρ : SA) (ω : Om) : aSeq t u D ρ ω = (t { D with nx:=u D } ρ ω):=rfl
theorem aCont_eq (D : AEnds) (ρ : SA) (ω : Om) : aCont D ρ ω = (D.ct ρ ω):=rfl
theorem aDrop_eq (te : AE) (D : AEnds) (ρ : SA) (ω : Om) : aDrop te D ρ ω = (te ρ ω fun _ ω1=>D.nx ρ ω1):=rfl
theorem aRet_eq (te : AE) (D : AEnds) (ρ : SA) (ω : Om) : aRet te D ρ ω = (te ρ ω D.rt):=rfl
theorem aIfS_eq (c : AT) (t u : AS) (D : AEnds) (ρ : SA) (ω : Om) : aIfS c t u D ρ ω = (c ρ ω fun b ω1=>if b = true then t D ρ ω1 else u D ρ ω1):=rfl
theorem aAsg_eq (te : AE) (g : AG) (D : AEnds) (ρ : SA) (ω : Om) : aAsg te g D ρ ω = (te ρ ω fun x ω1=>g x ρ ω1 D.nx):=rfl
theorem agName_eq (i : Nat) (v : AV) (ρ : SA) (ω : Om) (Q : SA→Om→Prop) : agName i v ρ ω Q = (Q (ρ.set i (some v)) ω):=rfl
theorem agNil_eq (vs : List AV) (ρ : SA) (ω : Om) (Q : SA→Om→Prop) : agNil vs ρ ω Q = (vs = []∧Q ρ ω):=rfl
theorem agCons_eq (t : AG) (u : AGs) (vs : List AV) (ρ : SA) (ω : Om) (Q : SA→Om→Prop) : agCons t u vs ρ ω Q = (∃ v r,vs = v :: r∧t v ρ ω fun ρ' ω'=>u r ρ' ω' Q):=rfl
theorem aFor_eq (wi : AI) (g : AG) (tb : AS) (D : AEnds) (ρ : SA) (ω : Om) : aFor wi g tb D ρ ω = (wi ρ ω fun as ω1=>aForL g tb D as ρ ω1):=rfl
theorem aNoTest_eq (z0 : SA) (ω : Om) (Q : Bool→Om→Prop) : aNoTest z0 ω Q = (Q true ω):=rfl
theorem aLast_eq (te : AE) (xs : List AV) (ρ : SA) (ω : Om) (K : List AV→SA→Om→Prop) : aLast te xs ρ ω K = (te ρ ω fun y ω1=>xs.length < sizeLine∧K (xs ++ [y]) ρ ω1):=rfl
theorem aLFor_eq (wi : AI) (g : AG) (tc : AT) (l : AL) (xs : List AV) (ρ : SA) (ω : Om) (K : List AV→SA→Om→Prop) : aLFor wi g tc l xs ρ ω K = (wi ρ ω fun as ω1=>aLoop g tc l as xs ρ ω1 K):=rfl
theorem aVar_eq (i : Nat) (ρ : SA) (ω : Om) (Q : AV→Om→Prop) : aVar i ρ ω Q = (∃ a,ρ[i]? = some (some a)∧Q a ω):=rfl
theorem aVarF_eq (i : Nat) (ρ : SA) (ω : Om) (Q : AV→Om→Prop) : aVarF i ρ ω Q = (∃ a,ρ[i]? = some (some a)∧frzA ω a fun d ω'=>Q (.d d) ω'):=rfl
theorem aC_eq (d : D) (z0 : SA) (ω : Om) (Q : AV→Om→Prop) : aC d z0 ω Q = (Q (.d d) ω):=rfl
theorem aOp_eq (r : A2) (ta tb : AE) (ρ : SA) (ω : Om) (Q : AV→Om→Prop) : aOp r ta tb ρ ω Q = (ta ρ ω fun x ω1=>tb ρ ω1 fun y ω2=>r x y ω2 Q):=rfl
theorem aNil_eq (z0 : SA) (ω : Om) (Q : List AV→Om→Prop) : aNil z0 ω Q = (Q [] ω):=rfl
theorem aCons_eq (ta : AE) (tr : AA) (ρ : SA) (ω : Om) (Q : List AV→Om→Prop) : aCons ta tr ρ ω Q = (ta ρ ω fun x ω1=>tr ρ ω1 fun xs ω2=>Q (x :: xs) ω2):=rfl
theorem aTup_eq (t : AA) (ρ : SA) (ω : Om) (Q : AV→Om→Prop) : aTup t ρ ω Q = (t ρ ω fun xs ω1=>xs.length≤sizeLine∧∃ ds,und xs = some ds∧Q (.d (.tup ds)) ω1):=rfl
theorem aLst_eq (t : AA) (ρ : SA) (ω : Om) (Q : AV→Om→Prop) : aLst t ρ ω Q = (t ρ ω fun xs ω1=>xs.length≤sizeLine∧∃ ds,und xs = some ds∧Q (.d (.lst ds)) ω1):=rfl
theorem aLstO_eq (t : AA) (ρ : SA) (ω : Om) (Q : AV→Om→Prop) : aLstO t ρ ω Q = (t ρ ω fun xs ω1=>xs.length≤sizeLine∧∀ p,ω1 p = none→Q (.r (.ref p)) (ω1.put p (.own xs))):=rfl
theorem aCall_eq (sp : ASp) (t : AA) (ρ : SA) (ω : Om) (Q : AV→Om→Prop) : aCall sp t ρ ω Q = (t ρ ω fun xs ω1=>sp xs ω1 Q):=rfl
theorem aTest_eq (t : AE) (ρ : SA) (ω : Om) (Q : Bool→Om→Prop) : aTest t ρ ω Q = (t ρ ω fun x ω1=>∃ k,x = .d (.bl k)∧Q k ω1):=rfl
theorem aAnd_eq (t u : AT) (ρ : SA) (ω : Om) (Q : Bool→Om→Prop) : aAnd t u ρ ω Q = (t ρ ω fun c ω1=>if c = true then u ρ ω1 Q else Q false ω1):=rfl
theorem aOr_eq (t u : AT) (ρ : SA) (ω : Om) (Q : Bool→Om→Prop) : aOr t u ρ ω Q = (t ρ ω fun c ω1=>if c = true then Q true ω1 else u ρ ω1 Q):=rfl
theorem aNot_eq (t : AT) (ρ : SA) (ω : Om) (Q : Bool→Om→Prop) : aNot t ρ ω Q = (t ρ ω fun c ω1=>Q (!c) ω1):=rfl
theorem aIf_eq (t : AT) (ta tb : AE) (ρ : SA) (ω : Om) (Q : AV→Om→Prop) : aIf t ta tb ρ ω Q = (t ρ ω fun c ω1=>if c = true then ta ρ ω1 Q else tb ρ ω1 Q):=rfl
theorem aTru_eq (ta : AE) (ρ : SA) (ω : Om) (Q : Bool→Om→Prop) : aTru ta ρ ω Q = (ta ρ ω fun x ω1=>∃ k,truA ω1 x = some k∧Q k ω1):=rfl
theorem aI0_eq (f : Int→Int→D) (x : AV) (y : AV) (ω : Om) (Q : AV→Om→Prop) : aI0 f x y ω Q = (∃ i j,x = .d (.int i)∧y = .d (.int j)∧Q (.d (f i j)) ω):=rfl
theorem aI_eq (C : Int→Int→Prop) (f : Int→Int→D) (x : AV) (y : AV) (ω : Om) (Q : AV→Om→Prop) : aI C f x y ω Q = (∃ i j,x = .d (.int i)∧y = .d (.int j)∧C i j∧Q (.d (f i j)) ω):=rfl
theorem aEqD_eq (neg : Bool) (x : AV) (y : AV) (ω : Om) (Q : AV→Om→Prop) : aEqD neg x y ω Q = (∃ a b,datA ω x = some a∧datA ω y = some b∧dep a≤100∧Q (.d (.bl (if neg then !eqD a b else eqD a b))) ω):=rfl
theorem aIn_eq (neg : Bool) (x : AV) (y : AV) (ω : Om) (Q : AV→Om→Prop) : aIn neg x y ω Q = (∃ a b ds,datA ω x = some a∧datA ω y = some b∧(b = .lst ds∨b = .tup ds)∧deps ds≤90∧Q (.d (.bl (if neg then !inD a ds else inD a ds))) ω):=rfl
theorem aIx_eq (x : AV) (y : AV) (ω : Om) (Q : AV→Om→Prop) : aIx x y ω Q = (∃ xs i a,(lstA ω x = some xs∨tupA x = some xs)∧y = .d (.int i)∧atI xs i = some a∧Q a ω):=rfl
theorem aIsN_eq (neg : Bool) (x : AV) (y : AV) (ω : Om) (Q : AV→Om→Prop) : aIsN neg x y ω Q = (∃ a,x = .d a∧y = .d .non∧Q (.d (.bl (if neg then !eqD a .non else eqD a .non))) ω):=rfl
theorem aLen_eq (xs : List AV) (ω : Om) (Q : AV→Om→Prop) : aLen xs ω Q = (∃ x n,xs = [x]∧lenA ω x = some n∧Q (.d (.int n)) ω):=rfl
theorem aF2_eq (f : Int→Int→Int) (xs : List AV) (ω : Om) (Q : AV→Om→Prop) : aF2 f xs ω Q = (∃ i j,xs = [.d (.int i),.d (.int j)]∧Q (.d (.int (f i j))) ω):=rfl
theorem aF1_eq (f : Int→Int) (xs : List AV) (ω : Om) (Q : AV→Om→Prop) : aF1 f xs ω Q = (∃ i,xs = [.d (.int i)]∧Q (.d (.int (f i))) ω):=rfl
theorem aTupOf_eq (xs : List AV) (ω : Om) (Q : AV→Om→Prop) : aTupOf xs ω Q = (∃ x ds,xs = [x]∧(datA ω x = some (.lst ds)∨x = .d (.tup ds))∧Q (.d (.tup ds)) ω):=rfl
theorem aListOf_eq (xs : List AV) (ω : Om) (Q : AV→Om→Prop) : aListOf xs ω Q = (∃ x ds,xs = [x]∧(datA ω x = some (.lst ds)∨x = .d (.tup ds))∧Q (.d (.lst ds)) ω):=rfl
theorem aListO_eq (xs : List AV) (ω : Om) (Q : AV→Om→Prop) : aListO xs ω Q = (∃ x ds,xs = [x]∧(datA ω x = some (.lst ds)∨x = .d (.tup ds))∧∀ p,ω p = none→Q (.r (.ref p)) (ω.put p (.own (ds.map AV.d)))):=rfl
theorem aiRng1_eq (ta : AA) (ρ : SA) (ω : Om) (R : List AV→Om→Prop) : aiRng1 ta ρ ω R = (ta ρ ω fun xs ω1=>∃ j : Int,xs = [.d (.int j)]∧-(2 ^ 62)≤j∧j < 2 ^ 62∧R (rngA 0 j.toNat) ω1):=rfl
theorem agTup_eq (n : Nat) (t : AGs) (v : AV) (ρ : SA) (ω : Om) (Q : SA→Om→Prop) : agTup n t v ρ ω Q = (∃ ds,v = .d (.tup ds)∧ds.length = n∧t (ds.map AV.d) ρ ω Q):=rfl
theorem agSub_eq (to ti : AE) (v : AV) (ρ : SA) (ω : Om) (Q : SA→Om→Prop) : agSub to ti v ρ ω Q = (to ρ ω fun o ω1=>ti ρ ω1 fun i ω2=>∃ l k xs j,o = .r (.ref l)∧i = .d (.int k)∧ω2 l = some (.own xs)∧ixN xs.length k = some j∧Q ρ (ω2.put l (.own (xs.set j v)))):=rfl
theorem aoNone_eq (z0 : SA) (ω : Om) (Q : Option Int→Om→Prop) : aoNone z0 ω Q = (Q none ω):=rfl
theorem aoSome_eq (t : AE) (ρ : SA) (ω : Om) (Q : Option Int→Om→Prop) : aoSome t ρ ω Q = (t ρ ω fun x ω1=>∃ i,x = .d (.int i)∧Q (some i) ω1):=rfl
theorem aRev_eq (te : AE) (ρ : SA) (ω : Om) (Q : AV→Om→Prop) : aRev te ρ ω Q = (te ρ ω fun x ω1=>∃ ds,datA ω1 x = some (.lst ds)∧Q (.d (.lst ds.reverse)) ω1):=rfl
theorem aAppend_eq (to : AE) (t : AA) (ρ : SA) (ω : Om) (Q : AV→Om→Prop) : aAppend to t ρ ω Q = (to ρ ω fun x ω1=>∃ l,x = .r (.ref l)∧(∃ zs,ω1 l = some (.own zs))∧t ρ ω1 fun ys ω2=>∃ xs y,ys = [y]∧ω2 l = some (.own xs)∧xs.length < sizeLine∧Q (.d .non) (ω2.put l (.own (xs ++ [y])))):=rfl
theorem aExtend_eq (to : AE) (t : AA) (ρ : SA) (ω : Om) (Q : AV→Om→Prop) : aExtend to t ρ ω Q = (to ρ ω fun x ω1=>∃ l,x = .r (.ref l)∧(∃ zs,ω1 l = some (.own zs))∧t ρ ω1 fun ys ω2=>∃ xs y zs,ys = [y]∧ω2 l = some (.own xs)∧lstA ω2 y = some zs∧xs.length + zs.length≤sizeLine∧Q (.d .non) (ω2.put l (.own (xs ++ zs)))):=rfl
theorem aSorted_eq (xs : List AV) (ω : Om) (Q : AV→Om→Prop) : aSorted xs ω Q = (∃ (x : AV) (W : List (List Int)),xs = [x]∧datA ω x = some (.lst (W.map wdD))∧(∀ y∈W,y≠[])∧W.length < 64∧Q (.d (.lst ((srtW W).map wdD))) ω):=rfl
theorem aOrG_eq (ta tb : AE) (ρ : SA) (ω : Om) (Q : AV→Om→Prop) : aOrG ta tb ρ ω Q = (ta ρ ω fun x ω1=>∃ c,truA ω1 x = some c∧if c = true then Q x ω1 else tb ρ ω1 Q):=rfl
theorem aAndG_eq (ta tb : AE) (ρ : SA) (ω : Om) (Q : AV→Om→Prop) : aAndG ta tb ρ ω Q = (ta ρ ω fun x ω1=>∃ c,truA ω1 x = some c∧if c = true then tb ρ ω1 Q else Q x ω1):=rfl
theorem aiSeq_eq (te : AE) (ρ : SA) (ω : Om) (R : List AV→Om→Prop) : aiSeq te ρ ω R = (te ρ ω fun x ω1=>frzA ω1 x fun d ω2=>∃ ds,seqD d = some ds∧R (ds.map AV.d) ω2):=rfl
theorem aReprX_eq (xs : List AV) (ω : Om) (Q : AV→Om→Prop) : aReprX xs ω Q = (∃ x d,xs = [x]∧datA ω x = some d∧notS d = true∧dep d≤90∧fit d = true∧wt d≤1000000∧Q (.d (.str (repD d))) ω):=rfl
theorem aComp_eq (src : List (Option Nat)) (wi : AI) (g : AG) (tc : AT) (l : AL) (ρ : SA) (ω : Om) (Q : AV→Om→Prop) : aComp src wi g tc l ρ ω Q = (wi ρ ω fun as ω1=>aLoop g tc l as [] (blkA src ρ) ω1 fun xs _ ω'=>∃ ds,und xs = some ds∧Q (.d (.lst ds)) ω'):=rfl
theorem aCB_eq (r : List AV→Om→(AV→Om→Prop)→Prop) (t : AA) (ρ : SA) (ω : Om) (Q : AV→Om→Prop) : aCB r t ρ ω Q = (t ρ ω fun xs ω1=>r xs ω1 Q):=rfl
theorem aSGet_eq (kvs : List (Str × V)) (ty : AE) (ρ : SA) (ω : Om) (Q : AV→Om→Prop) : aSGet kvs ty ρ ω Q = (ty ρ ω fun y ω1=>∃ x v d,y = .d (.str x)∧valS kvs x = some v∧vD v = some d∧Q (.d d) ω1):=rfl
theorem aAdd_int (i : Int) (y : AV) (ω : Om) (Q : AV→Om→Prop) : aAdd (.d (.int i)) y ω Q = (∃ j,y = .d (.int j)∧Q (.d (.int (i + j))) ω):=rfl
theorem aAdd_tup (ds : List D) (y : AV) (ω : Om) (Q : AV→Om→Prop) : aAdd (.d (.tup ds)) y ω Q = (∃ es,y = .d (.tup es)∧ds.length + es.length≤sizeLine∧Q (.d (.tup (ds ++ es))) ω):=rfl
theorem aAdd_lst (ds : List D) (y : AV) (ω : Om) (Q : AV→Om→Prop) : aAdd (.d (.lst ds)) y ω Q = (∃ es,datA ω y = some (.lst es)∧ds.length + es.length≤sizeLine∧Q (.d (.lst (ds ++ es))) ω):=by
  show (∃ ds' es,datA ω (.d (.lst ds)) = some (.lst ds')∧datA ω y = some (.lst es)∧ds'.length + es.length≤sizeLine∧Q (.d (.lst (ds' ++ es))) ω) = _
  simp only [datA,Option.some.injEq,D.lst.injEq,exists_eq_left',exists_and_left]
theorem aAdd_ref (l : Addr) (y : AV) (ω : Om) (Q : AV→Om→Prop) : aAdd (.r (.ref l)) y ω Q = (∃ ds es,datA ω (.r (.ref l)) = some (.lst ds)∧datA ω y = some (.lst es)∧ds.length + es.length≤sizeLine∧Q (.d (.lst (ds ++ es))) ω):=rfl
theorem aMul_int (i : Int) (y : AV) (ω : Om) (Q : AV→Om→Prop) : aMul (.d (.int i)) y ω Q = (∃ j,y = .d (.int j)∧CMul i j∧Q (.d (.int (i * j))) ω):=rfl
def slA (x : AV) (lo hi : Option Int) (ω : Om) (Q : AV→Om→Prop) : Prop:=match x with
  | .d (.tup ds)=>Q (.d (.tup (cutL ds lo hi))) ω
  | x=>∃ ds,datA ω x = some (.lst ds)∧Q (.d (.lst (cutL ds lo hi))) ω
theorem slA_tup (ds : List D) (lo hi : Option Int) (ω : Om) (Q : AV→Om→Prop) : slA (.d (.tup ds)) lo hi ω Q = Q (.d (.tup (cutL ds lo hi))) ω:=rfl
theorem slA_lst (ds : List D) (lo hi : Option Int) (ω : Om) (Q : AV→Om→Prop) : slA (.d (.lst ds)) lo hi ω Q = Q (.d (.lst (cutL ds lo hi))) ω:=by
  show (∃ ds',datA ω (.d (.lst ds)) = some (.lst ds')∧Q (.d (.lst (cutL ds' lo hi))) ω) = _
  simp only [datA,Option.some.injEq,D.lst.injEq,exists_eq_left']
theorem aSl_eq (te : AE) (tl th : AO) (ρ : SA) (ω : Om) (Q : AV→Om→Prop) : aSl te tl th ρ ω Q = (te ρ ω fun x ω1=>tl ρ ω1 fun lo ω2=>th ρ ω2 fun hi ω3=>slA x lo hi ω3 Q):=rfl
theorem frzA_d (ω : Om) (x : D) (K : D→Om→Prop) : frzA ω (.d x) K = K x ω:=rfl
theorem frzA_r (ω : Om) (l : Addr) (K : D→Om→Prop) : frzA ω (.r (.ref l)) K = (match ω l with
    | some (.own xs)=>∃ ds,und xs = some ds∧K (.lst ds) (ω.put l (.frz ds))
    | some (.frz ds)=>K (.lst ds) ω
    | _=>False):=rfl
theorem datA_d (ω : Om) (x : D) : datA ω (.d x) = some x:=rfl
theorem datA_r (ω : Om) (l : Addr) : datA ω (.r (.ref l)) = (match ω l with
    | some (.own xs)=>(und xs).map D.lst
    | some (.frz ds)=>some (.lst ds)
    | _=>none):=rfl
theorem lstA_l (ω : Om) (ds : List D) : lstA ω (.d (.lst ds)) = some (ds.map AV.d):=rfl
theorem lstA_t (ω : Om) (ds : List D) : lstA ω (.d (.tup ds)) = none:=rfl
theorem lstA_r (ω : Om) (l : Addr) : lstA ω (.r (.ref l)) = (match ω l with
    | some (.own xs)=>some xs
    | some (.frz ds)=>some (ds.map AV.d)
    | _=>none):=rfl
theorem tupA_t (ds : List D) : tupA (.d (.tup ds)) = some (ds.map AV.d):=rfl
theorem tupA_l (ds : List D) : tupA (.d (.lst ds)) = none:=rfl
theorem tupA_r (v : V) : tupA (.r v) = none:=rfl
theorem truA_b (ω : Om) (b : Bool) : truA ω (.d (.bl b)) = some b:=rfl
theorem truA_r (ω : Om) (l : Addr) : truA ω (.r (.ref l)) = (lstA ω (.r (.ref l))).map fun xs=>!xs.isEmpty:=rfl
theorem und_cons (x : D) (r : List AV) : und (.d x :: r) = (und r).map (x :: ·):=rfl
theorem und_nil : und [] = some []:=rfl
theorem lenA_t (ω : Om) (ds : List D) : lenA ω (.d (.tup ds)) = some ds.length:=by simp [lenA,tupA]
theorem lenA_l (ω : Om) (ds : List D) : lenA ω (.d (.lst ds)) = some ds.length:=by simp [lenA,tupA,lstA]
theorem lenA_r (ω : Om) (l : Addr) : lenA ω (.r (.ref l)) = (lstA ω (.r (.ref l))).map List.length:=rfl
theorem seqD_t (ds : List D) : seqD (.tup ds) = some ds:=rfl
theorem seqD_l (ds : List D) : seqD (.lst ds) = some ds:=rfl
theorem aLoop_nil (g : AG) (tc : AT) (l : AL) (xs : List AV) (ρ : SA) (ω : Om) (K : List AV→SA→Om→Prop) : aLoop g tc l [] xs ρ ω K = K xs ρ ω:=rfl
theorem aLoop_cons (g : AG) (tc : AT) (l : AL) (a : AV) (as xs : List AV) (ρ : SA) (ω : Om) (K : List AV→SA→Om→Prop) : aLoop g tc l (a :: as) xs ρ ω K = (g a ρ ω fun ρ1 ω1=>tc ρ1 ω1 fun b ω2=>if b = true then l xs ρ1 ω2 (fun xs' ρ' ω'=>aLoop g tc l as xs' ρ' ω' K) else aLoop g tc l as xs ρ1 ω2 K):=rfl
theorem for_ix {g : AG} {tb : AS} {D : AEnds} {as : List AV} {ρ : SA} {ω : Om} (I : Nat→SA→Om→Prop) (h0 : I 0 ρ ω)
    (hs : ∀ (i : Nat) (a : AV) (ρ : SA) (ω : Om) (N : SA→Om→Prop),as[i]? = some a→I i ρ ω→(∀ ρ' ω',I (i + 1) ρ' ω'→N ρ' ω')→g a ρ ω fun ρ1 ω1=>tb { nx:=N,ct:=N,bk:=D.nx,rt:=D.rt } ρ1 ω1)
    (hd : ∀ ρ ω,I as.length ρ ω→D.nx ρ ω) : aForL g tb D as ρ ω:=by
  have key : ∀ (n i : Nat) (ρ : SA) (ω : Om),i + n = as.length→I i ρ ω→aForL g tb D (as.drop i) ρ ω:=by
    intro n
    induction n with
    | zero=>intro i ρ ω hi h;rw [List.drop_eq_nil_of_le (by omega)];exact hd ρ ω (by rw [← hi];exact h)
    | succ n ih =>
      intro i ρ ω hi h
      obtain ⟨a,ha,hdr⟩:=drop_cons (as:=as) (i:=i) (by omega)
      rw [hdr]
      exact hs i a ρ ω _ ha h fun ρ' ω' h'=>ih (i + 1) ρ' ω' (by omega) h'
  simpa using key as.length 0 ρ ω (by omega) h0
theorem for_D {g : AG} {tb : AS} {D : AEnds} {ds : List L2.D} {ρ : SA} {ω : Om} (I : Nat→SA→Om→Prop) (h0 : I 0 ρ ω)
    (hs : ∀ (i : Nat) (d : L2.D) (ρ : SA) (ω : Om) (N : SA→Om→Prop),ds[i]? = some d→I i ρ ω→(∀ ρ' ω',I (i + 1) ρ' ω'→N ρ' ω')→g (.d d) ρ ω fun ρ1 ω1=>tb { nx:=N,ct:=N,bk:=D.nx,rt:=D.rt } ρ1 ω1)
    (hd : ∀ ρ ω,I ds.length ρ ω→D.nx ρ ω) : aForL g tb D (ds.map AV.d) ρ ω :=
  for_ix I h0 (fun i a ρ ω N ha h k=>by
    rw [List.getElem?_map,Option.map_eq_some_iff] at ha
    obtain ⟨d,h1,rfl⟩:=ha
    exact hs i d ρ ω N h1 h k) (fun ρ ω h=>hd ρ ω (by simpa using h))
theorem for_rng {g : AG} {tb : AS} {D : AEnds} {lo : Int} {n : Nat} {ρ : SA} {ω : Om} (I : Nat→SA→Om→Prop) (h0 : I 0 ρ ω)
    (hs : ∀ (i : Nat) (ρ : SA) (ω : Om) (N : SA→Om→Prop),i < n→I i ρ ω→(∀ ρ' ω',I (i + 1) ρ' ω'→N ρ' ω')→g (.d (.int (lo + (i : Nat)))) ρ ω fun ρ1 ω1=>tb { nx:=N,ct:=N,bk:=D.nx,rt:=D.rt } ρ1 ω1)
    (hd : ∀ ρ ω,I n ρ ω→D.nx ρ ω) : aForL g tb D (rngA lo n) ρ ω :=
  for_ix I h0 (fun i a ρ ω N ha h k=>by
    unfold rngA at ha
    rw [List.getElem?_map,Option.map_eq_some_iff] at ha
    obtain ⟨j,h1,rfl⟩:=ha
    obtain ⟨hj,rfl⟩:=List.getElem?_eq_some_iff.mp h1
    simp only [List.getElem_range,List.length_range] at hj ⊢
    exact hs i ρ ω N hj h k) (fun ρ ω h=>hd ρ ω (by simpa [rngA] using h))
theorem loop_ix {g : AG} {tc : AT} {l : AL} {as xs : List AV} {ρ : SA} {ω : Om} {K : List AV→SA→Om→Prop} (I : Nat→List AV→SA→Om→Prop) (h0 : I 0 xs ρ ω)
    (hs : ∀ (i : Nat) (a : AV) (xs : List AV) (ρ : SA) (ω : Om) (N : List AV→SA→Om→Prop),as[i]? = some a→I i xs ρ ω→(∀ xs' ρ' ω',I (i + 1) xs' ρ' ω'→N xs' ρ' ω')→g a ρ ω fun ρ1 ω1=>tc ρ1 ω1 fun b ω2=>if b = true then l xs ρ1 ω2 N else N xs ρ1 ω2)
    (hd : ∀ xs ρ ω,I as.length xs ρ ω→K xs ρ ω) : aLoop g tc l as xs ρ ω K:=by
  have key : ∀ (n i : Nat) (xs : List AV) (ρ : SA) (ω : Om),i + n = as.length→I i xs ρ ω→aLoop g tc l (as.drop i) xs ρ ω K:=by
    intro n
    induction n with
    | zero=>intro i xs ρ ω hi h;rw [List.drop_eq_nil_of_le (by omega)];exact hd xs ρ ω (by rw [← hi];exact h)
    | succ n ih =>
      intro i xs ρ ω hi h
      obtain ⟨a,ha,hdr⟩:=drop_cons (as:=as) (i:=i) (by omega)
      rw [hdr]
      exact hs i a xs ρ ω (fun xs' ρ' ω'=>aLoop g tc l (as.drop (i + 1)) xs' ρ' ω' K) ha h fun xs' ρ' ω' h'=>ih (i + 1) xs' ρ' ω' (by omega) h'
  simpa using key as.length 0 xs ρ ω (by omega) h0
theorem loop_D {g : AG} {tc : AT} {l : AL} {ds : List D} {xs : List AV} {ρ : SA} {ω : Om} {K : List AV→SA→Om→Prop} (I : Nat→List AV→SA→Om→Prop) (h0 : I 0 xs ρ ω)
    (hs : ∀ (i : Nat) (d : D) (xs : List AV) (ρ : SA) (ω : Om) (N : List AV→SA→Om→Prop),ds[i]? = some d→I i xs ρ ω→(∀ xs' ρ' ω',I (i + 1) xs' ρ' ω'→N xs' ρ' ω')→g (.d d) ρ ω fun ρ1 ω1=>tc ρ1 ω1 fun b ω2=>if b = true then l xs ρ1 ω2 N else N xs ρ1 ω2)
    (hd : ∀ xs ρ ω,I ds.length xs ρ ω→K xs ρ ω) : aLoop g tc l (ds.map AV.d) xs ρ ω K :=
  loop_ix I h0 (fun i a xs ρ ω N ha h k=>by
    rw [List.getElem?_map,Option.map_eq_some_iff] at ha
    obtain ⟨d,h1,rfl⟩:=ha
    exact hs i d xs ρ ω N h1 h k) (fun xs ρ ω h=>hd xs ρ ω (by simpa using h))
theorem comp_fm {tc : AT} {te : AE} {ds : List D} {v0 : Option AV} {rest : SA} {ω : Om} {K : List AV→SA→Om→Prop} (p : D→Bool) (f : D→D)
    (ht : ∀ d∈ds,∀ Q : Bool→Om→Prop,Q (p d) ω→tc (some (.d d) :: rest) ω Q) (he : ∀ d∈ds,p d = true→∀ Q : AV→Om→Prop,Q (.d (f d)) ω→te (some (.d d) :: rest) ω Q) (hz : ds.length≤sizeLine)
    (hk : ∀ ρ,K (((ds.filter p).map f).map AV.d) ρ ω) : aLoop (agName 0) tc (aLast te) (ds.map AV.d) [] (v0 :: rest) ω K:=by
  refine loop_D (fun i xs ρ ω'=>ω' = ω∧(∃ v,ρ = v :: rest)∧xs = (((ds.take i).filter p).map f).map AV.d) ⟨rfl,⟨_,rfl⟩,rfl⟩ ?_ ?_
  · rintro i d xs ρ ω' N hd ⟨rfl,⟨v,rfl⟩,rfl⟩ kN
    have hi:=(List.getElem?_eq_some_iff.mp hd).1
    have hm:=List.mem_of_getElem? hd
    have et : ds.take (i + 1) = ds.take i ++ [d]:=by rw [List.take_succ,hd];rfl
    rw [agName_eq,List.set_cons_zero]
    refine ht d hm _ ?_
    cases hp : p d with
    | true =>
      rw [if_pos rfl,aLast_eq]
      refine he d hm hp _ ⟨?_,kN _ _ _ ⟨rfl,⟨_,rfl⟩,?_⟩⟩
      · rw [List.length_map,List.length_map]
        have:=List.length_filter_le p (ds.take i)
        rw [List.length_take] at this
        omega
      · rw [et,List.filter_append]
        simp [hp]
    | false =>
      rw [if_neg Bool.false_ne_true]
      refine kN _ _ _ ⟨rfl,⟨_,rfl⟩,?_⟩
      rw [et,List.filter_append]
      simp [hp]
  · rintro xs ρ ω' ⟨rfl,_,rfl⟩
    rw [List.take_length]
    exact hk ρ
structure Pn where
  f : Int
  x : Int
  i : Int
  h : 0≤f
section
variable {α : Type} (a b c e : α) (l : List α)
theorem atI_of {xs : List α} {x : α} (j : Nat) {i : Int} (hi : i = (j : Int)) (h : xs[j]? = some x) : atI xs i = some x:=by
  subst hi
  have hj:=(List.getElem?_eq_some_iff.mp h).1
  unfold atI ixN
  rw [if_pos (by omega),if_pos (by omega)]
  simpa using h
theorem atI_0 : atI (a :: l) 0 = some a:=atI_of 0 rfl rfl
theorem atI_1 : atI (a :: b :: l) 1 = some b:=atI_of 1 rfl rfl
theorem atI_2 : atI (a :: b :: c :: l) 2 = some c:=atI_of 2 rfl rfl
theorem atI_3 : atI (a :: b :: c :: e :: l) 3 = some e:=atI_of 3 rfl rfl
end
theorem sz1 : (1≤sizeLine) = True:=eq_true (by decide)
theorem sz2 : (2≤sizeLine) = True:=eq_true (by decide)
theorem sz3 : (3≤sizeLine) = True:=eq_true (by decide)
theorem sz4 : (4≤sizeLine) = True:=eq_true (by decide)
theorem ixN_30 : ixN 3 0 = some 0:=rfl
theorem eqD_int (a b : Int) : eqD (.int a) (.int b) = (a == b):=by simp [eqD]
theorem eqD_str (a b : Str) : eqD (.str a) (.str b) = (a == b):=by simp [eqD]
theorem eqD_nn : eqD .non .non = true:=by simp [eqD]
theorem eqD_tn (a : List D) : eqD (.tup a) .non = false:=by simp [eqD]
theorem dep_int (a : Int) : dep (.int a) = 0:=by simp [dep]
theorem dep_str (a : Str) : dep (.str a) = 0:=by simp [dep]
theorem le_dec {n m : Nat} (h : n≤1000) : n≤sizeLine:=Nat.le_trans h (by decide)
theorem lt_dec {n m : Nat} (h : n≤1000) : n < sizeLine:=Nat.lt_of_le_of_lt h (by decide)
def Om.only (ω' ω : Om) : Om:=fun b=>if (ω b).isSome = true then ω' b else none
def Ex (ω ω' : Om) : Prop:=∀ b,(ω b).isSome = true→ω' b = ω b
theorem Ex.refl (ω : Om) : Ex ω ω:=fun _ _=>rfl
theorem Ex.none {ω ω' : Om} (h : Ex ω ω') {l : Addr} (e : ω' l = none) : ω l = none:=by
  cases z : ω l with
  | none=>rfl
  | some c=>have:=h l (by rw [z];rfl);rw [e,z] at this;cases this
theorem Ex.new {ω ω' : Om} (h : Ex ω ω') {l : Addr} {c : OC} (e : ω' l = Option.none) : Ex ω (ω'.put l c):=fun b hb=>by
  have : b≠l:=fun z=>by subst z;rw [h.none e] at hb;cases hb
  rw [Om.put_ne this];exact h b hb
theorem Ex.over {ω ω' : Om} (h : Ex ω ω') {l : Addr} {c : OC} (e : ω l = Option.none) : Ex ω (ω'.put l c):=fun b hb=>by
  have : b≠l:=fun z=>by subst z;rw [e] at hb;cases hb
  rw [Om.put_ne this];exact h b hb
theorem Ex.put {ω ω' : Om} (h : Ex ω ω') {l : Addr} {c : OC} : Ex (ω.put l c) (ω'.put l c):=fun b hb=>by
  by_cases z : b = l
  · subst z;rw [Om.put_same,Om.put_same]
  · rw [Om.put_ne z] at hb ⊢;rw [Om.put_ne z];exact h b hb
theorem Ex.put2 {ω ω' : Om} {l : Addr} {c e : OC} (h : Ex (ω.put l c) ω') : Ex (ω.put l e) (ω'.put l e):=by
  have:=h.put (l:=l) (c:=e)
  rwa [Om.put_put] at this
theorem only_self (ω : Om) : ω.only ω = ω:=by
  funext b;unfold Om.only
  cases e : ω b<;>simp
theorem only_ex {ω ω' : Om} (h : Ex ω ω') : ω'.only ω = ω:=by
  funext b;unfold Om.only
  cases e : ω b with
  | none=>simp
  | some c=>simp only [Option.isSome_some,if_true];rw [h b (by rw [e];rfl),e]
theorem only_put {ω ω' : Om} {p : Addr} {c : OC} (h : Ex (ω.put p c) ω') (hp : (ω p).isSome = true) : ω'.only ω = ω.put p c:=by
  funext b;unfold Om.only
  by_cases hb : b = p
  · subst hb;rw [if_pos hp,h b (by rw [Om.put_same];rfl)]
  · rw [Om.put_ne hb]
    cases e : ω b with
    | none=>simp
    | some o=>simp only [Option.isSome_some,if_true];rw [h b (by rw [Om.put_ne hb,e];rfl),Om.put_ne hb,e]
theorem Rep.only {F : Fs} {H : Hp} {ω ω' : Om} (rp : Rep F H ω') : Rep F H (ω'.only ω)∧Same (cut F H ω') (cut F H (ω'.only ω)):=by
  have ho : ∀ b,ow (ω' b) = false→ow ((ω'.only ω) b) = false:=fun b h=>by
    unfold Om.only
    split
    · exact h
    · rfl
  have sm : Same (cut F H ω') (cut F H (ω'.only ω)):=fun b o e=>by
    obtain ⟨h,f,e⟩:=cut_some.mp e
    exact cut_some.mpr ⟨ho b h,f,e⟩
  have un : ∀ b c,(ω'.only ω) b = some c→ω' b = some c:=fun b c e=>by
    unfold Om.only at e
    split at e
    · exact e
    · cases e
  refine ⟨⟨fun l xs e=>?_,fun l ds e=>(rp.frz l ds (un _ _ e)).same sm,fun b f=>?_,fun l ks e=>(by obtain ⟨vs,e1,e2⟩:=rp.dic l ks (un _ _ e);exact ⟨vs,e1,e2.same sm⟩)⟩,sm⟩
  · obtain ⟨vs,e1,e2⟩:=rp.own l xs (un _ _ e)
    exact ⟨vs,e1,e2.same sm⟩
  · obtain ⟨h1,h2⟩:=rp.hid b f
    refine ⟨?_,h2⟩
    unfold Om.only
    rw [h1];simp
theorem Fr.only {F : Fs} {H H' : Hp} {ω ω' : Om} (fr : Fr F H ω H' ω') : Fr F H ω H' (ω'.only ω):=⟨fun b o h f e=>by
  obtain ⟨x,y⟩:=fr.st b o h f e
  refine ⟨x,?_⟩
  unfold Om.only
  split
  · exact y
  · rfl,fr.hd⟩
theorem Fun.okD {P : Program} {w : World} {K : PySem.W.Frag} {mg : Str→Option Value} {base : Heap} {x qual : Str} {st : Stmt} {f : Addr} {fd : FuncData} {N ps : List Str} {k : Nat} {sp : ASp} (F : Fun K x qual st f fd) (S : FnScope N ps (defScope st)) (len : ∀ xs ω Q,sp xs ω Q→xs.length = ps.length)
    (hbody : ∀ (cdv : Value) (A : Around) (outer : List Env) (s : Shared) (H : Hp) (E : XK),Room k (A.deeper (envOfC qual (defScope st) s.heap.objs.size f cdv)) →
      ∃ t t',PSs (cxOf CX0 P w K mg base N qual (defScope st) f cdv A outer s H E).nox (defBody st) t∧RefS t t'∧∀ xs ω Q',sp xs ω Q'→t' { nx:=fun _ ω'=>Q' (.d .non) (ω'.only ω),rt:=fun a ω'=>∃ d,a = .d d∧Q' (.d d) (ω'.only ω) } (startA N xs) ω) : FnOk P w K mg base CX0 (k + 1) f fd ps (lift sp):=by
  refine F.ok S (fun vs H Q E h=>?_) (fun cdv A outer s H vs Q E hr h=>?_)
  · obtain ⟨F,xs,ω,Q',rp,rv,h,_⟩:=h
    rw [rv.length,len xs ω Q' h]
  · obtain ⟨t,t',h1,h2,h3⟩:=hbody cdv A outer s H E hr
    obtain ⟨F,xs,ω,Q',rp,rv,h,kq⟩:=h
    refine ⟨t,h1,h2.run F H ω _ _ _ _ rp (RS.start rv) (h3 xs ω Q' h) ⟨?_,?_,fun _ _ _ _ _ _ _ z=>z.elim,fun _ _ _ _ _ _ _ z=>z.elim⟩⟩
    · exact fun ρ' ω' σ' H' e1 e2 e3 q=>kq (.d .non) (ω'.only ω) .non H' e1.only.1 e2.only (by simp [RV,Dat]) q
    · rintro a ω' v H' e1 e2 e3 ⟨d,rfl,q⟩
      exact kq (.d d) (ω'.only ω) v H' e1.only.1 e2.only (e3.same e1.only.2) q
def wl : Nat→List (List Int)
  | 0=>[[]]
  | n + 1=>(wl n).flatMap fun w=>[w ++ [0],w ++ [1]]
theorem wl_len : ∀ n,(wl n).length = 2 ^ n
  | 0=>rfl
  | n + 1=>by
    have h : ∀ ws : List (List Int),(ws.flatMap fun w=>[w ++ [0],w ++ [1]]).length = 2 * ws.length:=fun ws=>by
      induction ws with
      | nil=>rfl
      | cons a r ih=>rw [List.flatMap_cons,List.length_append,ih];simp;omega
    rw [wl,h,wl_len n,Nat.pow_succ];omega
theorem wl_mem : ∀ {n : Nat} {w : List Int},w∈wl n→w.length = n∧∀ x∈w,x = 0∨x = 1
  | 0,w,h=>by simp [wl] at h;rw [h];simp
  | n + 1,w,h=>by
    simp only [wl,List.mem_flatMap] at h
    obtain ⟨v,hv,h⟩:=h
    obtain ⟨h1,h2⟩:=wl_mem hv
    simp only [List.mem_cons,List.not_mem_nil,or_false] at h
    rcases h with rfl | rfl<;>refine ⟨by simp [h1],fun x hx=>?_⟩<;>rcases List.mem_append.mp hx with hx | hx
    · exact h2 x hx
    · rw [List.mem_singleton.mp hx];exact .inl rfl
    · exact h2 x hx
    · rw [List.mem_singleton.mp hx];exact .inr rfl
theorem wl_le {n : Nat} (h : n≤5) : (wl n).length≤32:=by
  rw [wl_len]
  exact Nat.pow_le_pow_right (by decide) h
theorem wl_two {n : Nat} (h : 1≤n) : 2≤(wl n).length:=by
  rw [wl_len]
  exact Nat.pow_le_pow_right (n:=2) (by decide) h
theorem wl_nd0 : ∀ n : Fin 6,(wl n.val).Nodup:=by decide +kernel
theorem wl_nd {n : Nat} (h : n≤5) : (wl n).Nodup:=wl_nd0 ⟨n,by omega⟩
def Wds (n : Nat) (ws : List (List Int)) : Prop:=ws.Nodup∧∀ w∈ws,w∈wl n
theorem Wds.le {n : Nat} {ws : List (List Int)} (h : Wds n ws) (hn : n≤5) : ws.length≤32:=by
  have:=h.1.length_le_of_subset (l₂:=wl n) (fun w hw=>h.2 w hw)
  have:=wl_le hn
  omega
theorem Wds.sub {n : Nat} {ws : List (List Int)} (h : ws.Sublist (wl n)) (hn : n≤5) : Wds n ws:=⟨h.nodup (wl_nd hn),fun w hw=>h.mem hw⟩
theorem Wds.perm {n : Nat} {ws vs : List (List Int)} (h : Wds n ws) (p : vs.Perm ws) : Wds n vs:=⟨(p.nodup_iff).mpr h.1,fun w hw=>h.2 w (p.mem_iff.mp hw)⟩
theorem eqDs_ints : ∀ a b : List Int,eqDs (a.map D.int) (b.map D.int) = decide (a = b)
  | [],[]=>by simp [eqDs]
  | [],_ :: _=>by simp [eqDs]
  | _ :: _,[]=>by simp [eqDs]
  | x :: a,y :: b=>by
    simp only [List.map_cons,eqDs,eqD,eqDs_ints a b,List.cons.injEq]
    by_cases h1 : x = y<;>by_cases h2 : a = b<;>simp [h1,h2]
theorem eqD_wd (a b : List Int) : eqD (wdD a) (wdD b) = decide (a = b):=by simp only [wdD,eqD];exact eqDs_ints a b
theorem dep_wd (w : List Int) : dep (wdD w) = 1:=by simp [wdD,dep,deps_ints]
theorem deps_wds (ws : List (List Int)) : deps (ws.map wdD)≤1:=deps_le fun d hd=>by
  obtain ⟨w,_,rfl⟩:=List.mem_map.mp hd
  rw [dep_wd]
  exact Nat.le_refl _
theorem inD_wd (a : List Int) (ws : List (List Int)) : inD (wdD a) (ws.map wdD) = decide (a∈ws):=by
  unfold inD
  rw [Bool.eq_iff_iff,List.any_eq_true,decide_eq_true_iff]
  constructor
  · rintro ⟨d,hd,e⟩
    obtain ⟨w,hw,rfl⟩:=List.mem_map.mp hd
    rw [eqD_wd,decide_eq_true_iff] at e
    exact e ▸ hw
  · intro h
    exact ⟨wdD a,List.mem_map.mpr ⟨a,h,rfl⟩,by rw [eqD_wd];simp⟩
theorem map_get {α β : Type} {f : α→β} {xs : List α} {i : Nat} {y : β} (h : (xs.map f)[i]? = some y) : ∃ x,xs[i]? = some x∧y = f x:=by
  rw [List.getElem?_map] at h
  cases e : xs[i]? with
  | none=>rw [e] at h;cases h
  | some x=>rw [e] at h;cases h;exact ⟨x,rfl,rfl⟩
theorem map_nth {α : Type} {f : α→AV} {xs : List α} {i : Int} (h0 : 0≤i) (h1 : i < xs.length) : ∃ x,x∈xs∧xs[i.toNat]? = some x∧atI (xs.map f) i = some (f x):=by
  obtain ⟨j,rfl⟩:=Int.eq_ofNat_of_zero_le h0
  have hj : j < xs.length:=by omega
  exact ⟨xs[j],List.getElem_mem hj,by simp [List.getElem?_eq_getElem hj],atI_of j rfl (by rw [List.getElem?_map,List.getElem?_eq_getElem hj];rfl)⟩
theorem wd_at {w : List Int} {i : Int} (h0 : 0≤i) (h1 : i < w.length) : atI ((w.map D.int).map AV.d) i = some (.d (.int (w.getD i.toNat 0))):=by
  obtain ⟨j,rfl⟩:=Int.eq_ofNat_of_zero_le h0
  have hj : j < w.length:=by omega
  refine atI_of j rfl ?_
  rw [List.getElem?_map,List.getElem?_map,List.getElem?_eq_getElem hj]
  simp [List.getD_eq_getElem?_getD,List.getElem?_eq_getElem hj]
theorem wl_bit {n : Nat} {w : List Int} (h : w∈wl n) (i : Nat) : w.getD i 0 = 0∨w.getD i 0 = 1:=by
  rw [List.getD_eq_getElem?_getD]
  cases e : w[i]? with
  | none=>exact .inl rfl
  | some x=>exact (wl_mem h).2 x (List.mem_of_getElem? e)
theorem aAdd_wd (x : List Int) (b : Int) (ω : Om) (Q : AV→Om→Prop) : aAdd (.d (wdD x)) (.d (.tup [.int b])) ω Q = (x.length + 1≤sizeLine∧Q (.d (wdD (x ++ [b]))) ω):=by
  unfold wdD
  rw [aAdd_tup]
  simp
theorem tupA_wd (x : List Int) : tupA (.d (wdD x)) = some ((x.map D.int).map AV.d):=rfl
theorem lstA_wd (ω : Om) (x : List Int) : lstA ω (.d (wdD x)) = none:=rfl
theorem cutL_map {α β : Type} (f : α→β) (xs : List α) (lo hi : Option Int) : cutL (xs.map f) lo hi = (cutL xs lo hi).map f:=by
  unfold cutL
  rw [List.length_map,List.map_take,List.map_drop]
inductive Sy where
  | is (i b : Int)
  | jn (an : Bool) (l r : Sy)
namespace Sy
def d : Sy→D
  | .is i b=>.tup [.str "is",.int i,.int b]
  | .jn an l r=>.tup [.str (if an then "and" else "or"),l.d,r.d]
def ok (n : Nat) : Sy→Prop
  | .is i b=>0≤i∧i < n∧(b = 0∨b = 1)
  | .jn _ l r=>l.ok n∧r.ok n
def dp : Sy→Nat
  | .is _ _=>0
  | .jn _ l r=>1 + max l.dp r.dp
def lvs : Sy→Nat
  | .is _ _=>1
  | .jn _ l r=>l.lvs + r.lvs
def up : Sy→Prop
  | .is _ b=>b = 1
  | .jn _ l r=>l.up∧r.up
def val (w : List Int) : Sy→Bool
  | .is i b=>decide (w.getD i.toNat 0 = b)
  | .jn an l r=>if an then val w l && val w r else val w l || val w r
end Sy
inductive Ta where
  | en (i : Int)
  | nd (y : Bool) (ws : List (List Int)) (l r : Ta)
namespace Ta
def d : Ta→D
  | .en i=>.tup [.str "end",.int i]
  | .nd y ws l r=>.tup [.str (if y then "yes" else "no"),.tup (ws.map wdD),l.d,r.d]
def ok (n : Nat) : Ta→Prop
  | .en i=>0≤i∧i < n
  | .nd _ ws l r=>Wds n ws∧l.ok n∧r.ok n
def dp : Ta→Nat
  | .en _=>0
  | .nd _ _ l r=>1 + max l.dp r.dp
def lvs : Ta→Nat
  | .en _=>1
  | .nd _ _ l r=>l.lvs + r.lvs
def size : Ta→Nat
  | .en _=>1
  | .nd _ _ l r=>l.size + r.size + 1
def bit (y n : List Int) (hy : Bool) (ws : List (List Int)) : Bool:=decide ((if hy then y else n)∈ws)
def way (y n : List Int) : Ta→List Int
  | .en _=>[]
  | .nd h ws a b=>if bit y n h ws then 1 :: way y n b else 0 :: way y n a
def fin (y n : List Int) : Ta→Int
  | .en i=>i
  | .nd h ws a b=>if bit y n h ws then fin y n b else fin y n a
theorem way_len (y n : List Int) : ∀ u : Ta,(way y n u).length≤u.dp
  | .en _=>by simp [way,dp]
  | .nd h ws a b=>by
    have h1:=way_len y n a
    have h2:=way_len y n b
    simp only [way,dp]
    split<;>simp<;>omega
theorem fin_ok {m : Nat} {y n : List Int} : ∀ {u : Ta},u.ok m→0≤fin y n u∧fin y n u < m
  | .en i,h=>h
  | .nd h ws a b,h'=>by
    obtain ⟨_,ha,hb⟩:=h'
    simp only [fin]
    split
    · exact fin_ok hb
    · exact fin_ok ha
theorem size_lvs : ∀ t : Ta,t.size + 1 = 2 * t.lvs
  | .en x=>rfl
  | .nd y ws l r=>by
    have:=size_lvs l
    have:=size_lvs r
    simp only [size,lvs];omega
end Ta
theorem log2_le {i : Int} (h0 : 0≤i) (h1 : i≤64) : i.natAbs.log2≤6:=by
  have h8 : ∀ n : Fin 65,n.val.log2≤6:=by decide +kernel
  exact h8 ⟨i.natAbs,by omega⟩
theorem sne_0_1 : (("end" : Str) = ("yes" : Str)) = False:=eq_false (by decide +kernel)
theorem sne_1_2 : (("yes" : Str) = ("no" : Str)) = False:=eq_false (by decide +kernel)
theorem sne_2_1 : (("no" : Str) = ("yes" : Str)) = False:=eq_false (by decide +kernel)
theorem sne_4_3 : (("and" : Str) = ("is" : Str)) = False:=eq_false (by decide +kernel)
theorem sne_4_5 : (("and" : Str) = ("or" : Str)) = False:=eq_false (by decide +kernel)
theorem sne_5_3 : (("or" : Str) = ("is" : Str)) = False:=eq_false (by decide +kernel)
theorem sne_6_7 : (("any" : Str) = ("rising" : Str)) = False:=eq_false (by decide +kernel)
theorem invA (F : Nat→SA→Om→Prop) : ∃ Pv : Nat→SA→Om→Prop,∀ i ρ ω,Pv i ρ ω↔F i ρ ω:=⟨F,fun _ _ _=>Iff.rfl⟩
def om2 (ω : Om) (p l : Addr) (c A : OC) : Om:=(ω.put p c).put l A
section
variable {ω : Om} {p l l1 l2 : Addr} {c c' A A' B B' : OC}
theorem om2_p (h : p≠l) : om2 ω p l c A p = some c:=by unfold om2;rw [Om.put_ne h,Om.put_same]
theorem om2_l : om2 ω p l c A l = some A:=by unfold om2;rw [Om.put_same]
theorem om2_pp (h : p≠l) : (om2 ω p l c A).put p c' = om2 ω p l c' A:=by unfold om2;rw [Om.put_comm h,Om.put_put]
theorem om2_pl : (om2 ω p l c A).put l A' = om2 ω p l c A':=by unfold om2;rw [Om.put_put]
theorem put_free {q : Addr} {o : OC} (h : ω.put p o q = none) : q≠p∧ω q = none:=by
  have : q≠p:=fun z=>by subst z;rw [Om.put_same] at h;cases h
  exact ⟨this,by rwa [Om.put_ne this] at h⟩
end
structure Ne4 (p l1 l2 l3 : Addr) : Prop where
  p1 : p≠l1
  p2 : p≠l2
  p3 : p≠l3
  a : l1≠l2
  b : l1≠l3
  c : l2≠l3
section
variable {ω : Om} {p l1 l2 l3 : Addr} {c c' A A' B B' C C' : OC} (h : Ne4 p l1 l2 l3)
include h
end
section
variable {P : Program} {w : World} {K : PySem.W.Frag} {mg : Str→Option Value} {base : Heap}
structure Cs (n : Nat) (ys zs : List (List Int)) : Prop where
  y : Wds n ys
  z : Wds n zs
  y1 : ys≠[]
  z1 : zs≠[]
theorem seq_cut {t u : AS} {D : AEnds} {ρ : SA} {ω : Om} (I : SA→Om→Prop) (h1 : ∀ N : SA→Om→Prop,(∀ ρ' ω',I ρ' ω'→N ρ' ω')→t { D with nx:=N } ρ ω) (h2 : ∀ ρ' ω',I ρ' ω'→u D ρ' ω') : aSeq t u D ρ ω:=h1 (u D) h2
theorem datA_own {ω : Om} {l : Addr} {ds : List D} (h : ω l = some (.own (ds.map AV.d))) : datA ω (.r (.ref l)) = some (.lst ds):=by
  rw [datA_r,h];simp only [und_map,Option.map_some]
def noSp : ASp:=fun _ _ _=>False
theorem fn_no {f : Addr} {fd : FuncData} {ps : List Str} {k : Nat} : FnOk P w K mg base CX0 k f fd ps (lift noSp) :=
  ⟨fun _ _ _ _ h=>by obtain ⟨_,_,_,_,_,_,h,_⟩:=h;exact h.elim,fun _ _ _ _ _ _ _ _ _ _ _ _ _ h=>by obtain ⟨_,_,_,_,_,_,h,_⟩:=h;exact h.elim⟩
theorem wds_filter {n : Nat} {ws : List (List Int)} (h : Wds n ws) (q : List Int→Bool) : Wds n (ws.filter q):=⟨h.1.filter _,fun v hv=>h.2 v (List.mem_filter.mp hv).1⟩
theorem atI_lastS {α : Type} {xs : List α} {b : α} : atI (xs ++ [b]) (-1) = some b:=by
  unfold atI ixN
  rw [if_neg (by decide),if_pos (by simp;omega)]
  show (xs ++ [b])[((-1 : Int) + ((xs ++ [b]).length : Nat)).toNat]? = some b
  have : ((-1 : Int) + ((xs ++ [b]).length : Nat)).toNat = xs.length:=by simp;omega
  rw [this];simp
theorem aPop_eq2 (to : AE) (ρ : SA) (ω : Om) (Q : AV→Om→Prop) : aPop to ρ ω Q = (to ρ ω fun x ω1=>∃ l xs y,x = .r (.ref l)∧ω1 l = some (.own xs)∧xs.getLast? = some y∧Q y (ω1.put l (.own xs.dropLast))):=by
  unfold aPop
  simp only [List.getLast?_eq_getElem?]
theorem emp_concat {α : Type} (A : List α) (x : α) : (A ++ [x]).isEmpty = false:=by cases A<;>rfl
theorem last_concat {α : Type} (A : List α) (x : α) : (A ++ [x]).getLast? = some x:=by simp
theorem dropl_concat {α : Type} (A : List α) (x : α) : (A ++ [x]).dropLast = A:=by simp
end
structure RefR (t2 t : TS) (t' : AS) : Prop where
  run : ∀ (F : Fs) (H : Hp) (ω : Om) (σ : St) (ρ : SA) (D : Ends) (D' : AEnds),Rep F H ω→RS (cut F H ω) ρ σ→t' D' ρ ω→LE F H ω D' { D with nx:=t2 D }→t D σ H
section
variable {t t1 t2 u : TS} {t1' u' : AS} {N : SA→Om→Prop} {m : Nat}
end
theorem comp_gix {g : AG} {te : AE} {as : List AV} {rs : List D} {ρ : SA} {ω : Om} {K : List AV→SA→Om→Prop} (R : SA→Prop) (h0 : R ρ) (hl : rs.length = as.length) (hz : as.length≤sizeLine)
    (he : ∀ (i : Nat) (a : AV) (r : D) (ρ : SA) (N : SA→Om→Prop),as[i]? = some a→rs[i]? = some r→R ρ→(∀ ρ1,R ρ1→(∀ Q : AV→Om→Prop,Q (.d r) ω→te ρ1 ω Q)→N ρ1 ω)→g a ρ ω N)
    (hk : ∀ ρ,R ρ→K (rs.map AV.d) ρ ω) : aLoop g aNoTest (aLast te) as [] ρ ω K:=by
  refine loop_ix (fun i xs ρ ω'=>ω' = ω∧R ρ∧xs = (rs.take i).map AV.d) ⟨rfl,h0,rfl⟩ ?_ ?_
  · rintro i a xs ρ ω' N ha ⟨rfl,hR,rfl⟩ kN
    have hi:=(List.getElem?_eq_some_iff.mp ha).1
    have hr : rs[i]? = some rs[i]:=List.getElem?_eq_getElem (by omega)
    refine he i a _ ρ _ ha hr hR fun ρ1 hR1 h=>?_
    rw [aNoTest_eq,if_pos rfl,aLast_eq]
    refine h _ ⟨by rw [List.length_map,List.length_take];omega,kN _ _ _ ⟨rfl,hR1,?_⟩⟩
    rw [show rs.take (i + 1) = rs.take i ++ [rs[i]] from by rw [List.take_succ,hr];rfl,List.map_append]
    rfl
  · rintro xs ρ ω' ⟨rfl,hR,rfl⟩
    rw [← hl,List.take_length]
    exact hk ρ hR
theorem comp_ix {te : AE} {as : List AV} {rs : List D} {v0 : Option AV} {rest : SA} {ω : Om} {K : List AV→SA→Om→Prop} (hl : rs.length = as.length) (hz : as.length≤sizeLine)
    (he : ∀ (i : Nat) (a : AV) (r : D),as[i]? = some a→rs[i]? = some r→∀ Q : AV→Om→Prop,Q (.d r) ω→te (some a :: rest) ω Q)
    (hk : ∀ ρ,K (rs.map AV.d) ρ ω) : aLoop (agName 0) aNoTest (aLast te) as [] (v0 :: rest) ω K :=
  comp_gix (fun ρ=>∃ v,ρ = v :: rest) ⟨_,rfl⟩ hl hz (fun i a r ρ N ha hr ⟨v,e⟩ k=>by
    subst e
    rw [agName_eq,List.set_cons_zero]
    exact k _ ⟨_,rfl⟩ (he i a r ha hr)) (fun ρ _=>hk ρ)
def scrL (K : PySem.W.Frag) (a : Addr) (ns : List Int) : AV:=.p (.ref a) (fun H=>SqL K H a (ns.map V.int))
def aListS (K : PySem.W.Frag) : AC:=fun xs ω Q=>∃ (a : Addr) (ns : List Int),xs = [scrL K a ns]∧Q (.d (.lst (ns.map D.int))) ω
theorem aListS_eq (K : PySem.W.Frag) (xs : List AV) (ω : Om) (Q : AV→Om→Prop) : aListS K xs ω Q = (∃ (a : Addr) (ns : List Int),xs = [scrL K a ns]∧Q (.d (.lst (ns.map D.int))) ω):=rfl
theorem scr_at {F : Fs} {H : Hp} {ω : Om} {K : PySem.W.Frag} {a : Addr} {ns : List Int} {v : V} (r : RV (cut F H ω) (scrL K a ns) v) : v = .ref a∧SqL K H a (ns.map V.int):=by
  obtain ⟨rfl,r⟩:=r
  exact ⟨rfl,r _ cut_same⟩
theorem c_listS {K : PySem.W.Frag} : RefC (fun xs H Q=>∃ p ys,xs = [.ref p]∧(SqL K H p ys∨SqT K H p ys)∧∀ l,H l = none→Q (.ref l) (upd H l (.lst ys))) (aListS K):=⟨fun F H ω vs xs Q Q' rp rv ⟨a,ns,e,q⟩ k=>by
  subst e
  obtain ⟨v,rfl,r⟩:=rvs1 rv
  obtain ⟨rfl,hs⟩:=scr_at r
  exact ⟨a,_,rfl,.inl hs,k.lst rp (dats_ints _ ns) q⟩⟩
theorem scrL_start {K : PySem.W.Frag} {H : Hp} {a : Addr} {ns : List Int} (h : SqL K H a (ns.map V.int)) : RV (cut (fun _=>false) H (fun _=>none)) (scrL K a ns) (.ref a):=by
  refine ⟨rfl,fun G' s=>?_⟩
  have s2 : Same H G':=fun b o e=>s b o (cut_some.mpr ⟨rfl,rfl,e⟩)
  rcases h with (h | ⟨o,h⟩) | h
  · exact .inl (.inl (s2 _ _ h))
  · exact .inl (.inr ⟨o,s2 _ _ h⟩)
  · exact .inr h
theorem repNone {H : Hp} : Rep (fun _=>false) H (fun _=>none):=⟨fun _ _ h=>by simp at h,fun _ _ h=>by simp at h,fun _ h=>by simp at h,fun _ _ h=>by simp at h⟩
theorem comp_gf {α : Type} {g : AG} {tc : AT} {te : AE} {as : List AV} {xs : List α} {ρ : SA} {ω : Om} {K : List AV→SA→Om→Prop} (R : SA→Prop) (h0 : R ρ) (enc : α→AV) (p : α→Bool) (f : α→D) (ea : as = xs.map enc) (hz : xs.length≤sizeLine)
    (he : ∀ (x : α) (ρ : SA) (N : SA→Om→Prop),x∈xs→R ρ→(∀ ρ1,R ρ1→(∀ Q : Bool→Om→Prop,Q (p x) ω→tc ρ1 ω Q)→(p x = true→∀ Q : AV→Om→Prop,Q (.d (f x)) ω→te ρ1 ω Q)→N ρ1 ω)→g (enc x) ρ ω N)
    (hk : ∀ ρ,R ρ→K (((xs.filter p).map f).map AV.d) ρ ω) : aLoop g tc (aLast te) as [] ρ ω K:=by
  subst ea
  refine loop_ix (fun i ys ρ ω'=>ω' = ω∧R ρ∧ys = (((xs.take i).filter p).map f).map AV.d) ⟨rfl,h0,rfl⟩ ?_ ?_
  · rintro i a ys ρ ω' N ha ⟨rfl,hR,rfl⟩ kN
    rw [List.getElem?_map,Option.map_eq_some_iff] at ha
    obtain ⟨x,hx,rfl⟩:=ha
    have hi:=(List.getElem?_eq_some_iff.mp hx).1
    have et : xs.take (i + 1) = xs.take i ++ [x]:=by rw [List.take_succ,hx];rfl
    refine he x ρ _ (List.mem_of_getElem? hx) hR fun ρ1 hR1 h1 h2=>h1 _ ?_
    cases hp : p x with
    | true =>
      rw [if_pos rfl,aLast_eq]
      refine h2 hp _ ⟨?_,kN _ _ _ ⟨rfl,hR1,?_⟩⟩
      · rw [List.length_map,List.length_map]
        have:=List.length_filter_le p (xs.take i)
        rw [List.length_take] at this
        omega
      · rw [et,List.filter_append]
        simp [hp]
    | false =>
      rw [if_neg Bool.false_ne_true]
      refine kN _ _ _ ⟨rfl,hR1,?_⟩
      rw [et,List.filter_append]
      simp [hp]
  · rintro ys ρ ω' ⟨rfl,hR,rfl⟩
    rw [List.length_map,List.take_length]
    exact hk ρ hR
theorem comp_ft {α : Type} {tc : AT} {te : AE} {xs : List α} {v0 : Option AV} {rest : SA} {ω : Om} {K : List AV→SA→Om→Prop} (enc : α→D) (p : α→Bool) (f : α→D) (hz : xs.length≤sizeLine)
    (ht : ∀ x∈xs,∀ Q : Bool→Om→Prop,Q (p x) ω→tc (some (.d (enc x)) :: rest) ω Q) (he : ∀ x∈xs,p x = true→∀ Q : AV→Om→Prop,Q (.d (f x)) ω→te (some (.d (enc x)) :: rest) ω Q)
    (hk : ∀ ρ,K (((xs.filter p).map f).map AV.d) ρ ω) : aLoop (agName 0) tc (aLast te) ((xs.map enc).map AV.d) [] (v0 :: rest) ω K :=
  comp_gf (fun ρ=>∃ v,ρ = v :: rest) ⟨_,rfl⟩ (fun x=>.d (enc x)) p f (by simp) hz (fun x ρ N hx ⟨v,e⟩ k=>by
    subst e
    rw [agName_eq,List.set_cons_zero]
    exact k _ ⟨_,rfl⟩ (ht x hx) (he x hx)) (fun ρ _=>hk ρ)
structure Pq where
  a : Addr
  ns : List Int
  i : Int
  f : Int
  h0 : 0≤i
  hf : 0≤f
  hn : ns.length≤63
section
variable {prog : Program} {w : World} {A : Around} {E : Value→Shared→Prop} {s : Shared}
end
def valA (kvs : List (Str × AV)) (k : Str) : Option AV:=(kvs.find? fun p=>decide (p.1 = k)).map (·.2)
section
variable {G : Hp} {F : Fs} {H : Hp} {ω : Om}
theorem RKs.get {k : Str} {a : AV} : ∀ {kvs : List (Str × AV)} {ks : List (Key × V)},RKs G kvs ks→valA kvs k = some a→∃ v,valV ks (Sum.inr k : Key) = some v∧RV G a v
  | [],_,_,e=>by simp [valA] at e
  | p :: r,_,⟨v,r',h1,h2,h3⟩,e=>by
    subst h1
    by_cases hp : p.1 = k
    · rw [valA,List.find?_cons,decide_eq_true hp] at e
      cases e
      exact ⟨v,valV_pos (by rw [hp]),h2⟩
    · rw [valA,List.find?_cons,decide_eq_false hp] at e
      obtain ⟨u,e1,e2⟩:=h3.get (k:=k) (a:=a) e
      exact ⟨u,by rw [valV_neg (fun z=>hp (Sum.inr.inj z))];exact e1,e2⟩
theorem cut_writeD {l : Addr} {xs ys : List (Str × AV)} {o : HO} (h : ω l = some (.dic xs)) : cut F (upd H l o) (ω.put l (.dic ys)) = cut F H ω:=by
  funext b;unfold cut Om.put
  by_cases hb : b = l
  · subst hb;rw [if_pos rfl,h];simp [ow]
  · rw [if_neg hb,upd_ne hb]
theorem Rep.writeD (R : Rep F H ω) {l : Addr} {xs ys : List (Str × AV)} {vs : List (Key × V)} (h : ω l = some (.dic xs)) (hv : RKs (cut F H ω) ys vs) :
    Rep F (upd H l (.dK vs)) (ω.put l (.dic ys))∧Fr F H ω (upd H l (.dK vs)) (ω.put l (.dic ys)):=by
  have c:=cut_writeD (F:=F) (H:=H) (ys:=ys) (o:=.dK vs) h
  refine ⟨⟨fun k zs e=>?_,fun k ds e=>?_,fun b f=>?_,fun k zs e=>?_⟩,fun b o x f e=>?_,fun b f=>?_⟩
  · have hk : k≠l:=fun z=>(by subst z;rw [Om.put_same] at e;cases e)
    rw [Om.put_ne hk] at e;rw [c,upd_ne hk];exact R.own k zs e
  · have hk : k≠l:=fun z=>(by subst z;rw [Om.put_same] at e;cases e)
    rw [Om.put_ne hk] at e;rw [c];exact R.frz k ds e
  · obtain ⟨x,o,q⟩:=R.hid b f
    have hb : b≠l:=fun z=>(by subst z;rw [h] at x;cases x)
    exact ⟨by rw [Om.put_ne hb];exact x,o,by rw [upd_ne hb];exact q⟩
  · rw [c]
    by_cases hk : k = l
    · subst hk;rw [Om.put_same] at e;cases e;exact ⟨vs,upd_same,hv⟩
    · rw [Om.put_ne hk] at e;rw [upd_ne hk];exact R.dic k zs e
  · have hb : b≠l:=fun z=>(by subst z;rw [h] at x;cases x)
    rw [Om.put_ne hb,upd_ne hb];exact ⟨e,x⟩
  · obtain ⟨x,o,q⟩:=R.hid b f
    have hb : b≠l:=fun z=>(by subst z;rw [h] at x;cases x)
    exact upd_ne hb
theorem Rep.mkD (R : Rep F H ω) {l : Addr} {xs : List (Str × AV)} {vs : List (Key × V)} (h : H l = none) (hv : RKs (cut F H ω) xs vs) :
    Rep F (upd H l (.dK vs)) (ω.put l (.dic xs))∧Fr F H ω (upd H l (.dK vs)) (ω.put l (.dic xs)):=by
  obtain ⟨f1,f2⟩:=R.free h
  have c : cut F (upd H l (.dK vs)) (ω.put l (.dic xs)) = cut F H ω:=by
    funext b;unfold cut Om.put
    by_cases hb : b = l
    · subst hb;rw [if_pos rfl,f1,f2,h];simp [ow]
    · rw [if_neg hb,upd_ne hb]
  refine ⟨⟨fun k zs e=>?_,fun k ds e=>?_,fun b f=>?_,fun k zs e=>?_⟩,fun b o x f e=>?_,fun b f=>?_⟩
  · have hk : k≠l:=fun z=>(by subst z;rw [Om.put_same] at e;cases e)
    rw [Om.put_ne hk] at e;rw [c,upd_ne hk];exact R.own k zs e
  · have hk : k≠l:=fun z=>(by subst z;rw [Om.put_same] at e;cases e)
    rw [Om.put_ne hk] at e;rw [c];exact R.frz k ds e
  · obtain ⟨x,o,q⟩:=R.hid b f
    have hb : b≠l:=ne_of_none q h
    exact ⟨by rw [Om.put_ne hb];exact x,o,by rw [upd_ne hb];exact q⟩
  · rw [c]
    by_cases hk : k = l
    · subst hk;rw [Om.put_same] at e;cases e;exact ⟨vs,upd_same,hv⟩
    · rw [Om.put_ne hk] at e;rw [upd_ne hk];exact R.dic k zs e
  · have hb : b≠l:=ne_of_none e h
    rw [Om.put_ne hb,upd_ne hb];exact ⟨e,x⟩
  · obtain ⟨x,o,q⟩:=R.hid b f
    exact upd_ne (ne_of_none q h)
end
def aDGet (td ty : AE) : AE:=fun ρ ω Q=>td ρ ω fun x ω1=>ty ρ ω1 fun y ω2=>∃ l kvs k a,x = .r (.ref l)∧ω2 l = some (.dic kvs)∧y = .d (.str k)∧valA kvs k = some a∧Q a ω2
theorem aDGet_eq (td ty : AE) (ρ : SA) (ω : Om) (Q : AV→Om→Prop) : aDGet td ty ρ ω Q = (td ρ ω fun x ω1=>ty ρ ω1 fun y ω2=>∃ l kvs k a,x = .r (.ref l)∧ω2 l = some (.dic kvs)∧y = .d (.str k)∧valA kvs k = some a∧Q a ω2):=rfl
theorem e_dget {td ty : TE} {td' ty' : AE} (hd : RefE td td') (hy : RefE ty ty') : RefE (tDGet td ty) (aDGet td' ty'):=⟨fun F H ω σ ρ Q Q' rp rs w k =>
  hd.go rp rs w fun x ω1 v H1 rp1 fr1 rs1 rv1 q1=>hy.go rp1 rs1 q1 fun y ω2 u H2 rp2 fr2 rs2 rv2 ⟨l,kvs,kk,a,e1,e2,e3,e4,q⟩=>by
    subst e1 e3
    cases (show v = .ref l from rv1)
    cases rv_str rv2
    obtain ⟨ks,z1,z2⟩:=rp2.dic l kvs e2
    obtain ⟨vv,y1,y2⟩:=z2.get e4
    have g:=DGet.k (k:=(Sum.inr kk : Key)) z1
    rw [y1] at g
    exact ⟨l,vv,rfl,g,k a ω2 vv H2 rp2 (fr1.trans fr2) y2 q⟩⟩
def aVals : List AE→SA→Om→(List AV→Om→Prop)→Prop
  | [],_,ω,Q=>Q [] ω
  | t :: r,ρ,ω,Q=>t ρ ω fun x ω1=>aVals r ρ ω1 fun xs ω2=>Q (x :: xs) ω2
theorem aVals_nil (ρ : SA) (ω : Om) (Q : List AV→Om→Prop) : aVals [] ρ ω Q = Q [] ω:=rfl
theorem aVals_cons (t : AE) (r : List AE) (ρ : SA) (ω : Om) (Q : List AV→Om→Prop) : aVals (t :: r) ρ ω Q = (t ρ ω fun x ω1=>aVals r ρ ω1 fun xs ω2=>Q (x :: xs) ω2):=rfl
def aDisp (ks : List Str) (ts : List AE) : AE:=fun ρ ω Q=>ks.Nodup∧ks.length≤15∧∀ p,ω p = none→aVals ts ρ (ω.put p (.dic [])) fun xs ω1=>ω1 p = some (.dic [])∧xs.length = ks.length∧Q (.r (.ref p)) (ω1.put p (.dic (ks.zip xs)))
theorem aDisp_eq (ks : List Str) (ts : List AE) (ρ : SA) (ω : Om) (Q : AV→Om→Prop) : aDisp ks ts ρ ω Q = (ks.Nodup∧ks.length≤15∧∀ p,ω p = none→aVals ts ρ (ω.put p (.dic [])) fun xs ω1=>ω1 p = some (.dic [])∧xs.length = ks.length∧Q (.r (.ref p)) (ω1.put p (.dic (ks.zip xs)))):=rfl
inductive RefPs : List (TE × TE)→List Str→List AE→Prop
  | nil : RefPs [] [] []
  | cons {k : Str} {tv : TE} {tv' : AE} {r : List (TE × TE)} {ks : List Str} {ts : List AE} : RefE tv tv'→RefPs r ks ts→RefPs ((tC (.str k),tv) :: r) (k :: ks) (tv' :: ts)
theorem RefPs.go {trs : List (TE × TE)} {ks : List Str} {ts : List AE} (h : RefPs trs ks ts) : ∀ {F : Fs} {H : Hp} {ω : Om} {σ : St} {ρ : SA} {Q : List (V × V)→Hp→Prop} {Q' : List AV→Om→Prop},Rep F H ω→RS (cut F H ω) ρ σ→aVals ts ρ ω Q' →
    (∀ (xs : List AV) (ω1 : Om) (vs : List V) (H1 : Hp),Rep F H1 ω1→Fr F H ω H1 ω1→RVs (cut F H1 ω1) xs vs→vs.length = ks.length→Q' xs ω1→Q ((ks.zip vs).map fun p=>(V.str p.1,p.2)) H1)→tPairs trs σ H Q:=by
  induction h with
  | nil=>intro F H ω σ ρ Q Q' rp rs w k;exact k [] ω [] H rp .refl rfl rfl w
  | @cons kk tv tv' r ks ts hv hr ih =>
    intro F H ω σ ρ Q Q' rp rs w k
    refine hv.go rp rs w fun x ω1 v H1 rp1 fr1 rs1 rv1 q1=>ih rp1 rs1 q1 fun xs ω2 vs H2 rp2 fr2 rvs hl q2=>?_
    exact k (x :: xs) ω2 (v :: vs) H2 rp2 (fr1.trans fr2) ⟨v,vs,rfl,rv1.same fr2.same,rvs⟩ (by simp [hl]) q2
theorem merge_nd : ∀ {more acc : List (Key × V)},((acc ++ more).map (·.1)).Nodup→mergeK acc more = acc ++ more
  | [],acc,_=>by simp [mergeK]
  | p :: r,acc,h=>by
    have hn : (acc.any fun kv=>decide (kv.1 = p.1)) = false:=by
      rw [List.any_eq_false]
      intro q hq hk
      have hk:=of_decide_eq_true hk
      rw [List.map_append,List.map_cons] at h
      exact (List.nodup_append.mp h).2.2 _ (List.mem_map.mpr ⟨q,hq,rfl⟩) _ (List.mem_cons_self ..) hk
    have hp : putK acc p.1 p.2 = acc ++ [p]:=by unfold putK;rw [if_neg (by rw [hn];decide)]
    show mergeK (putK acc p.1 p.2) r = _
    rw [hp,merge_nd (by simpa using h)]
    simp
theorem rks_zip {G : Hp} : ∀ {ks : List Str} {xs : List AV} {vs : List V},RVs G xs vs→xs.length = ks.length→RKs G (ks.zip xs) ((ks.zip vs).map fun p=>((Sum.inr p.1 : Key),p.2))
  | [],[],_,h,_=>by cases h;rfl
  | [],_ :: _,_,_,e=>by simp at e
  | _ :: _,[],_,_,e=>by simp at e
  | k :: ks,x :: xs,_,⟨v,r,h1,h2,h3⟩,e=>by
    subst h1
    exact ⟨v,_,rfl,h2,rks_zip h3 (by simpa using e)⟩
theorem e_disp {trs : List (TE × TE)} {ks : List Str} {ts : List AE} (h : RefPs trs ks ts) : RefE (tDisp trs) (aDisp ks ts):=⟨fun F H ω σ ρ Q Q' rp rs w k=>by
  obtain ⟨nd,h15,w⟩:=w
  intro p hp
  obtain ⟨rp1,fr1⟩:=rp.mkD (xs:=[]) (vs:=[]) hp rfl
  refine h.go rp1 (rs.same fr1.same) (w p (rp.free hp).1) fun xs ω1 vs H1 rp2 fr2 rvs hl q=>?_
  obtain ⟨e1,e2,q⟩:=q
  obtain ⟨k0,z1,z2⟩:=rp2.dic p [] e1
  cases z2
  have hz:=rks_zip rvs e2
  obtain ⟨rp3,fr3⟩:=rp2.writeD e1 hz
  refine ⟨z1,(ks.zip vs).map fun p=>((Sum.inr p.1 : Key),p.2),by simp [kV,Function.comp_def],by simp;omega,?_⟩
  rw [merge_nd (by
    rw [List.nil_append,List.map_map]
    have : (List.map ((fun x : Key × V=>x.1) ∘ fun p : Str × V=>((Sum.inr p.1 : Key),p.2)) (ks.zip vs)) = ks.map fun k=>(Sum.inr k : Key):=by
      rw [show ((fun x : Key × V=>x.1) ∘ fun p : Str × V=>((Sum.inr p.1 : Key),p.2)) = (fun k=>(Sum.inr k : Key)) ∘ Prod.fst from rfl,← List.map_map,List.map_fst_zip (by omega)]
    rw [this]
    exact List.pairwise_map.mpr (nd.imp fun {a b} hne e=>hne (Sum.inr.inj e))),List.nil_append]
  exact k (.r (.ref p)) _ _ _ rp3 ((fr1.trans fr2).trans fr3) rfl q⟩
def tx (l : List Nat) : Str:=⟨l.toArray⟩
def jn (s : List Nat) : List (List Nat)→List Nat
  | []=>[]
  | [x]=>x
  | x :: y :: r=>x ++ s ++ jn s (y :: r)
inductive PFs (X : Cx) : List Expr→List TE→Prop
  | nil : PFs X [] []
  | cons {e : Expr} {t : TE} {es : List Expr} {ts : List TE} : PE X e t→PFs X es ts→PFs X (e :: es) (t :: ts)
inductive RefFs : List TE→List AE→Prop
  | nil : RefFs [] []
  | cons {t : TE} {t' : AE} {ts : List TE} {ts' : List AE} : RefE t t'→RefFs ts ts'→RefFs (t :: ts) (t' :: ts')
theorem RVs.eraseA {G : Hp} : ∀ {xs : List AV} {us : List V} (j : Nat),RVs G xs us→RVs G (xs.eraseIdx j) (us.eraseIdx j)
  | [],us,j,h=>by cases h;exact rfl
  | x :: xs,us,0,h=>by obtain ⟨v,r,rfl,h1,h2⟩:=h;exact h2
  | x :: xs,us,j + 1,h=>by
    obtain ⟨v,r,rfl,h1,h2⟩:=h
    exact ⟨v,_,rfl,h1,RVs.eraseA j h2⟩
def aPopAt (to : AE) (t : AA) : AE:=fun ρ ω Q=>to ρ ω fun x ω1=>∃ l,x = .r (.ref l)∧(∃ zs,ω1 l = some (.own zs))∧t ρ ω1 fun ys ω2=>∃ (xs : List AV) (j : Nat) (y : AV),ys = [.d (.int j)]∧ω2 l = some (.own xs)∧xs.length≤1000000∧xs[j]? = some y∧Q y (ω2.put l (.own (xs.eraseIdx j)))
theorem aPopAt_eq (to : AE) (t : AA) (ρ : SA) (ω : Om) (Q : AV→Om→Prop) : aPopAt to t ρ ω Q = (to ρ ω fun x ω1=>∃ l,x = .r (.ref l)∧(∃ zs,ω1 l = some (.own zs))∧t ρ ω1 fun ys ω2=>∃ (xs : List AV) (j : Nat) (y : AV),ys = [.d (.int j)]∧ω2 l = some (.own xs)∧xs.length≤1000000∧xs[j]? = some y∧Q y (ω2.put l (.own (xs.eraseIdx j)))):=rfl
section
variable {K : PySem.W.Frag} {to : TE} {to' : AE} {t : TA} {t' : AA}
theorem seqIx_nat {j n : Nat} (h : j < n) : seqIndex? (j : Int) n = some j:=by
  unfold seqIndex?
  simp
  omega
theorem e_popAt (ho : RefE to to') (ht : RefA t t') : RefE (tBM K "list" rPopAt to t) (aPopAt to' t'):=⟨fun F H ω σ ρ Q Q' rp rs w k =>
  ho.go rp rs w fun x ω1 v H1 rp1 fr1 rs1 rv1 ⟨l,e,⟨zs,hz⟩,q1⟩=>by
    subst e
    cases (show v = .ref l from rv1)
    obtain ⟨us,z1,_⟩:=rp1.own l zs hz
    refine ⟨.inl ⟨rfl,us,.inl (.inl z1)⟩,ht.go rp1 rs1 q1 fun ys ω2 vs H2 rp2 fr2 rs2 rv2 ⟨xs,j,y,e1,e2,e3,e4,q⟩=>?_⟩
    subst e1
    obtain ⟨u,rfl,r⟩:=rvs1 rv2
    cases rv_int r
    obtain ⟨ws,z3,z4⟩:=rp2.own l xs e2
    obtain ⟨u2,g1,g2⟩:=z4.get e4
    have hj:=(List.getElem?_eq_some_iff.mp g1).1
    have hl:=z4.length
    obtain ⟨rp3,fr3⟩:=rp2.write (ys:=xs.eraseIdx j) (vs:=ws.eraseIdx j) e2 (z4.eraseA j)
    exact ⟨l,ws,j,j,u2,rfl,rfl,z3,by omega,by omega,seqIx_nat hj,g1,k _ _ _ _ rp3 ((fr1.trans fr2).trans fr3) (g2.same fr3.same) q⟩⟩
end
end L2
namespace L2
open PySem PySem.Spec PyProof.Rows PySem.W
def CXx (P : Program) (w : World) : CXT:=fun outer H s E e s'=>∃ (a C t : Addr) (H' : Hp) (B : Heap),e = .ref a∧s'.os = s.os∧AllBare s'.gens∧Un (frs outer) [] H H' s.heap s'.heap∧HOk P w H' B ∧
  Heap.FlyingW B outer a (.ref C) (.ref t) s'.heap∧(∀ b o,s.heap.get? b = some o→H b = none→b ∉ frs outer→B.get? b = some o)∧(∀ b o,s.heap.get? b = some o→b ∉ frs outer→∃ o',B.get? b = some o')∧E (.ref a) (some C) H'
section
variable {P : Program} {w : World} {K : PySem.W.Frag} {mg : Str→Option Value} {base : Heap} {N : List Str} {qual : Str} {scope : Scope} {f : Addr} {cd : Value} {A : Around} {outer : List Env} {s₀ : Shared} {H₀ : Hp} {E : XK}
end
section
variable {P : Program} {w : World} {K : PySem.W.Frag} {mg : Str→Option Value} {base : Heap} {N : List Str} {qual : Str} {scope : Scope} {f : Addr} {cd : Value} {A : Around} {outer : List Env} {s₀ : Shared} {H₀ : Hp} {E : XK}
end
end L2
namespace L2
open PySem PySem.Spec PySem.Calls PyProof.Rows PySem.W PySem.Builtin PySem.Builtin.ObjectAttr PySem.Builtin.Getset_descriptor
section
variable {prog : Program} {w : World} {A : Around} {E : Value→Shared→Prop} {s : Shared} {K : PySem.W.Frag} {x D : Addr}
end
section
variable {X : Cx} {CX : CXT} {k : Nat} {f : Addr} {fd : FuncData} {ps : List Str} {sp : Sp} {x : Str} {p pos : Pos} {e : Expr} {es : List Expr} {t : TA}
end
end L2
namespace L2
open PySem PySem.Spec PySem.Calls PyProof.Rows PySem.W
section
variable {X : Cx} {pins : List (Addr × Obj)} {σ : St} {H : Hp} {s : Shared}
end
section
variable {X : Cx} {CX : CXT} {e : Expr} {te : XK→TE} {pos : Pos}
end
end L2
namespace L2
open PySem PySem.Spec PyProof.Rows
abbrev ASpX:=List AV→Om→(AV→Om→Prop)→(Addr→Om→Prop)→Prop
def LX (F : Fs) (H : Hp) (ω : Om) (Ex : Addr→Om→Prop) (E : XK) : Prop:=∀ C ω' a H',Rep F H' ω'→Fr F H ω H' ω'→Ex C ω'→E (.ref a) (some C) H'
abbrev AXS:=AEnds→(Addr→Om→Prop)→SA→Om→Prop
structure RefSX (E : XK) (t : TS) (t' : AXS) : Prop where
  run : ∀ (F : Fs) (H : Hp) (ω : Om) (σ : St) (ρ : SA) (D : Ends) (D' : AEnds) (Ex : Addr→Om→Prop),Rep F H ω→RS (cut F H ω) ρ σ→t' D' Ex ρ ω→LE F H ω D' D→LX F H ω Ex E→t D σ H
def axSeq (t u : AXS) : AXS:=fun D Ex ρ ω=>t { D with nx:=u D Ex } Ex ρ ω
theorem axSeq_eq (t u : AXS) (D : AEnds) (Ex : Addr→Om→Prop) (ρ : SA) (ω : Om) : axSeq t u D Ex ρ ω = t { D with nx:=u D Ex } Ex ρ ω:=rfl
section
variable {E : XK} {t u : TS} {t' u' : AXS} {ta : TA} {ta' : AA} {tc : TT} {tc' : AT} {sp : ASpX} {C : Addr}
end
section
variable {K : PySem.W.Frag} {T : Addr} {i j : Nat} {sp : ASpX} {ta : TA} {ta' : AA}
end
end L2
namespace L2
open PySem PySem.Spec PySem.Calls PyProof.Rows PySem.W
structure CloX (P : Program) (w : World) (K : PySem.W.Frag) (mg : Str→Option Value) (base : Heap) (H₀ : Hp) (k : Nat) (f : Addr) (n : Nat) (sp : Sp) : Prop where
  fn : ∃ (oc : Value) (od : Option Addr) (fd : FuncData) (sl : Array (Option Value)) (u : HO),H₀ f = some (.frz ⟨oc,od,.func fd,sl⟩ u)
  len : ∀ vs H Q E,sp vs H Q E→vs.length = n
  run : ∀ (A : Around) (outer : List Env) (s : Shared) (H : Hp) (us : List Value) (vs : List V) (Q : VK) (E : XK),Room k A→Env0 P w K mg base A outer s H→Frz H₀ H→Vals vs us→sp vs H Q E →
    codeAny (model P w) A (.call (.ref f) ⟨us,[]⟩) (CR (CXx P w) outer P w H s Q E) s
end L2
namespace L2
open PySem PySem.Spec PySem.Calls PyProof.Rows
structure Ap3 (z u o i j l p q r : Addr) : Prop where
  uz : u≠z
  oz : o≠z
  iz : i≠z
  jz : j≠z
  lz : l≠z
  uo : u≠o
  ui : u≠i
  uj : u≠j
  ul : u≠l
  oi : o≠i
  oj : o≠j
  ol : o≠l
  ij : i≠j
  il : i≠l
  jl : j≠l
  np : ∀ c∈[z,u,o,i,j,l],p≠c
  nq : ∀ c∈[z,u,o,i,j,l],q≠c
  nr : ∀ c∈[z,u,o,i,j,l],r≠c
section
variable {prog : Program} {w : World} {A : Around} {E : Value→Shared→Prop} {S : Shared} {z u o i j l p q r : Addr} {m n : Nat} {xs ys zs : Array Value} {x y v a b c : Value} {Ii Ij Il : Nat→Heap→Prop} {Sp Sq Sr : Heap→Prop}
end
section
variable {c1 c2 c3 : String} {S1 S2 S3 : PySem.W.Frag→Hp→Addr→List V→Prop} {I1 I2 I3 : Heap→Addr→Addr→Nat→Prop} {Is1 Is2 Is3 : Heap→Addr→Array Value→Prop}
end
section
variable {K : PySem.W.Frag} {sa : TA} {sa' : AA}
theorem rvs3 {G : Hp} {a b c : AV} {vs : List V} (h : RVs G [a,b,c] vs) : ∃ v u x,vs = [v,u,x]∧RV G a v∧RV G b u∧RV G c x:=by
  obtain ⟨v,r,rfl,h1,h2⟩:=h
  obtain ⟨u,x,rfl,h3,h4⟩:=rvs2 h2
  exact ⟨v,u,x,rfl,h1,h3,h4⟩
end
end L2
namespace L2
open PySem PySem.Spec PyProof.Rows
inductive O where
  | d (x : D) | box (b : Bool) | tup (os : List O)
section
variable {F : Fs} {H : Hp} {ω : Om}
end
end L2
namespace L2
open PySem PySem.Spec PyProof.Rows AutoSeq1
section
variable {A : Around} {s : Shared}
end
section
variable {prog : Program} {w : World} {A : Around} {E : Value→Shared→Prop} {s : Shared}
end
section
variable {prog : Program} {w : World} {A : Around} {E : Value→Shared→Prop} {s : Shared}
end
end L2
namespace L2
open PySem PySem.Spec PyProof PyProof.Rows PySem.SeqAt
open AutoSeq1 (wpAny_loadPart')
section
variable {prog : Program} {w : World} {A : Around} {E : Value→Shared→Prop} {s : Shared}
end
section
variable {X : Cx} {e st : Expr} {te ts : TE} {pos p2 : Pos}
end
def gAny (K : PySem.W.Frag) (n : Nat) (t : TGs) : TG:=fun v σ H Q=>gTup K n t v σ H Q∨gLst K n t v σ H Q
theorem pg_any {X : Cx} (K : PySem.W.Frag) (h : X.K = K) {ts : List Expr} {k n : Nat} {pos : Pos} {t : TGs} (hc : X.calm = true) (hts : PGs X ts t)
    (hn : (assignEach ts X.env).length = n:=by rfl) (hst : (assignEach ts X.env).findIdx? (·.1) = none:=by rfl) : PG X (.Tuple ts k pos) (gAny K n t):=by
  intro pins s σ H v u Q I r hw
  rcases hw with hw | hw
  · exact (pg_tupK K h hc hts hn hst) pins s σ H v u Q I r hw
  · subst h
    exact (pg_lst hc hts hn hst) pins s σ H v u Q I r hw
def agAny (n : Nat) (t : AGs) : AG:=fun v ρ ω Q=>∃ ds,(v = .d (.tup ds)∨v = .d (.lst ds))∧ds.length = n∧t (ds.map AV.d) ρ ω Q
theorem g_any {K : PySem.W.Frag} {n : Nat} {gs : TGs} {gs' : AGs} (h : RefGs gs gs') : RefG (gAny K n gs) (agAny n gs'):=⟨fun F H ω σ ρ v a Q Q' rp rs rv ⟨ds,e,hn,q⟩ k=>by
  rcases e with e | e
  · exact .inl ((g_tup h).run F H ω σ ρ v a Q Q' rp rs rv ⟨ds,e,hn,q⟩ k)
  · refine .inr ((g_lst h).run F H ω σ ρ v a Q Q' rp rs rv ⟨ds.map AV.d,?_,by rw [List.length_map];exact hn,q⟩ k)
    subst e
    rfl⟩
mutual
def ltD : D→D→Bool
  | .int a,.int b=>decide (a < b)
  | .str a,.str b=>decide (a.cps.toList < b.cps.toList)
  | .tup xs,.tup ys=>ltDs xs ys
  | _,_=>false
def ltDs : List D→List D→Bool
  | [],[]=>false
  | [],_ :: _=>true
  | _ :: _,[]=>false
  | x :: xs,y :: ys=>if eqD x y then ltDs xs ys else ltD x y
end
mutual
def cmD : D→D→Bool
  | .int _,.int _=>true
  | .str _,.str _=>true
  | .tup xs,.tup ys=>cmDs xs ys
  | _,_=>false
def cmDs : List D→List D→Bool
  | x :: xs,y :: ys=>if eqD x y then cmDs xs ys else cmD x y
  | _,_=>true
end
section
variable {X : Cx} {pins : List (Addr × Obj)} {σ : St} {H : Hp} {s : Shared}
end
section
variable {X : Cx} {pins : List (Addr × Obj)} {σ : St} {H : Hp} {s : Shared} {A : Around} {E : Value→Shared→Prop} {Q : Value→Shared→Prop} {b : Bool}
end
end L2
namespace L2
open PySem PySem.Spec PyProof PyProof.Rows PySem.SeqAt
end L2
namespace L2
open PySem PySem.Spec PySem.Calls PyProof PyProof.Rows PySem.SeqAt
section
variable {prog : Program} {w : World} {A : Around} {E : Value→Shared→Prop} {s : Shared}
def KeepH (h0 h : Heap) : Prop:=∀ x o,h0.get? x = some o→h.get? x = some o
structure SrtH (prog : Program) (w : World) (A : Around) (h0 : Heap) (s : Shared) (vs : List Value) (c : Nat→Nat→Bool) (b : Bool) : Prop where
  kind : ∀ h,KeepH h0 h→∃ fs T,PySem.W.KatTups h vs fs∧fs.length = vs.length∧(∀ v∈fs,PySem.W.Looks (model prog w) h (typeOf v) T)∧(T == T) = true∧(T != Value.type "tuple") = b
  ask : ∀ h,KeepH h0 h→∀ i j,i < vs.length→j < vs.length→∀ (C : Bool→Shared→Prop) (E : Value→Shared→Prop),C (c i j) { s with heap:=h }→wpAny (model prog w) A (keyLt' (tuples' b) (vs.getD i Value.none) (vs.getD j Value.none)) C E { s with heap:=h }
end
section
variable {X : Cx} {pins : List (Addr × Obj)} {σ : St} {H : Hp} {s : Shared} {A : Around}
def RowK (k : Bool) (d : D) : Prop:=∃ r,(k = true∧∃ z,d = .tup (.str z :: r))∨(k = false∧∃ i,d = .tup (.int i :: r))
end
section
variable {X : Cx} {pins : List (Addr × Obj)} {σ : St} {H : Hp} {s : Shared} {A : Around}
end
structure Srt (W : List D) (key : D→List Int) (k : Bool) : Prop where
  row : ∀ d∈W,RowK k d
  cmp : ∀ d∈W,∀ e∈W,cmD d e = true
  lt : ∀ d∈W,∀ e∈W,ltD d e = lexL (key d) (key e)
end L2
namespace L2
open PySem PySem.Spec PyProof PyProof.Rows PySem.SeqAt
def aRevO (te : AE) : AE:=fun ρ ω Q=>te ρ ω fun x ω1=>∃ ds,datA ω1 x = some (.lst ds)∧∀ l,ω1 l = none→Q (.r (.ref l)) (ω1.put l (.own (ds.reverse.map AV.d)))
theorem aRevO_eq (te : AE) (ρ : SA) (ω : Om) (Q : AV→Om→Prop) : aRevO te ρ ω Q = te ρ ω fun x ω1=>∃ ds,datA ω1 x = some (.lst ds)∧∀ l,ω1 l = none→Q (.r (.ref l)) (ω1.put l (.own (ds.reverse.map AV.d))):=rfl
theorem e_revO {K : PySem.W.Frag} {te : TE} {te' : AE} (he : RefE te te') : RefE (tRev K te (tUn (rU fun i=>.int (-i)) (tC (.int 1)))) (aRevO te'):=⟨fun F H ω σ ρ Q Q' rp rs w k =>
  he.go rp rs w fun x ω1 v H1 rp1 fr1 rs1 rv1 ⟨ds,e,q⟩=>⟨1,rfl,rfl,by
    obtain ⟨a,vs,rfl,z1,z2⟩:=dats_of rp1 rv1 e
    exact ⟨a,vs,rfl,.inl (.inl z1),(k.fr fr1).own rp1 (RVs.dats.mpr z2.rev) q⟩⟩⟩
section
variable {K : PySem.W.Frag} {x qual : Str} {st : Stmt} {f : Addr} {fd : FuncData}
theorem Fun.binds1 {p0 : Str} (F : Fun K x qual st f fd) (h : ∀ (kV doc pm : Value) (an : Option Addr) (cdv ct : Value) (u0 : Value),bindArgs (PySem.W.fnOf x qual (defArgs st) (defBody st) (defScope st) .none kV doc pm an cdv ct) ⟨[u0],[]⟩ = pure ([p0].zip [u0])) : Binds K fd [p0] [] :=
  F.binds fun a b c d e g us hl=>match us,hl with | [u0],_=>h a b c d e g u0
theorem Fun.binds2 {p0 p1 : Str} (F : Fun K x qual st f fd) (h : ∀ (kV doc pm : Value) (an : Option Addr) (cdv ct : Value) (u0 u1 : Value),bindArgs (PySem.W.fnOf x qual (defArgs st) (defBody st) (defScope st) .none kV doc pm an cdv ct) ⟨[u0,u1],[]⟩ = pure ([p0,p1].zip [u0,u1])) : Binds K fd [p0,p1] [] :=
  F.binds fun a b c d e g us hl=>match us,hl with | [u0,u1],_=>h a b c d e g u0 u1
theorem Fun.binds3 {p0 p1 p2 : Str} (F : Fun K x qual st f fd) (h : ∀ (kV doc pm : Value) (an : Option Addr) (cdv ct : Value) (u0 u1 u2 : Value),bindArgs (PySem.W.fnOf x qual (defArgs st) (defBody st) (defScope st) .none kV doc pm an cdv ct) ⟨[u0,u1,u2],[]⟩ = pure ([p0,p1,p2].zip [u0,u1,u2])) : Binds K fd [p0,p1,p2] [] :=
  F.binds fun a b c d e g us hl=>match us,hl with | [u0,u1,u2],_=>h a b c d e g u0 u1 u2
theorem Fun.binds4 {p0 p1 p2 p3 : Str} (F : Fun K x qual st f fd) (h : ∀ (kV doc pm : Value) (an : Option Addr) (cdv ct : Value) (u0 u1 u2 u3 : Value),bindArgs (PySem.W.fnOf x qual (defArgs st) (defBody st) (defScope st) .none kV doc pm an cdv ct) ⟨[u0,u1,u2,u3],[]⟩ = pure ([p0,p1,p2,p3].zip [u0,u1,u2,u3])) : Binds K fd [p0,p1,p2,p3] [] :=
  F.binds fun a b c d e g us hl=>match us,hl with | [u0,u1,u2,u3],_=>h a b c d e g u0 u1 u2 u3
end
end L2
namespace L2
open PySem PySem.Spec PyProof.Rows
section
variable {X : Cx}
end
theorem cnt_ints (k : Int) : ∀ {vs : List Value} {ns : List Int},IntsAre vs ns→vs.countP (isInt k) = ns.countP (· == k)
  | _,_,.nil=>rfl
  | _,_,.cons n t h=>by
    simp only [List.countP_cons,isInt,cnt_ints k h]
    congr
def rCount (K : PySem.W.Frag) : V→List V→Hp→VK→Prop:=fun x vs H Q=>∃ (a : Addr) (ns : List Int) (k : Int),x = .ref a∧vs = [.int k]∧SqL K H a (ns.map V.int)∧Q (.int (ns.countP (· == k) : Nat)) H
theorem mt_count {X : Cx} (K : PySem.W.Frag) (hK : X.K = K) : MtR X "list.count" (rCount K):=by
  subst hK
  intro pins s σ H x vs v us Q I rx rv h
  obtain ⟨a,ns,k,rfl,rfl,hq,q⟩:=h
  cases rx
  obtain ⟨u,rfl,ru⟩:=rv.one
  obtain ⟨t,rfl⟩:=ru
  obtain ⟨its,rv2,ht,hz⟩:=I.list hq
  have hi : IntsAre its ns:=intsAre_of rv2
  obtain ⟨⟨cls,dd,data,sl⟩,n,ho,hc,hdd,hd⟩:=id ht
  simp only at hc hd
  subst hc hd
  refine call_meets PySem.F.slot_list_count ⟨_,ho,rfl⟩ PySem.F.entry_list_count (PySem.F.args_list_count_2 _ _)
    (PySem.SeqAt.list_countAt a its.toArray n dd sl (.int k t) (isInt k)) ⟨ho,fun y hy=>(eq_isInt k t hi y (by simpa using hy)).at _ _,?_⟩
  rw [List.toList_toArray,cnt_ints k hi]
  exact ⟨.int _,H,I.tok _,⟨_,rfl⟩,q⟩
def aCount (to : AE) (t : AA) : AE:=fun ρ ω Q=>to ρ ω fun x ω1=>∃ o : List Int,x = .d (.lst (o.map D.int))∧t ρ ω1 fun ys ω2=>∃ k : Int,ys = [.d (.int k)]∧Q (.d (.int (o.countP (· == k) : Nat))) ω2
theorem aCount_eq (to : AE) (t : AA) (ρ : SA) (ω : Om) (Q : AV→Om→Prop) : aCount to t ρ ω Q = (to ρ ω fun x ω1=>∃ o : List Int,x = .d (.lst (o.map D.int))∧t ρ ω1 fun ys ω2=>∃ k : Int,ys = [.d (.int k)]∧Q (.d (.int (o.countP (· == k) : Nat))) ω2):=rfl
theorem e_count {K : PySem.W.Frag} {to : TE} {to' : AE} {t : TA} {t' : AA} (ho : RefE to to') (ht : RefA t t') : RefE (tBM K "list" (rCount K) to t) (aCount to' t'):=⟨fun F H ω σ ρ Q Q' rp rs w k =>
  ho.go rp rs w fun x ω1 v H1 rp1 fr1 rs1 rv1 ⟨o,e,q1⟩=>by
    subst e
    simp only [RV,Dat] at rv1
    obtain ⟨a,us,rfl,z1,z2⟩:=rv1
    cases dats_ints_eq z2
    refine ⟨.inl ⟨rfl,_,.inl (.inl (cut_same _ _ z1))⟩,ht.go rp1 rs1 q1 fun ys ω2 vs H2 rp2 fr2 rs2 rv2 ⟨i,e1,q⟩=>?_⟩
    subst e1
    obtain ⟨u,rfl,r⟩:=rvs1 rv2
    cases rv_int r
    exact ⟨a,o,i,rfl,rfl,.inl (.inl (cut_same _ _ (fr2.same _ _ z1))),k _ ω2 _ H2 rp2 (fr1.trans fr2) (by simp [RV,Dat]) q⟩⟩
section
variable {X : Cx}
theorem call_min3 (hc : X.calm = true) : CallR X (.builtin "min") (fun xs H Q=>∃ i j k,xs = [.int i,.int j,.int k]∧Q (.int (min i (min j k))) H):=by
  intro pins s σ H xs us Q I r h
  obtain ⟨i,j,k,rfl,q⟩:=h
  cases r with
  | cons r1 r =>
    obtain ⟨t1,rfl⟩:=r1
    obtain ⟨u2,u3,rfl,⟨t2,rfl⟩,⟨t3,rfl⟩⟩:=vals2 r
    refine min_three_ints (I.ok.hd hc) fun h' tk kk=>⟨_,H,I.kept kk,?_,q⟩
    by_cases h1 : j < i
    · rw [if_pos h1]
      by_cases h2 : k < j
      · rw [if_pos h2,show min i (min j k) = k from by omega];exact ⟨_,rfl⟩
      · rw [if_neg h2,show min i (min j k) = j from by omega];exact ⟨_,rfl⟩
    · rw [if_neg h1]
      by_cases h2 : k < i
      · rw [if_pos h2,show min i (min j k) = k from by omega];exact ⟨_,rfl⟩
      · rw [if_neg h2,show min i (min j k) = i from by omega];exact ⟨_,rfl⟩
end
def aMin3 : AC:=fun xs ω Q=>∃ i j k,xs = [.d (.int i),.d (.int j),.d (.int k)]∧Q (.d (.int (min i (min j k)))) ω
theorem aMin3_eq (xs : List AV) (ω : Om) (Q : AV→Om→Prop) : aMin3 xs ω Q = ∃ i j k,xs = [.d (.int i),.d (.int j),.d (.int k)]∧Q (.d (.int (min i (min j k)))) ω:=rfl
theorem c_min3 : RefC (fun xs H Q=>∃ i j k,xs = [.int i,.int j,.int k]∧Q (.int (min i (min j k))) H) aMin3:=⟨fun F H ω vs xs Q Q' rp rv ⟨i,j,m,e1,q⟩ k=>by
  subst e1
  obtain ⟨v,u,x,rfl,r1,r2,r3⟩:=rvs3 rv
  exact ⟨i,j,m,by rw [rv_int r1,rv_int r2,rv_int r3],k.int rp q⟩⟩
def aGetI (k : Int) (v d : Str) (te : AE) : AE:=fun ρ ω Q=>te ρ ω fun x ω1=>∃ n : Int,x = .d (.int n)∧Q (.d (.str (if n = k then v else d))) ω1
theorem aGetI_eq (k : Int) (v d : Str) (te : AE) (ρ : SA) (ω : Om) (Q : AV→Om→Prop) : aGetI k v d te ρ ω Q = (te ρ ω fun x ω1=>∃ n : Int,x = .d (.int n)∧Q (.d (.str (if n = k then v else d))) ω1):=rfl
theorem e_getI {k : Int} {v d : Str} {te : TE} {te' : AE} (h : RefE te te') : RefE (tDGet2 (tDisp [(tC (.int k),tC (.str v))]) te (tC (.str d))) (aGetI k v d te'):=⟨fun F H ω σ ρ Q Q' rp rs w kk=>by
  intro p hp
  refine ⟨upd_same,[(Sum.inl k,.str v)],rfl,by simp,p,rfl,.inl ⟨_,.inl upd_same⟩,?_⟩
  rw [upd_upd]
  obtain ⟨rp1,fr1,hc⟩:=rp.lay (o:=.dK (mergeK [] [(Sum.inl k,.str v)])) hp
  refine h.go rp1 (rs.same fr1.same) w fun x ω1 v' H1 rp2 fr2 rs2 rv2 ⟨n,e,q⟩=>?_
  subst e
  cases rv_int rv2
  refine ⟨_,DGet.k (k:=(Sum.inl n : Key)) (cut_same _ _ (fr2.same _ _ hc)),?_⟩
  have e1 : (valV (mergeK [] [((Sum.inl k : Key),V.str v)]) (Sum.inl n : Key)).getD (.str d) = .str (if n = k then v else d):=by
    rw [show mergeK [] [((Sum.inl k : Key),V.str v)] = [((Sum.inl k : Key),V.str v)] from rfl]
    by_cases hn : n = k
    · rw [valV_pos (by rw [hn]),if_pos hn];rfl
    · rw [valV_neg (fun z=>hn (Sum.inl.inj z).symm),if_neg hn];rfl
  rw [e1]
  exact kk _ _ _ _ rp2 (fr1.trans fr2) (by simp [RV,Dat]) q⟩
end L2
namespace L2
open PySem PySem.Spec PySem.Calls PyProof.Rows PySem.W
section
variable {X : Cx} {CX : CXT} {e1 e2 : Expr} {t1 : TE} {te : XK→TE} {pos : Pos}
end
section
variable {K : PySem.W.Frag} {T : Addr} {sp : ASpX} {ta : TA} {ta' : AA} {th : TS} {th' : AS}
end
end L2
set_option maxHeartbeats 4000000
namespace My
open PySem PySem.Spec L2
def top (i : Nat) : Stmt:=PySem.Challenge.pw_unlikeplace_k22_sayings_of_talks.main.body.getD i (.Pass ⟨0,0,0,0⟩)
abbrev s_went_on : Stmt:=top 1
abbrev s_ends_of : Stmt:=top 2
abbrev s_has_pairs : Stmt:=top 3
abbrev s_kept_upward : Stmt:=top 4
abbrev s_cut : Stmt:=top 5
abbrev s_upward : Stmt:=top 10
abbrev s_pairs_in : Stmt:=top 12
abbrev s_spoken : Stmt:=top 14
abbrev s_parts_pair : Stmt:=top 15
abbrev s_fault : Stmt:=top 16
abbrev s_lets_by : Stmt:=top 17
abbrev s_saying_of : Stmt:=top 20
abbrev s_l_begun : Stmt:=top 22
abbrev s_l_next_of : Stmt:=top 23
abbrev s_l_all : Stmt:=top 24
abbrev s_l_dealt : Stmt:=top 25
abbrev s_l_shared : Stmt:=top 26
abbrev s_l_parted : Stmt:=top 27
abbrev s_l_any_saying : Stmt:=top 28
abbrev s_l_holds : Stmt:=top 29
abbrev s_l_spoken_for : Stmt:=top 30
abbrev s_l_wrapped : Stmt:=top 31
abbrev s_l_strewn : Stmt:=top 32
abbrev s_l_meaning : Stmt:=top 33
abbrev s_l_small : Stmt:=top 34
abbrev s_l_wide : Stmt:=top 35
abbrev s_law : Stmt:=top 36
theorem sc_went_on : FnScope ["turn","yes","no","own","silent","loud"] ["turn","yes","no"] (defScope s_went_on):=⟨rfl,rfl,rfl,by decide +kernel,rfl,by decide +kernel,by decide +kernel⟩
theorem sc_ends_of : FnScope ["case","talk","ends","waiting","bits","part","yes","no","at_first","at_second"] ["case","talk"] (defScope s_ends_of):=⟨rfl,rfl,rfl,by decide +kernel,rfl,by decide +kernel,by decide +kernel⟩
theorem sc_has_pairs : FnScope ["words"] ["words"] (defScope s_has_pairs):=⟨rfl,rfl,rfl,by decide +kernel,rfl,by decide +kernel,by decide +kernel⟩
theorem sc_kept_upward : FnScope ["case","talk","downward","waiting","part","yes","no","at_first","at_second"] ["case","talk"] (defScope s_kept_upward):=⟨rfl,rfl,rfl,by decide +kernel,rfl,by decide +kernel,by decide +kernel⟩
theorem sc_cut : FnScope ["case","talk","done","part","second","first"] ["case","talk"] (defScope s_cut):=⟨rfl,rfl,rfl,by decide +kernel,rfl,by decide +kernel,by decide +kernel⟩
theorem sc_upward : FnScope ["tree","leaf","waiting","downward","part"] ["tree","leaf"] (defScope s_upward):=⟨rfl,rfl,rfl,by decide +kernel,rfl,by decide +kernel,by decide +kernel⟩
theorem sc_pairs_in : FnScope ["case"] ["case"] (defScope s_pairs_in):=⟨rfl,rfl,rfl,by decide +kernel,rfl,by decide +kernel,by decide +kernel⟩
theorem sc_spoken : FnScope ["talk","yes","no","bits","part","own","bit"] ["talk","yes","no"] (defScope s_spoken):=⟨rfl,rfl,rfl,by decide +kernel,rfl,by decide +kernel,by decide +kernel⟩
theorem sc_parts_pair : FnScope ["rule","place","yes","no"] ["rule","place","yes","no"] (defScope s_parts_pair):=⟨rfl,rfl,rfl,by decide +kernel,rfl,by decide +kernel,by decide +kernel⟩
theorem sc_fault : FnScope ["case","rule","talk","yes","no","place"] ["case","rule","talk"] (defScope s_fault):=⟨rfl,rfl,rfl,by decide +kernel,rfl,by decide +kernel,by decide +kernel⟩
theorem sc_lets_by : FnScope ["case","rule","talk"] ["case","rule","talk"] (defScope s_lets_by):=⟨rfl,rfl,rfl,by decide +kernel,rfl,by decide +kernel,by decide +kernel⟩
theorem sc_saying_of : FnScope ["case","talk","kept","leaves","waiting","done","part","other","one"] ["case","talk"] (defScope s_saying_of):=⟨rfl,rfl,rfl,by decide +kernel,rfl,by decide +kernel,by decide +kernel⟩
theorem sc_l_begun : FnScope ["_law_script"] ["_law_script"] (defScope s_l_begun):=⟨rfl,rfl,rfl,by decide +kernel,rfl,by decide +kernel,by decide +kernel⟩
theorem sc_l_next_of : FnScope ["_law_state","_law_many","_law_drawn","_law_spot","_law_cell","_law_seed"] ["_law_state","_law_many"] (defScope s_l_next_of):=⟨rfl,rfl,rfl,by decide +kernel,rfl,by decide +kernel,by decide +kernel⟩
theorem sc_l_all : FnScope ["_law_places","_law_found","_law_k","_law_longer","_law_word"] ["_law_places"] (defScope s_l_all):=⟨rfl,rfl,rfl,by decide +kernel,rfl,by decide +kernel,by decide +kernel⟩
theorem sc_l_dealt : FnScope ["_law_state","_law_words","_law_many","_law_left"] ["_law_state","_law_words","_law_many"] (defScope s_l_dealt):=⟨rfl,rfl,rfl,by decide +kernel,rfl,by decide +kernel,by decide +kernel⟩
theorem sc_l_shared : FnScope ["_law_places","_law_yes","_law_no","_law_found","_law_place","_law_bits"] ["_law_places","_law_yes","_law_no"] (defScope s_l_shared):=⟨rfl,rfl,rfl,by decide +kernel,rfl,by decide +kernel,by decide +kernel⟩
theorem sc_l_parted : FnScope ["_law_state","_law_places","_law_yes","_law_no","_law_shared_here","_law_hand","_law_words","_law_says","_law_rest"] ["_law_state","_law_places","_law_yes","_law_no"] (defScope s_l_parted):=⟨rfl,rfl,rfl,by decide +kernel,rfl,by decide +kernel,by decide +kernel⟩
theorem sc_l_any_saying : FnScope ["_law_state","_law_places","_law_many","_law_here","_law_one","_law_other"] ["_law_state","_law_places","_law_many"] (defScope s_l_any_saying):=⟨rfl,rfl,rfl,by decide +kernel,rfl,by decide +kernel,by decide +kernel⟩
theorem sc_l_holds : FnScope ["_law_saying","_law_word"] ["_law_saying","_law_word"] (defScope s_l_holds):=⟨rfl,rfl,rfl,by decide +kernel,rfl,by decide +kernel,by decide +kernel⟩
theorem sc_l_spoken_for : FnScope ["_law_yes","_law_no","_law_saying","_law_one","_law_other"] ["_law_yes","_law_no","_law_saying"] (defScope s_l_spoken_for):=⟨rfl,rfl,rfl,by decide +kernel,rfl,by decide +kernel,by decide +kernel⟩
theorem sc_l_wrapped : FnScope ["_law_state","_law_case","_law_talk","_law_at","_law_places","_law_yes","_law_no","_law_hand","_law_spare","_law_way"] ["_law_state","_law_case","_law_talk"] (defScope s_l_wrapped):=⟨rfl,rfl,rfl,by decide +kernel,rfl,by decide +kernel,by decide +kernel⟩
theorem sc_l_strewn : FnScope ["_law_state","_law_case","_law_talk","_law_hand","_law_says","_law_first","_law_second","_law_foreign","_law_more","_law_told"] ["_law_state","_law_case","_law_talk"] (defScope s_l_strewn):=⟨rfl,rfl,rfl,by decide +kernel,rfl,by decide +kernel,by decide +kernel⟩
theorem sc_l_meaning : FnScope ["_law_yes","_law_no","_law_talk","_law_hand","_law_says","_law_first","_law_second","_law_words","_law_here","_law_there","_law_ways","_law_found"] ["_law_yes","_law_no","_law_talk"] (defScope s_l_meaning):=⟨rfl,rfl,rfl,by decide +kernel,rfl,by decide +kernel,by decide +kernel⟩
theorem sc_l_small : FnScope ["_law_state","_law_places","_law_words","_law_yes","_law_no"] ["_law_state","_law_places"] (defScope s_l_small):=⟨rfl,rfl,rfl,by decide +kernel,rfl,by decide +kernel,by decide +kernel⟩
theorem sc_l_wide : FnScope ["_law_state","_law_places","_law_saying","_law_yes","_law_no"] ["_law_state","_law_places"] (defScope s_l_wide):=⟨rfl,rfl,rfl,by decide +kernel,rfl,by decide +kernel,by decide +kernel⟩
theorem sc_law : FnScope ["_law_script","_law_state","_law_asked","_law_turn","_law_places","_law_case","_law_talk","_law_k","_law_due"] ["_law_script"] (defScope s_law):=⟨rfl,rfl,rfl,by decide +kernel,rfl,by decide +kernel,by decide +kernel⟩
set_option genInjectivity false in
structure Adr where
  a_went_on : Addr
  d_went_on : FuncData
  a_ends_of : Addr
  d_ends_of : FuncData
  a_has_pairs : Addr
  d_has_pairs : FuncData
  a_kept_upward : Addr
  d_kept_upward : FuncData
  a_cut : Addr
  d_cut : FuncData
  a_upward : Addr
  d_upward : FuncData
  a_pairs_in : Addr
  d_pairs_in : FuncData
  a_spoken : Addr
  d_spoken : FuncData
  a_parts_pair : Addr
  d_parts_pair : FuncData
  a_fault : Addr
  d_fault : FuncData
  a_lets_by : Addr
  d_lets_by : FuncData
  a_saying_of : Addr
  d_saying_of : FuncData
  a_l_begun : Addr
  d_l_begun : FuncData
  a_l_next_of : Addr
  d_l_next_of : FuncData
  a_l_all : Addr
  d_l_all : FuncData
  a_l_dealt : Addr
  d_l_dealt : FuncData
  a_l_shared : Addr
  d_l_shared : FuncData
  a_l_parted : Addr
  d_l_parted : FuncData
  a_l_any_saying : Addr
  d_l_any_saying : FuncData
  a_l_holds : Addr
  d_l_holds : FuncData
  a_l_spoken_for : Addr
  d_l_spoken_for : FuncData
  a_l_wrapped : Addr
  d_l_wrapped : FuncData
  a_l_strewn : Addr
  d_l_strewn : FuncData
  a_l_meaning : Addr
  d_l_meaning : FuncData
  a_l_small : Addr
  d_l_small : FuncData
  a_l_wide : Addr
  d_l_wide : FuncData
  a_law : Addr
  d_law : FuncData
  wo : World
  a_JOIN_OF_HAND : Addr
structure Txt (K : PySem.W.Frag) (mg : Str→Option Value) (t : Adr) : Prop where
  m_went_on : mg "went_on" = some (.ref t.a_went_on)
  f_went_on : Fun K "went_on" "went_on" s_went_on t.a_went_on t.d_went_on
  k_went_on : PySem.W.keepIn K (.ref t.a_went_on) = true
  p_went_on : Binds K t.d_went_on ["turn","yes","no"] []
  m_ends_of : mg "ends_of" = some (.ref t.a_ends_of)
  f_ends_of : Fun K "ends_of" "ends_of" s_ends_of t.a_ends_of t.d_ends_of
  k_ends_of : PySem.W.keepIn K (.ref t.a_ends_of) = true
  p_ends_of : Binds K t.d_ends_of ["case","talk"] []
  m_has_pairs : mg "has_pairs" = some (.ref t.a_has_pairs)
  f_has_pairs : Fun K "has_pairs" "has_pairs" s_has_pairs t.a_has_pairs t.d_has_pairs
  k_has_pairs : PySem.W.keepIn K (.ref t.a_has_pairs) = true
  p_has_pairs : Binds K t.d_has_pairs ["words"] []
  m_kept_upward : mg "kept_upward" = some (.ref t.a_kept_upward)
  f_kept_upward : Fun K "kept_upward" "kept_upward" s_kept_upward t.a_kept_upward t.d_kept_upward
  k_kept_upward : PySem.W.keepIn K (.ref t.a_kept_upward) = true
  p_kept_upward : Binds K t.d_kept_upward ["case","talk"] []
  m_cut : mg "cut" = some (.ref t.a_cut)
  f_cut : Fun K "cut" "cut" s_cut t.a_cut t.d_cut
  k_cut : PySem.W.keepIn K (.ref t.a_cut) = true
  p_cut : Binds K t.d_cut ["case","talk"] []
  m_upward : mg "upward" = some (.ref t.a_upward)
  f_upward : Fun K "upward" "upward" s_upward t.a_upward t.d_upward
  k_upward : PySem.W.keepIn K (.ref t.a_upward) = true
  p_upward : Binds K t.d_upward ["tree","leaf"] []
  m_pairs_in : mg "pairs_in" = some (.ref t.a_pairs_in)
  f_pairs_in : Fun K "pairs_in" "pairs_in" s_pairs_in t.a_pairs_in t.d_pairs_in
  k_pairs_in : PySem.W.keepIn K (.ref t.a_pairs_in) = true
  p_pairs_in : Binds K t.d_pairs_in ["case"] []
  m_spoken : mg "spoken" = some (.ref t.a_spoken)
  f_spoken : Fun K "spoken" "spoken" s_spoken t.a_spoken t.d_spoken
  k_spoken : PySem.W.keepIn K (.ref t.a_spoken) = true
  p_spoken : Binds K t.d_spoken ["talk","yes","no"] []
  m_parts_pair : mg "parts_pair" = some (.ref t.a_parts_pair)
  f_parts_pair : Fun K "parts_pair" "parts_pair" s_parts_pair t.a_parts_pair t.d_parts_pair
  k_parts_pair : PySem.W.keepIn K (.ref t.a_parts_pair) = true
  p_parts_pair : Binds K t.d_parts_pair ["rule","place","yes","no"] []
  m_fault : mg "fault" = some (.ref t.a_fault)
  f_fault : Fun K "fault" "fault" s_fault t.a_fault t.d_fault
  k_fault : PySem.W.keepIn K (.ref t.a_fault) = true
  p_fault : Binds K t.d_fault ["case","rule","talk"] []
  m_lets_by : mg "lets_by" = some (.ref t.a_lets_by)
  f_lets_by : Fun K "lets_by" "lets_by" s_lets_by t.a_lets_by t.d_lets_by
  k_lets_by : PySem.W.keepIn K (.ref t.a_lets_by) = true
  p_lets_by : Binds K t.d_lets_by ["case","rule","talk"] []
  m_saying_of : mg "saying_of" = some (.ref t.a_saying_of)
  f_saying_of : Fun K "saying_of" "saying_of" s_saying_of t.a_saying_of t.d_saying_of
  k_saying_of : PySem.W.keepIn K (.ref t.a_saying_of) = true
  p_saying_of : Binds K t.d_saying_of ["case","talk"] []
  m_l_begun : mg "_law_begun" = some (.ref t.a_l_begun)
  f_l_begun : Fun K "_law_begun" "_law_begun" s_l_begun t.a_l_begun t.d_l_begun
  k_l_begun : PySem.W.keepIn K (.ref t.a_l_begun) = true
  p_l_begun : Binds K t.d_l_begun ["_law_script"] []
  m_l_next_of : mg "_law_next_of" = some (.ref t.a_l_next_of)
  f_l_next_of : Fun K "_law_next_of" "_law_next_of" s_l_next_of t.a_l_next_of t.d_l_next_of
  k_l_next_of : PySem.W.keepIn K (.ref t.a_l_next_of) = true
  p_l_next_of : Binds K t.d_l_next_of ["_law_state","_law_many"] []
  m_l_all : mg "_law_all" = some (.ref t.a_l_all)
  f_l_all : Fun K "_law_all" "_law_all" s_l_all t.a_l_all t.d_l_all
  k_l_all : PySem.W.keepIn K (.ref t.a_l_all) = true
  p_l_all : Binds K t.d_l_all ["_law_places"] []
  m_l_dealt : mg "_law_dealt" = some (.ref t.a_l_dealt)
  f_l_dealt : Fun K "_law_dealt" "_law_dealt" s_l_dealt t.a_l_dealt t.d_l_dealt
  k_l_dealt : PySem.W.keepIn K (.ref t.a_l_dealt) = true
  p_l_dealt : Binds K t.d_l_dealt ["_law_state","_law_words","_law_many"] []
  m_l_shared : mg "_law_shared" = some (.ref t.a_l_shared)
  f_l_shared : Fun K "_law_shared" "_law_shared" s_l_shared t.a_l_shared t.d_l_shared
  k_l_shared : PySem.W.keepIn K (.ref t.a_l_shared) = true
  p_l_shared : Binds K t.d_l_shared ["_law_places","_law_yes","_law_no"] []
  m_l_parted : mg "_law_parted" = some (.ref t.a_l_parted)
  f_l_parted : Fun K "_law_parted" "_law_parted" s_l_parted t.a_l_parted t.d_l_parted
  k_l_parted : PySem.W.keepIn K (.ref t.a_l_parted) = true
  p_l_parted : Binds K t.d_l_parted ["_law_state","_law_places","_law_yes","_law_no"] []
  m_l_any_saying : mg "_law_any_saying" = some (.ref t.a_l_any_saying)
  f_l_any_saying : Fun K "_law_any_saying" "_law_any_saying" s_l_any_saying t.a_l_any_saying t.d_l_any_saying
  k_l_any_saying : PySem.W.keepIn K (.ref t.a_l_any_saying) = true
  p_l_any_saying : Binds K t.d_l_any_saying ["_law_state","_law_places","_law_many"] []
  m_l_holds : mg "_law_holds" = some (.ref t.a_l_holds)
  f_l_holds : Fun K "_law_holds" "_law_holds" s_l_holds t.a_l_holds t.d_l_holds
  k_l_holds : PySem.W.keepIn K (.ref t.a_l_holds) = true
  p_l_holds : Binds K t.d_l_holds ["_law_saying","_law_word"] []
  m_l_spoken_for : mg "_law_spoken_for" = some (.ref t.a_l_spoken_for)
  f_l_spoken_for : Fun K "_law_spoken_for" "_law_spoken_for" s_l_spoken_for t.a_l_spoken_for t.d_l_spoken_for
  k_l_spoken_for : PySem.W.keepIn K (.ref t.a_l_spoken_for) = true
  p_l_spoken_for : Binds K t.d_l_spoken_for ["_law_yes","_law_no","_law_saying"] []
  m_l_wrapped : mg "_law_wrapped" = some (.ref t.a_l_wrapped)
  f_l_wrapped : Fun K "_law_wrapped" "_law_wrapped" s_l_wrapped t.a_l_wrapped t.d_l_wrapped
  k_l_wrapped : PySem.W.keepIn K (.ref t.a_l_wrapped) = true
  p_l_wrapped : Binds K t.d_l_wrapped ["_law_state","_law_case","_law_talk"] []
  m_l_strewn : mg "_law_strewn" = some (.ref t.a_l_strewn)
  f_l_strewn : Fun K "_law_strewn" "_law_strewn" s_l_strewn t.a_l_strewn t.d_l_strewn
  k_l_strewn : PySem.W.keepIn K (.ref t.a_l_strewn) = true
  p_l_strewn : Binds K t.d_l_strewn ["_law_state","_law_case","_law_talk"] []
  m_l_meaning : mg "_law_meaning" = some (.ref t.a_l_meaning)
  f_l_meaning : Fun K "_law_meaning" "_law_meaning" s_l_meaning t.a_l_meaning t.d_l_meaning
  k_l_meaning : PySem.W.keepIn K (.ref t.a_l_meaning) = true
  p_l_meaning : Binds K t.d_l_meaning ["_law_yes","_law_no","_law_talk"] []
  m_l_small : mg "_law_small" = some (.ref t.a_l_small)
  f_l_small : Fun K "_law_small" "_law_small" s_l_small t.a_l_small t.d_l_small
  k_l_small : PySem.W.keepIn K (.ref t.a_l_small) = true
  p_l_small : Binds K t.d_l_small ["_law_state","_law_places"] []
  m_l_wide : mg "_law_wide" = some (.ref t.a_l_wide)
  f_l_wide : Fun K "_law_wide" "_law_wide" s_l_wide t.a_l_wide t.d_l_wide
  k_l_wide : PySem.W.keepIn K (.ref t.a_l_wide) = true
  p_l_wide : Binds K t.d_l_wide ["_law_state","_law_places"] []
  m_law : mg "law" = some (.ref t.a_law)
  f_law : Fun K "law" "law" s_law t.a_law t.d_law
  k_law : PySem.W.keepIn K (.ref t.a_law) = true
  p_law : Binds K t.d_law ["_law_script"] []
  bl_law : ∀ (s : Shared) (v : Value),BindsTo s t.d_law ⟨[v],[]⟩ [("_law_script",v)]
  b_abs : mg "abs" = none
  b_len : mg "len" = none
  b_list : mg "list" = none
  b_max : mg "max" = none
  b_min : mg "min" = none
  b_range : mg "range" = none
  b_repr : mg "repr" = none
  b_sorted : mg "sorted" = none
  b_tuple : mg "tuple" = none
  c_JOIN_OF_HAND : mg "JOIN_OF_HAND" = some (.ref t.a_JOIN_OF_HAND)
  s_JOIN_OF_HAND : StD t.wo K t.a_JOIN_OF_HAND [("yes",V.str "or"),("no",V.str "and")]
local macro_rules | `(tactic| walk_at "ab")=>`(tactic| simp only [aNext_eq,aSeq_eq,aCont_eq,aDrop_eq,aRet_eq,aIfS_eq,aAsg_eq,agName_eq,agNil_eq,agCons_eq,aFor_eq,aNoTest_eq,aLast_eq,aLFor_eq,aVar_eq,aVarF_eq,aC_eq,aOp_eq,aNil_eq,aCons_eq,aTup_eq,aLst_eq,aLstO_eq,aCall_eq,aDGet_eq,aDisp_eq,aVals_nil,aVals_cons,aListS_eq,aTest_eq,aAnd_eq,aOr_eq,aNot_eq,aIf_eq,aTru_eq,aI0_eq,aI_eq,aEqD_eq,aIn_eq,aIx_eq,aIsN_eq,aLen_eq,aF2_eq,aF1_eq,aTupOf_eq,aListOf_eq,aListO_eq,aiRng1_eq,agTup_eq,agSub_eq,aoNone_eq,aoSome_eq,aRev_eq,aAppend_eq,aExtend_eq,aPop_eq2,emp_concat,last_concat,dropl_concat,aPopAt_eq,aSorted_eq,aOrG_eq,aAndG_eq,aiSeq_eq,aCount_eq,aMin3_eq,aGetI_eq,aRevO_eq,aReprX_eq,aComp_eq,aCB_eq,aSGet_eq,aAdd_int,aAdd_tup,sne_0_1,sne_1_2,sne_2_1,sne_4_3,sne_4_5,sne_5_3,sne_6_7,aAdd_wd,tupA_wd,lstA_wd,aAdd_lst,aAdd_ref,aMul_int,aSl_eq,slA_tup,slA_lst,frzA_d,frzA_r,datA_d,datA_r,lstA_l,lstA_t,lstA_r,tupA_t,tupA_l,tupA_r,truA_b,truA_r,und_cons,und_nil,und_map,lenA_t,lenA_l,lenA_r,seqD_t,seqD_l,aLoop_nil,aLoop_cons,startA,blkA,Om.put_same,Om.put_put,sz1,sz2,sz3,sz4,Int.toNat_natCast,ixN_30,atI_0,atI_1,atI_2,atI_3,eqD_int,eqD_str,eqD_nn,eqD_tn,dep_int,dep_str,Nat.zero_le,AV.d.injEq,AV.r.injEq,D.int.injEq,D.bl.injEq,D.str.injEq,D.tup.injEq,D.lst.injEq,OC.own.injEq,V.ref.injEq,List.map_cons,List.map_nil,List.cons_append,List.nil_append,List.length_cons,List.length_nil,List.length_map,List.length_append,List.replicate,List.getElem?_cons_zero,List.getElem?_cons_succ,List.set_cons_zero,List.set_cons_succ,Option.some.injEq,Option.map_some,Option.join_some,exists_eq',exists_eq_left',List.cons.injEq,and_true,true_and,and_assoc,exists_and_left,exists_and_right,Nat.sub_self,Nat.reduceAdd,Nat.reduceSub,Nat.reduceLeDiff,Int.reduceLT,Int.reduceAdd,Int.reduceToNat,Nat.reduceLT,decide_eq_true_eq,Bool.not_eq_true,Bool.not_true,Bool.not_false,if_true,if_false,Bool.false_eq_true,reduceCtorEq,false_and,and_false,or_false,false_or,exists_false,beq_iff_eq,ne_eq,Bool.true_eq_false])
local macro_rules | `(tactic| walk_at "a1")=>`(tactic| simp only [aNext_eq,aCont_eq,aDrop_eq,aRet_eq,aIfS_eq,aAsg_eq,agName_eq,agNil_eq,agCons_eq,aFor_eq,aNoTest_eq,aLast_eq,aLFor_eq,aVar_eq,aVarF_eq,aC_eq,aOp_eq,aNil_eq,aCons_eq,aTup_eq,aLst_eq,aLstO_eq,aCall_eq,aDGet_eq,aDisp_eq,aVals_nil,aVals_cons,aListS_eq,aTest_eq,aAnd_eq,aOr_eq,aNot_eq,aIf_eq,aTru_eq,aI0_eq,aI_eq,aEqD_eq,aIn_eq,aIx_eq,aIsN_eq,aLen_eq,aF2_eq,aF1_eq,aTupOf_eq,aListOf_eq,aListO_eq,aiRng1_eq,agTup_eq,agSub_eq,aoNone_eq,aoSome_eq,aRev_eq,aAppend_eq,aExtend_eq,aPop_eq2,emp_concat,last_concat,dropl_concat,aPopAt_eq,aSorted_eq,aOrG_eq,aAndG_eq,aiSeq_eq,aCount_eq,aMin3_eq,aGetI_eq,aRevO_eq,aReprX_eq,aComp_eq,aCB_eq,aSGet_eq,aAdd_int,aAdd_tup,sne_0_1,sne_1_2,sne_2_1,sne_4_3,sne_4_5,sne_5_3,sne_6_7,aAdd_wd,tupA_wd,lstA_wd,aAdd_lst,aAdd_ref,aMul_int,aSl_eq,slA_tup,slA_lst,frzA_d,frzA_r,datA_d,datA_r,lstA_l,lstA_t,lstA_r,tupA_t,tupA_l,tupA_r,truA_b,truA_r,und_cons,und_nil,und_map,lenA_t,lenA_l,lenA_r,seqD_t,seqD_l,aLoop_nil,startA,blkA,Om.put_same,Om.put_put,sz1,sz2,sz3,sz4,Int.toNat_natCast,ixN_30,atI_0,atI_1,atI_2,atI_3,eqD_int,eqD_str,eqD_nn,eqD_tn,dep_int,dep_str,Nat.zero_le,AV.d.injEq,AV.r.injEq,D.int.injEq,D.bl.injEq,D.str.injEq,D.tup.injEq,D.lst.injEq,OC.own.injEq,V.ref.injEq,List.map_cons,List.map_nil,List.cons_append,List.nil_append,List.length_cons,List.length_nil,List.length_map,List.length_append,List.replicate,List.getElem?_cons_zero,List.getElem?_cons_succ,List.set_cons_zero,List.set_cons_succ,Option.some.injEq,Option.map_some,Option.join_some,exists_eq',exists_eq_left',List.cons.injEq,and_true,true_and,and_assoc,exists_and_left,exists_and_right,Nat.sub_self,Nat.reduceAdd,Nat.reduceSub,Nat.reduceLeDiff,Int.reduceLT,Int.reduceAdd,Int.reduceToNat,Nat.reduceLT,decide_eq_true_eq,Bool.not_eq_true,Bool.not_true,Bool.not_false,if_true,if_false,Bool.false_eq_true,reduceCtorEq,false_and,and_false,or_false,false_or,exists_false,beq_iff_eq,ne_eq,Bool.true_eq_false])
local macro_rules | `(tactic| walk_at "s1")=>`(tactic| (try walk_at "a1");(first | rw [aSeq_eq] | rw [axSeq_eq]);walk_at "a1")
section
variable {P : Program} {w : World} {K : PySem.W.Frag} {mg : Str→Option Value} {base : Heap} {t : Adr}
structure Pl where
  ns : List Int
  i : Int
  f : Int
  h0 : 0≤i
  hf : 0≤f
  hn : ns.length≤63
def plO (c : Pl) : OC:=.own [.d (.int c.f),.d (.int c.i),.d (.lst (c.ns.map D.int))]
def PlAt (ω : Om) (p : Addr) : Prop:=∃ c,ω p = some (plO c)
theorem plAt_put {ω : Om} {p : Addr} {c : Pl} : PlAt (ω.put p (plO c)) p:=⟨c,Om.put_same⟩
theorem PlAt.some {ω : Om} {p : Addr} (h : PlAt ω p) : (ω p).isSome = true:=by obtain ⟨c,e⟩:=h;rw [e];rfl
theorem PlAt.ne {ω : Om} {p l : Addr} (h : PlAt ω p) (hl : ω l = none) : p≠l:=fun e=>by obtain ⟨c,h⟩:=h;rw [e,hl] at h;cases h
theorem only_pl {ω : Om} {p : Addr} {c : Pl} (h : PlAt ω p) : (ω.put p (plO c)).only ω = ω.put p (plO c):=only_put (Ex.refl _) h.some
theorem om2_plo {ω : Om} {p l : Addr} {c : Pl} {A : OC} (hp : PlAt ω p) (h : ω l = none) : (om2 ω p l (plO c) A).only ω = ω.put p (plO c) :=
  only_put ((Ex.refl _).new (by rw [Om.put_ne (Ne.symm (hp.ne h))];exact h)) hp.some
def sp_pen (K : PySem.W.Frag) : ASp:=fun xs ω Q=>∃ (a : Addr) (ns : List Int),xs = [scrL K a ns]∧ns.length≤63∧∀ p c,ω p = none→Q (.r (.ref p)) (ω.put p (plO c))
theorem ok_pen (T : Txt K mg t) : FnOk P w K mg base CX0 1 t.a_l_begun t.d_l_begun ["_law_script"] (lift (sp_pen K)):=by
  refine T.f_l_begun.okA sc_l_begun (fun xs ω Q h=>by obtain ⟨a,ns,rfl,_⟩:=h;rfl) (fun cdv A outer s H E hr=>⟨_,_,(pss_one (ps_ret (pe_lst (pa_consC pe_int (pa_consC pe_int (pa_cons (pe_callTy (call_list_ofK K rfl) (by rfl) T.b_list (by kernel_rfl) (pa_cons (pv 0) pa_nil)) pa_nil)))))),(s_ret (e_lstO (a_cons e_int (a_cons e_int (a_cons (e_cb c_listS (a_cons e_var a_nil)) a_nil))))),fun xs ω Q h=>?_⟩)
  obtain ⟨a,ns,rfl,hn,k⟩:=h
  walk_at "ab"
  exact ⟨a,ns,rfl,fun p hp=>k p ⟨ns,0,0,Int.le_refl _,Int.le_refl _,hn⟩ hp⟩
def sp_draw : ASp:=fun xs ω Q=>∃ (p : Addr) (m : Int),xs = [.r (.ref p),.d (.int m)]∧PlAt ω p∧0 < m∧m < 1073741824∧∀ (r : Int) (c : Pl),0≤r→r < m→Q (.d (.int r)) (ω.put p (plO c))
theorem ok_draw (T : Txt K mg t) : FnOk P w K mg base CX0 1 t.a_l_next_of t.d_l_next_of ["_law_state","_law_many"] (lift sp_draw):=by
  refine T.f_l_next_of.okA sc_l_next_of (fun xs ω Q h=>by obtain ⟨p,m,rfl,_⟩:=h;rfl) (fun cdv A outer s H E hr=>⟨_,_,(pss_cons (ps_if (pt_cmpR op_gt (pe_ix (ix_seqK K rfl) (pv 0) pe_int (fun _ _=>rfl)) pe_int (nomark _)) (pss_cons (ps_set (i:=2) sc_l_next_of.nd rfl (Or.inl rfl) (pe_op op_mod (pe_ix (ix_seqK K rfl) (pv 0) pe_int (fun _ _=>rfl)) (pv 1)))
      (pss_cons (ps_asg (pe_op op_fdiv (pe_ix (ix_seqK K rfl) (pv 0) pe_int (fun _ _=>rfl)) (pv 1)) (pg_sub (pv 0) pe_int set_list))
      (pss_one (ps_ret (pv 2))))) pss_nil)
      (pss_cons (ps_set (i:=3) sc_l_next_of.nd rfl (Or.inl rfl) (pe_ix (ix_seqK K rfl) (pv 0) pe_int (fun _ _=>rfl)))
      (pss_cons (ps_asg (pe_op (op_alt op_add (op_alt op_cat3 op_cat)) (pv 3) pe_int) (pg_sub (pv 0) pe_int set_list))
      (pss_cons (ps_if (pt_cmpR op_lt (pv 3) (pe_callB (call_lenK K rfl) (by rfl) T.b_len (by kernel_rfl) (pa_cons (pe_ix (ix_seqK K rfl) (pv 0) pe_int (fun _ _=>rfl)) pa_nil)) (nomark _)) (pss_cons (ps_set (i:=4) sc_l_next_of.nd rfl (Or.inl rfl) (pe_callB call_abs (by rfl) T.b_abs (by kernel_rfl) (pa_cons (pe_ix (ix_seqK K rfl) (pe_ix (ix_seqK K rfl) (pv 0) pe_int (fun _ _=>rfl)) (pv 3) (fun _ _=>rfl)) pa_nil)))
      (pss_one (ps_if (pt_cmpR op_ge (pv 4) (pe_op op_pow pe_int pe_int) (nomark _)) (pss_cons (ps_asg (pe_op op_fdiv (pv 4) (pv 1)) (pg_sub (pv 0) pe_int set_list))
      (pss_one (ps_ret (pe_op op_mod (pv 4) (pv 1))))) pss_nil))) pss_nil)
      (pss_cons (ps_set (i:=5) sc_l_next_of.nd rfl (Or.inl rfl) (pe_op (op_alt op_add (op_alt op_cat3 op_cat)) (pe_op (op_alt op_mul op_rep) pe_int (pv 3)) pe_int))
      (pss_cons (ps_if (pt_cmpR (op_neD hr.u100) (pe_ix (ix_seqK K rfl) (pv 0) pe_int (fun _ _=>rfl)) (pe_lst pa_nil) (nomark _)) (pss_one (ps_set (i:=5) sc_l_next_of.nd rfl (Or.inl rfl) (pe_op (op_alt op_add (op_alt op_cat3 op_cat)) (pe_op op_mod (pe_ix (ix_seqK K rfl) (pe_ix (ix_seqK K rfl) (pv 0) pe_int (fun _ _=>rfl)) (pe_op op_mod (pv 3) (pe_callB (call_lenK K rfl) (by rfl) T.b_len (by kernel_rfl) (pa_cons (pe_ix (ix_seqK K rfl) (pv 0) pe_int (fun _ _=>rfl)) pa_nil))) (fun _ _=>rfl)) pe_int) (pe_op (op_alt op_mul op_rep) pe_int (pv 3))))) pss_nil)
      (pss_cons (ps_set (i:=5) sc_l_next_of.nd rfl (Or.inl rfl) (pe_op op_mod (pe_op (op_alt op_mul op_rep) (pe_op (op_alt op_add (op_alt op_cat3 op_cat)) (pv 5) pe_int) pe_int) pe_int))
      (pss_cons (ps_set (i:=5) sc_l_next_of.nd rfl (Or.inl rfl) (pe_op op_mod (pe_op (op_alt op_add (op_alt op_cat3 op_cat)) (pe_op (op_alt op_add (op_alt op_cat3 op_cat)) (pe_op (op_alt op_mul op_rep) (pv 5) (pv 5)) (pe_op (op_alt op_mul op_rep) pe_int (pv 5))) (pv 3)) pe_int))
      (pss_one (ps_ret (pe_op op_mod (pe_op op_fdiv (pv 5) pe_int) (pv 1)))))))))))),(s_seq (s_if (t_test (e_op o_I0b (e_op o_ix e_var e_int) e_int)) (s_seq (s_asg (e_op o_Ii (e_op o_ix e_var e_int) e_var) g_name)
      (s_seq (s_asg (e_op o_Ii (e_op o_ix e_var e_int) e_var) (g_sub e_var e_int))
      (s_ret e_var))) s_next)
      (s_seq (s_asg (e_op o_ix e_var e_int) g_name)
      (s_seq (s_asg (e_op o_add e_var e_int) (g_sub e_var e_int))
      (s_seq (s_if (t_test (e_op o_I0b e_var (e_cb c_len (a_cons (e_op o_ix e_var e_int) a_nil)))) (s_seq (s_asg (e_cb c_F1 (a_cons (e_op o_ix (e_op o_ix e_var e_int) e_var) a_nil)) g_name)
      (s_if (t_test (e_op o_I0b e_var (e_op o_Ii e_int e_int))) (s_seq (s_asg (e_op o_Ii e_var e_var) (g_sub e_var e_int))
      (s_ret (e_op o_Ii e_var e_var))) s_next)) s_next)
      (s_seq (s_asg (e_op o_add (e_op o_mul e_int e_var) e_int) g_name)
      (s_seq (s_if (t_test (e_op o_eqD (e_op o_ix e_var e_int) (e_lst a_nil))) (s_asg (e_op o_add (e_op o_Ii (e_op o_ix (e_op o_ix e_var e_int) (e_op o_Ii e_var (e_cb c_len (a_cons (e_op o_ix e_var e_int) a_nil)))) e_int) (e_op o_mul e_int e_var)) g_name) s_next)
      (s_seq (s_asg (e_op o_Ii (e_op o_mul (e_op o_add e_var e_int) e_int) e_int) g_name)
      (s_seq (s_asg (e_op o_Ii (e_op o_add (e_op o_add (e_op o_mul e_var e_var) (e_op o_mul e_int e_var)) e_var) e_int) g_name)
      (s_ret (e_op o_Ii (e_op o_Ii e_var e_int) e_var)))))))))),fun xs ω Q h=>?_⟩)
  obtain ⟨p,m,rfl,⟨c,hp⟩,hm,hm2,k⟩:=h
  have fin : ∀ (r : Int) (c : Pl),Q (.d (.int (r % m))) (ω.put p (plO c)):=fun r c=>k _ c (Int.emod_nonneg _ (by omega)) (Int.emod_lt_of_pos _ hm)
  unfold plO at hp
  walk_at "s1"
  simp only [hp]
  walk_at "a1"
  refine ite2 (fun h1=>?_) (fun h1=>?_)
  · walk_at "ab"
    simp only [hp]
    walk_at "ab"
    exact ⟨hm,⟨hm,hm2⟩,fin _ ⟨c.ns,c.i,c.f / m,c.h0,Int.ediv_nonneg c.hf (by omega),c.hn⟩⟩
  · walk_at "s1"
    simp only [hp]
    walk_at "s1"
    simp only [hp]
    have absn : ∀ z : Int,0≤(if z < 0 then -z else z):=fun z=>by split<;>omega
    have h0:=c.h0
    refine ⟨_,rfl,1,rfl,?_⟩
    simp only [List.set_cons_zero,List.set_cons_succ]
    refine seq_cut (fun ρ' ω'=>ω' = ω.put p (OC.own [AV.d (D.int c.f),AV.d (D.int (c.i + 1)),AV.d (D.lst (c.ns.map D.int))])∧∃ v4,ρ' = [some (AV.r (V.ref p)),some (AV.d (D.int m)),none,some (AV.d (D.int c.i)),v4,none]) (fun M kM=>?_) ?_
    · walk_at "a1"
      refine ite2 (fun h2=>?_) (fun h2=>kM _ _ ⟨rfl,_,rfl⟩)
      obtain ⟨y,my,hy,ey⟩:=map_nth (f:=AV.d ∘ D.int) (xs:=c.ns) h0 h2
      rw [← List.map_map] at ey
      walk_at "s1"
      refine ⟨_,ey,_,rfl,⟨by decide,by decide,by decide⟩,ite2 (fun h3=>?_) (fun h3=>kM _ _ ⟨rfl,_,rfl⟩)⟩
      walk_at "s1"
      refine ⟨⟨hm,hm2⟩,hm,?_⟩
      exact fin _ ⟨c.ns,c.i + 1,(if y < 0 then -y else y) / m,by omega,Int.ediv_nonneg (absn y) (by omega),c.hn⟩
    rintro ρ ω' ⟨rfl,v4,rfl⟩
    walk_at "s1"
    refine ⟨cmul_l (by decide),?_⟩
    refine seq_cut (fun ρ' ω'=>ω' = ω.put p (OC.own [AV.d (D.int c.f),AV.d (D.int (c.i + 1)),AV.d (D.lst (c.ns.map D.int))])∧∃ x : Int,ρ' = [some (AV.r (V.ref p)),some (AV.d (D.int m)),none,some (AV.d (D.int c.i)),v4,some (AV.d (D.int x))]) (fun M kM=>?_) ?_
    · walk_at "a1"
      have ed : dep (D.lst (c.ns.map D.int))≤100:=by simp [dep,deps_ints]
      have en : eqD (D.lst (c.ns.map D.int)) (D.lst []) = c.ns.isEmpty:=by cases c.ns<;>rfl
      refine ⟨ed,?_⟩
      rw [en]
      refine ite2 (fun h2=>?_) (fun h2=>kM _ _ ⟨rfl,_,rfl⟩)
      have h2' : 0 < (c.ns.length : Int):=by cases hc : c.ns with
        | nil=>simp [hc] at h2
        | cons y ys=>simp only [List.length_cons];omega
      have hx1 : 0≤c.i % (c.ns.length : Int):=Int.emod_nonneg _ (by omega)
      have hx2 : c.i % (c.ns.length : Int) < (c.ns.length : Int):=Int.emod_lt_of_pos _ h2'
      obtain ⟨y,my,hy,ey⟩:=map_nth (f:=AV.d ∘ D.int) (xs:=c.ns) hx1 hx2
      rw [← List.map_map] at ey
      exact ⟨h2',_,ey,_,rfl,cmul_l (by decide),kM _ _ ⟨rfl,_,rfl⟩⟩
    rintro ρ ω' ⟨rfl,x,rfl⟩
    walk_at "ab"
    exact ⟨cmul_r (by decide),cmul_mod (by decide) (by decide),cmul_l (by decide),⟨by decide,by decide⟩,hm,fin _ ⟨c.ns,c.i + 1,c.f,by omega,c.hf,c.hn⟩⟩
def sp_lawA (K : PySem.W.Frag) : ASp:=fun xs ω Q=>∃ (a : Addr) (ns : List Int),xs = [scrL K a ns]∧ns.length≤63∧ω = (fun _=>none)∧∀ ω',Q (.d (.bl true)) ω'
def sp_law (K : PySem.W.Frag) : Sp:=lift (sp_lawA K)
theorem start_law {K : PySem.W.Frag} {H : Hp} {a : Addr} {ns : List Int} (hl : ns.length≤63) (hO : Only H) (hS : SqL K H a (ns.map V.int)) : sp_law K [.ref a] H (fun v _=>v = .bl true) fun _ _ _=>False :=
  ⟨fun _=>false,[scrL K a ns],fun _=>none,fun a _=>a = .d (.bl true),repNone,⟨_,_,rfl,scrL_start hS,rfl⟩,⟨a,ns,rfl,hl,rfl,fun _=>rfl⟩,fun a ω' v H' _ _ rv q=>by subst q;exact rv_bl rv⟩
end
section
variable {P : Program} {w : World} {K : PySem.W.Frag} {mg : Str→Option Value} {base : Heap} {t : Adr}
def sp_all : ASp:=fun xs ω Q=>∃ n : Nat,xs = [.d (.int n)]∧n≤5∧Q (.d (.lst ((wl n).map wdD))) ω
theorem ok_all (T : Txt K mg t) : FnOk P w K mg base CX0 1 t.a_l_all t.d_l_all ["_law_places"] (lift sp_all):=by
  refine T.f_l_all.okD sc_l_all (fun xs ω Q h=>by obtain ⟨n,rfl,_⟩:=h;rfl) (fun cdv A outer s H E hr=>⟨_,_,(pss_cons (ps_set (i:=1) sc_l_all.nd rfl (Or.inl rfl) (pe_lst (pa_consT (pe_tup pa_nil) pa_nil)))
      (pss_cons (ps_for PassesOwn.never rfl (pi_range1 rfl T.b_range (pa_cons (pv 0) pa_nil)) (pg_name (i:=2) sc_l_all.nd rfl (Or.inl rfl)) (pss_cons (ps_set (i:=3) sc_l_all.nd rfl (Or.inl rfl) (pe_lst pa_nil))
      (pss_cons (ps_for PassesOwn.never rfl (pi_seq K rfl (pv 1)) (pg_name (i:=4) sc_l_all.nd rfl (Or.inl rfl)) (pss_one (ps_expr (pe_bm PySem.F.plainAttrs_list PySem.F.slot_list_extend PySem.F.type_list_extend mt_extend (pv 3) (pa_consL (pe_lst (pa_cons (pe_op (op_alt op_add (op_alt op_cat3 op_cat)) (pv 4) (pe_tup (pa_consC pe_int pa_nil))) (pa_cons (pe_op (op_alt op_add (op_alt op_cat3 op_cat)) (pv 4) (pe_tup (pa_consC pe_int pa_nil))) pa_nil))) pa_nil)))))
      (pss_one (ps_set (i:=1) sc_l_all.nd rfl (Or.inl rfl) (pv 3))))))
      (pss_one (ps_ret (pv 1))))),(s_seq (s_asg (e_lst (a_cons (e_tup a_nil) a_nil)) g_name)
      (s_seq (s_for (i_rng1 (a_cons e_var a_nil)) g_name (s_seq (s_asg (e_lstO a_nil) g_name)
      (s_seq (s_for (i_seq e_var) g_name (s_drop (e_extend e_var (a_cons (e_lst (a_cons (e_op o_add e_var (e_tup (a_cons e_int a_nil))) (a_cons (e_op o_add e_var (e_tup (a_cons e_int a_nil))) a_nil))) a_nil))))
      (s_asg e_varF g_name))))
      (s_ret e_var))),fun xs ω Q h=>?_⟩)
  obtain ⟨n,rfl,hn,k⟩:=h
  walk_at "ab"
  refine ⟨by omega,by omega,?_⟩
  refine for_rng (fun i ρ ω'=>∃ v2 v3 v4,ρ = [some (.d (.int n)),some (.d (.lst ((wl i).map wdD))),v2,v3,v4]∧Ex ω ω') ⟨_,_,_,rfl,Ex.refl _⟩ ?_ ?_
  · rintro i ρ ω1 N hi ⟨v2,v3,v4,rfl,ex⟩ kN
    have hw:=wl_le (n:=i) (by omega)
    walk_at "ab"
    refine fun l hl=>?_
    refine for_D (fun j ρ ω2=>∃ v4,ρ = [some (.d (.int n)),some (.d (.lst ((wl i).map wdD))),some (.d (.int (0 + i))),some (.r (.ref l)),v4]∧ω2 = ω1.put l (.own (((((wl i).take j).flatMap fun w=>[w ++ [0],w ++ [1]]).map wdD).map AV.d))) ⟨_,rfl,rfl⟩ ?_ ?_
    · rintro j d ρ ω2 M hd ⟨v4,rfl,rfl⟩ kM
      obtain ⟨x,hx,rfl⟩:=map_get hd
      have hx1:=(wl_mem (List.mem_of_getElem? hx)).1
      have hj:=(List.getElem?_eq_some_iff.mp hx).1
      have hl2 : ((((wl i).take j).flatMap fun w=>[w ++ [0],w ++ [1]]).length) = 2 * j:=by
        have h : ∀ ws : List (List Int),(ws.flatMap fun w=>[w ++ [0],w ++ [1]]).length = 2 * ws.length:=fun ws=>by
          induction ws with
          | nil=>rfl
          | cons a r ih=>rw [List.flatMap_cons,List.length_append,ih];simp;omega
        rw [h,List.length_take];omega
      walk_at "ab"
      refine ⟨le_dec (m:=0) (by omega),le_dec (m:=0) (by omega),le_dec (m:=0) (by rw [hl2];omega),kM _ _ ⟨_,rfl,?_⟩⟩
      rw [List.take_succ,hx,List.flatMap_append]
      simp
    · rintro ρ ω2 ⟨v4,rfl,rfl⟩
      rw [List.length_map,List.take_length]
      walk_at "ab"
      exact kN _ _ ⟨_,_,_,rfl,ex.new hl⟩
  · rintro ρ ω1 ⟨v2,v3,v4,rfl,ex⟩
    walk_at "ab"
    rw [only_ex ex]
    exact k
end
section
variable {P : Program} {w : World} {K : PySem.W.Frag} {mg : Str→Option Value} {base : Heap} {t : Adr}
abbrev oW (ws : List (List Int)) : OC:=.own ((ws.map wdD).map AV.d)
theorem er_map {α β : Type} (f : α→β) : ∀ (xs : List α) (i : Nat),(xs.map f).eraseIdx i = (xs.eraseIdx i).map f
  | [],_=>rfl
  | x :: xs,0=>rfl
  | x :: xs,i + 1=>by simp [er_map f xs i]
def sp_dealt : ASp:=fun xs ω Q=>∃ (p : Addr) (ws : List (List Int)) (m : Nat),xs = [.r (.ref p),.d (.lst (ws.map wdD)),.d (.int m)]∧PlAt ω p∧ws.length≤32∧∀ (L : List (List Int)) (c : Pl),L.Sublist ws→L.length = min m ws.length→Q (.d (.lst (L.map wdD))) (ω.put p (plO c))
theorem ok_dealt (T : Txt K mg t) : FnOk P w K mg base CX0 2 t.a_l_dealt t.d_l_dealt ["_law_state","_law_words","_law_many"] (lift sp_dealt):=by
  have G_l_next_of : FnOk P w K mg base CX0 1 t.a_l_next_of t.d_l_next_of ["_law_state","_law_many"] (lift sp_draw):=ok_draw T
  refine T.f_l_dealt.okD sc_l_dealt (fun xs ω Q h=>by obtain ⟨p,ws,m,rfl,_⟩:=h;rfl) (fun cdv A outer s H E hr=>⟨_,_,(pss_cons (ps_set (i:=3) sc_l_dealt.nd rfl (Or.inl rfl) (pe_callTy (call_list_ofK K rfl) (by rfl) T.b_list (by kernel_rfl) (pa_cons (pv 1) pa_nil)))
      (pss_cons (ps_while PassesOwn.never (pt_cmpR op_gt (pe_callB (call_lenK K rfl) (by rfl) T.b_len (by kernel_rfl) (pa_cons (pv 3) pa_nil)) (pv 2) (nomark _)) (pss_one (ps_expr (pe_bm PySem.F.plainAttrs_list PySem.F.slot_list_pop PySem.F.type_list_pop mt_popAt (pv 3) (pa_cons (pe_call G_l_next_of (hr.mono (by omega)) (by rfl) T.m_l_next_of T.k_l_next_of T.p_l_next_of .nil pass0 (pa_cons (pv 0) (pa_cons (pe_callB (call_lenK K rfl) (by rfl) T.b_len (by kernel_rfl) (pa_cons (pv 3) pa_nil)) pa_nil))) pa_nil)))))
      (pss_one (ps_ret (pv 3))))),(s_seq (s_asg (e_cb c_listO (a_cons e_var a_nil)) g_name)
      (s_seq (s_while (t_test (e_op o_I0b (e_cb c_len (a_cons e_var a_nil)) e_var)) (s_drop (e_popAt e_var (a_cons (e_call (a_cons e_var (a_cons (e_cb c_len (a_cons e_var a_nil)) a_nil))) a_nil))))
      (s_ret e_varF))),fun xs ω Q h=>?_⟩)
  obtain ⟨p,ws,m,rfl,⟨c0,hp⟩,hl,k⟩:=h
  have hP : PlAt ω p:=⟨c0,hp⟩
  have e0 : ω.put p (plO c0) = ω:=by funext b;by_cases hb : b = p<;>simp [Om.put,hb,hp]
  rw [← e0]
  walk_at "s1"
  intro q hq
  obtain ⟨nqp,hq⟩:=put_free hq
  show aSeq _ _ _ _ (om2 ω p q (plO c0) (oW ws))
  refine seq_cut (fun ρ' ω'=>∃ (L : List (List Int)) (c : Pl),L.Sublist ws∧L.length = min m ws.length∧ω' = om2 ω p q (plO c) (oW L)∧ρ' = [some (AV.r (V.ref p)),some (AV.d (D.lst (ws.map wdD))),some (AV.d (D.int m)),some (AV.r (V.ref q))]) (fun M kM=>?_) ?_
  · obtain ⟨Pv,iP⟩:=invA fun g ρ ω'=>∃ (L : List (List Int)) (c : Pl),L.Sublist ws∧min m ws.length≤L.length∧ω' = om2 ω p q (plO c) (oW L)∧ρ = [some (AV.r (V.ref p)),some (AV.d (D.lst (ws.map wdD))),some (AV.d (D.int m)),some (AV.r (V.ref q))]∧g = L.length
    refine ⟨Pv,⟨_,(iP _ _ _).mpr ⟨ws,c0,List.Sublist.refl _,Nat.min_le_right _ _,rfl,rfl,rfl⟩⟩,fun g ρ ω3 h=>?_⟩
    obtain ⟨L,c,sL,hL,rfl,rfl,rfl⟩:=(iP _ _ _).mp h
    clear h
    have hLl:=sL.length_le
    walk_at "a1"
    have len : ∀ (ω' : Om) (A : List (List Int)),ω' q = some (oW A)→Option.map List.length (match ω' q with | some (OC.own xs)=>some xs | some (OC.frz ds)=>some (List.map AV.d ds) | x=>none) = some A.length:=fun ω' A h=>by rw [h];simp
    refine ⟨L.length,len _ L om2_l,?_⟩
    refine ite2 (fun h1=>?_) (fun h1=>kM _ _ ⟨L,c,sL,by omega,rfl,rfl⟩)
    refine ⟨fun ρ' ω'=>∃ m',m' < L.length∧Pv m' ρ' ω',fun ρ' ω' h=>h,⟨_,om2_l⟩,L.length,len _ L om2_l,p,_,rfl,⟨c,om2_p nqp.symm⟩,by omega,by omega,fun i c3 i0 i1=>?_⟩
    rw [om2_pp nqp.symm]
    obtain ⟨i,rfl⟩:=Int.eq_ofNat_of_zero_le i0
    have hi : i < L.length:=by omega
    refine ⟨_,i,rfl,om2_l,by simp;omega,⟨.d (wdD L[i]),by simp [hi]⟩,(L.eraseIdx i).length,by rw [List.length_eraseIdx];rw [if_pos hi];omega,(iP _ _ _).mpr ⟨L.eraseIdx i,c3,(List.eraseIdx_sublist ..).trans sL,by rw [List.length_eraseIdx,if_pos hi];omega,?_,rfl,rfl⟩⟩
    rw [om2_pl,er_map,er_map]
  rintro ρ ω' ⟨L,c,sL,hL,rfl,rfl⟩
  walk_at "a1"
  rw [om2_l]
  dsimp only
  refine ⟨_,und_map _,?_⟩
  rw [om2_pl,e0,om2_plo hP hq]
  exact k L c sL hL
def ptA (i : Nat) (ys zs : List (List Int)) : Bool:=(ys.all fun y=>decide (y.getD i 0 = (ys.headD []).getD i 0)) && zs.all fun z=>!decide (z.getD i 0 = (ys.headD []).getD i 0)
def shL (n : Nat) (ys zs : List (List Int)) : List Nat:=(List.range n).filter fun i=>ptA i ys zs
def sp_shared : ASp:=fun xs ω Q=>∃ (n : Nat) (ys zs : List (List Int)),xs = [.d (.int n),.d (.lst (ys.map wdD)),.d (.lst (zs.map wdD))]∧n≤5∧Wds n ys∧Wds n zs∧ys≠[]∧Q (.d (.lst ((shL n ys zs).map fun (i : Nat)=>D.int (i : Int)))) ω
theorem ok_shared (T : Txt K mg t) : FnOk P w K mg base CX0 1 t.a_l_shared t.d_l_shared ["_law_places","_law_yes","_law_no"] (lift sp_shared):=by
  refine T.f_l_shared.okD sc_l_shared (fun xs ω Q h=>by obtain ⟨n,ys,zs,rfl,_⟩:=h;rfl) (fun cdv A outer s H E hr=>⟨_,_,(pss_cons (ps_set (i:=3) sc_l_shared.nd rfl (Or.inl rfl) (pe_lst pa_nil))
      (pss_cons (ps_for PassesOwn.never rfl (pi_range1 rfl T.b_range (pa_cons (pv 0) pa_nil)) (pg_name (i:=4) sc_l_shared.nd rfl (Or.inr rfl)) (pss_cons (ps_set (i:=5) sc_l_shared.nd rfl (Or.inr rfl) (pe_comp (N:=(["_law_word","_law_place"] : List Str)) (src:=[none,some 4]) rfl (by show blkOk _ (defScope s_l_shared) _ _ (["_law_places","_law_yes","_law_no","_law_found","_law_place","_law_bits"] : List Str) = true;decide +kernel) (by intro g' h;cases h) (pi_seq K rfl (pv 1)) (fun _ _ _ _ _ _=>(pg_name (i:=0) (show (["_law_word","_law_place"] : List Str).Nodup by decide +kernel) rfl (Or.inl rfl))) (fun _ _ _ _ _ _=>pts_nil) (fun _ _ _ _ _ _=>(pl_last rfl rfl (pe_ix (ix_seqK K rfl) (pv 0) (pv 1) (fun _ _=>rfl))))))
      (pss_one (ps_if (PW.pt (pw_and (pt_cmpR (op_eqD hr.u100) (pe_bm PySem.F.plainAttrs_list PySem.F.slot_list_count PySem.F.type_list_count (mt_count K rfl) (pv 5) (pa_cons (pe_ix (ix_seqK K rfl) (pv 5) pe_int (fun _ _=>rfl)) pa_nil)) (pe_callB (call_lenK K rfl) (by rfl) T.b_len (by kernel_rfl) (pa_cons (pv 5) pa_nil)) (nomark _)) (pw_and1 (pt_cmpR (op_eqD hr.u100) (pe_comp (N:=(["_law_word","_law_place","_law_bits"] : List Str)) (src:=[none,some 4,some 5]) rfl (by show blkOk _ (defScope s_l_shared) _ _ (["_law_places","_law_yes","_law_no","_law_found","_law_place","_law_bits"] : List Str) = true;decide +kernel) (by intro g' h;cases h) (pi_seq K rfl (pv 2)) (fun _ _ _ _ _ _=>(pg_name (i:=0) (show (["_law_word","_law_place","_law_bits"] : List Str).Nodup by decide +kernel) rfl (Or.inl rfl))) (fun _ _ _ _ _ _=>(pts_one (pt_cmpR (op_eqD hr.u100) (pe_ix (ix_seqK K rfl) (pv 0) (pv 1) (fun _ _=>rfl)) (pe_ix (ix_seqK K rfl) (pv 2) pe_int (fun _ _=>rfl)) (nomark _)))) (fun _ _ _ _ _ _=>(pl_last rfl rfl (pv 0)))) (pe_lst pa_nil) (nomark _))))) (pss_one (ps_expr (pe_bm PySem.F.plainAttrs_list PySem.F.slot_list_append PySem.F.type_list_append mt_append (pv 3) (pa_cons (pv 4) pa_nil)))) pss_nil))))
      (pss_one (ps_ret (pv 3))))),(s_seq (s_asg (e_lstO a_nil) g_name)
      (s_seq (s_for (i_rng1 (a_cons e_var a_nil)) g_name (s_seq (s_asg (e_comp (i_seq e_var) g_name t_no (l_last (e_op o_ix e_var e_var))) g_name)
      (s_if (t_and (t_test (e_op o_eqD (e_count e_var (a_cons (e_op o_ix e_var e_int) a_nil)) (e_cb c_len (a_cons e_var a_nil)))) (t_test (e_op o_eqD (e_comp (i_seq e_var) g_name (t_test (e_op o_eqD (e_op o_ix e_var e_var) (e_op o_ix e_var e_int))) (l_last e_var)) (e_lst a_nil)))) (s_drop (e_append e_var (a_cons e_var a_nil))) s_next)))
      (s_ret e_varF))),fun xs ω Q h=>?_⟩)
  obtain ⟨n,ys,zs,rfl,hn,hy,hz,hy0,k⟩:=h
  have hyl:=hy.le hn
  have hzl:=hz.le hn
  have bit : ∀ {i : Nat} (hi : i < n) (ws : List (List Int)) (ω : Om),Wds n ws→∀ {v0 : Option AV} {KK : List AV→SA→Om→Prop},(∀ ρ,KK (((ws.map fun v=>v.getD i 0).map D.int).map AV.d) ρ ω)→aLoop (agName 0) aNoTest (aLast (aOp aIx (aVar 0) (aVar 1))) ((ws.map wdD).map AV.d) [] [v0,some (.d (.int (0 + (i : Nat))))] ω KK:=fun {i} hi ws ω hw v0 KK hk=>by
    have hl:=hw.le hn
    refine comp_ix (by simp) (Nat.le_of_lt (small1000 (by simp;omega))) (fun j a r h1 h2 Q q=>?_) hk
    simp only [List.map_map,List.getElem?_map,Option.map_eq_some_iff] at h1 h2
    obtain ⟨y,hyj,rfl⟩:=h1
    obtain ⟨y',hyj',rfl⟩:=h2
    rw [hyj] at hyj'
    cases hyj'
    have hyn : y.length = n:=(wl_mem (hw.2 y (List.mem_of_getElem? hyj))).1
    obtain ⟨z,mz,hz',ez⟩:=map_nth (f:=AV.d ∘ D.int) (xs:=y) (i:=(i : Int)) (by omega) (by omega)
    rw [← List.map_map] at ez
    have ev : y.getD i 0 = z:=by rw [List.getD_eq_getElem?_getD,show y[i]? = some z from hz'];rfl
    simp only [Function.comp_apply] at q ⊢
    rw [ev] at q
    walk_at "a1"
    rw [Int.zero_add]
    exact ⟨_,ez,q⟩
  walk_at "s1"
  intro l hl
  walk_at "s1"
  refine ⟨by omega,by omega,for_rng (fun m ρ ω'=>∃ v4 v5 : Option AV,ω' = ω.put l (.own (((shL m ys zs).map fun (i : Nat)=>D.int (i : Int)).map AV.d))∧ρ = [some (.d (.int n)),some (.d (.lst (ys.map wdD))),some (.d (.lst (zs.map wdD))),some (.r (.ref l)),v4,v5]) ⟨_,_,rfl,rfl⟩ ?_ ?_⟩
  · rintro m ρ ω' N hm ⟨v4,v5,rfl,rfl⟩ kN
    have hm' : m < n:=hm
    walk_at "s1"
    refine bit hm' ys _ hy fun ρ=>⟨_,und_map _,?_⟩
    obtain ⟨y0,yr,ey⟩:=List.exists_cons_of_ne_nil hy0
    have hsl : (shL m ys zs).length≤m:=by
      have:=List.length_filter_le (fun i=>ptA i ys zs) (List.range m)
      rw [List.length_range] at this
      exact this
    have succ : shL (m + 1) ys zs = shL m ys zs ++ if ptA m ys zs then [m] else []:=by
      simp only [shL,List.range_succ,List.filter_append]
      congr 1
      cases e : ptA m ys zs<;>simp [e]
    have no : ptA m ys zs = false→N [some (AV.d (D.int n)),some (AV.d (D.lst (ys.map wdD))),some (AV.d (D.lst (zs.map wdD))),some (AV.r (V.ref l)),some (AV.d (D.int (0 + (m : Nat)))),some (AV.d (D.lst ((ys.map fun v=>v.getD m 0).map D.int)))] (ω.put l (.own (((shL m ys zs).map fun (i : Nat)=>D.int (i : Int)).map AV.d))):=fun e=>kN _ _ ⟨_,_,by rw [succ,e];simp,rfl⟩
    refine ⟨_,rfl,.d (.int (y0.getD m 0)),atI_of 0 rfl (by rw [ey];rfl),_,rfl,ite2 (fun h1=>?_) (fun h1=>no ?_)⟩
    · have hall : ∀ y∈ys,y.getD m 0 = y0.getD m 0:=fun y hym=>by
        have h2 : (ys.map fun v=>v.getD m 0).countP (fun x=>x == y0.getD m 0) = (ys.map fun v=>v.getD m 0).length:=by
          rw [List.length_map] at h1
          omega
        have:=List.countP_eq_length.mp h2 _ (List.mem_map.mpr ⟨y,hym,rfl⟩)
        simpa using this
      have e1 : (ys.all fun y=>decide (y.getD m 0 = (ys.headD []).getD m 0)) = true:=by
        rw [List.all_eq_true]
        intro y hym
        rw [decide_eq_true_eq,hall y hym,ey]
        rfl
      refine comp_ft wdD (fun v=>decide (v.getD m 0 = y0.getD m 0)) wdD (Nat.le_of_lt (small1000 (by omega))) (fun v hv Q q=>?_) (fun v hv _ Q q=>?_) (fun ρ=>⟨_,und_map _,?_⟩)
      · have hvn : v.length = n:=(wl_mem (hz.2 v hv)).1
        obtain ⟨z,mz,hz',ez⟩:=map_nth (f:=AV.d ∘ D.int) (xs:=v) (i:=(m : Int)) (by omega) (by omega)
        rw [← List.map_map] at ez
        have ev : v.getD m 0 = z:=by rw [List.getD_eq_getElem?_getD,show v[m]? = some z from hz'];rfl
        walk_at "a1"
        rw [Int.zero_add]
        refine ⟨_,ez,.d (.int (y0.getD m 0)),atI_of 0 rfl (by rw [ey];rfl),_,rfl,_,rfl,by simp [dep],?_⟩
        rw [eqD_int,show (z == y0.getD m 0) = decide (v.getD m 0 = y0.getD m 0) from by rw [ev];rfl]
        exact q
      · walk_at "a1"
        exact q
      refine ⟨by simp only [dep];have:=deps_wds (zs.filter fun v=>decide (v.getD m 0 = y0.getD m 0));omega,?_⟩
      rw [show eqD (D.lst ((zs.filter fun v=>decide (v.getD m 0 = y0.getD m 0)).map wdD)) (D.lst []) = (zs.filter fun v=>decide (v.getD m 0 = y0.getD m 0)).isEmpty from by cases (zs.filter fun v=>decide (v.getD m 0 = y0.getD m 0))<;>rfl]
      have ep : ptA m ys zs = (zs.filter fun v=>decide (v.getD m 0 = y0.getD m 0)).isEmpty:=by
        unfold ptA
        rw [e1,Bool.true_and,Bool.eq_iff_iff,List.all_eq_true,List.isEmpty_iff,List.filter_eq_nil_iff,ey]
        constructor
        · intro h v hv
          simpa using h v hv
        · intro h v hv
          simpa using h v hv
      rw [← ep]
      refine ite2 (fun h2=>?_) (fun h2=>no (by simpa using h2))
      refine ⟨⟨_,Om.put_same⟩,_,Om.put_same,small1000 (by simp;omega),?_⟩
      rw [Om.put_put]
      exact kN _ _ ⟨_,_,by rw [succ,h2];simp,rfl⟩
    · rw [Bool.eq_false_iff]
      intro hp
      apply h1
      simp only [ptA,Bool.and_eq_true,List.all_eq_true,decide_eq_true_eq] at hp
      have h2 : (ys.map fun v=>v.getD m 0).countP (fun x=>x == y0.getD m 0) = (ys.map fun v=>v.getD m 0).length:=List.countP_eq_length.mpr fun x hx=>by
        obtain ⟨v,hv,rfl⟩:=List.mem_map.mp hx
        have:=hp.1 v hv
        rw [ey] at this
        simpa using this
      rw [List.length_map,h2]
  · rintro ρ ω' ⟨v4,v5,rfl,rfl⟩
    dsimp only
    walk_at "a1"
    rw [only_ex ((Ex.refl ω).new hl)]
    exact k
end
section
variable {P : Program} {w : World} {K : PySem.W.Frag} {mg : Str→Option Value} {base : Heap} {t : Adr}
structure Parted (n : Nat) (x : Sy) (ys zs : List (List Int)) : Prop where
  y : Wds n ys
  z : Wds n zs
  vy : ∀ v∈ys,x.val v = true
  vz : ∀ v∈zs,x.val v = false
  y1 : ys≠[]
  z1 : zs≠[]
def talkOf (ys zs : List (List Int)) : Sy→Ta
  | .is i _=>.en i
  | .jn an l r=>if an then .nd false (zs.filter fun v=>l.val v) (talkOf ys zs l) (talkOf ys zs r) else .nd true (ys.filter fun v=>!l.val v) (talkOf ys zs l) (talkOf ys zs r)
theorem talkOf_ok {n : Nat} {ys zs : List (List Int)} (hy : Wds n ys) (hz : Wds n zs) : ∀ {x : Sy},x.ok n→(talkOf ys zs x).ok n∧(talkOf ys zs x).dp = x.dp∧(talkOf ys zs x).size + 1 = 2 * x.lvs
  | .is i b,h=>⟨⟨h.1,h.2.1⟩,rfl,rfl⟩
  | .jn an l r,h=>by
    obtain ⟨a1,a2,a3⟩:=talkOf_ok hy hz h.1
    obtain ⟨b1,b2,b3⟩:=talkOf_ok hy hz h.2
    cases an<;>simp only [talkOf,if_true,if_false,Bool.false_eq_true,Ta.ok,Ta.dp,Ta.size,Sy.dp,Sy.lvs,a2,b2,and_true,true_and]
    · exact ⟨⟨⟨List.filter_sublist.nodup hy.1,fun w hw=>hy.2 w (List.mem_filter.mp hw).1⟩,a1,b1⟩,by omega⟩
    · exact ⟨⟨⟨List.filter_sublist.nodup hz.1,fun w hw=>hz.2 w (List.mem_filter.mp hw).1⟩,a1,b1⟩,by omega⟩
theorem talkOf_fin {n : Nat} {ys zs : List (List Int)} {y z : List Int} (hy : y∈ys) (hz : z∈zs) (hz1 : z∈wl n) : ∀ {x : Sy},x.ok n→x.val y = true→x.val z = false →
    (y.getD (Ta.fin y z (talkOf ys zs x)).toNat 0≠z.getD (Ta.fin y z (talkOf ys zs x)).toNat 0)∧(x.up→y.getD (Ta.fin y z (talkOf ys zs x)).toNat 0 = 1∧z.getD (Ta.fin y z (talkOf ys zs x)).toNat 0 = 0)
  | .is i b,h,v1,v2=>by
    simp only [Sy.val,decide_eq_true_eq,decide_eq_false_iff_not] at v1 v2
    simp only [talkOf,Ta.fin]
    refine ⟨fun e=>v2 (e.symm.trans v1),fun hu=>?_⟩
    simp only [Sy.up] at hu
    subst hu
    exact ⟨v1,(wl_bit hz1 i.toNat).resolve_right v2⟩
  | .jn an l r,h,v1,v2=>by
    cases an with
    | false =>
      simp only [Sy.val,if_false,Bool.false_eq_true,Bool.or_eq_true,Bool.or_eq_false_iff] at v1 v2
      simp only [talkOf,if_false,Bool.false_eq_true,Ta.fin,Ta.bit,if_true,List.mem_filter,hy,true_and]
      cases hl : l.val y with
      | true =>
        obtain ⟨e1,e2⟩:=talkOf_fin hy hz hz1 h.1 hl v2.1
        simpa using ⟨e1,fun hu=>e2 hu.1⟩
      | false =>
        have hr : r.val y = true:=v1.resolve_left (by rw [hl];simp)
        obtain ⟨e1,e2⟩:=talkOf_fin hy hz hz1 h.2 hr v2.2
        simpa using ⟨e1,fun hu=>e2 hu.2⟩
    | true =>
      simp only [Sy.val,if_true,Bool.and_eq_true,Bool.and_eq_false_iff] at v1 v2
      simp only [talkOf,if_true,Ta.fin,Ta.bit,if_false,Bool.false_eq_true,List.mem_filter,hz,true_and]
      cases hl : l.val z with
      | false =>
        obtain ⟨e1,e2⟩:=talkOf_fin hy hz hz1 h.1 v1.1 hl
        simpa using ⟨e1,fun hu=>e2 hu.1⟩
      | true =>
        have hr : r.val z = false:=v2.resolve_left (by rw [hl];simp)
        obtain ⟨e1,e2⟩:=talkOf_fin hy hz hz1 h.2 v1.2 hr
        simpa using ⟨e1,fun hu=>e2 hu.2⟩
end
section
variable {P : Program} {w : World} {K : PySem.W.Frag} {mg : Str→Option Value} {base : Heap} {t : Adr}
def sp_any (r : Nat) : ASp:=fun xs ω Q=>∃ (p : Addr) (n m : Nat),xs = [.r (.ref p),.d (.int n),.d (.int m)]∧PlAt ω p∧1≤n∧n≤5∧1≤m∧m≤r + 1∧r≤60∧∀ (x : Sy) (c : Pl),x.ok n→x.dp≤r→x.lvs = m→Q (.d x.d) (ω.put p (plO c))
theorem any_step (T : Txt K mg t) (r : Nat) (kk : Nat) (sp : ASp) (hk : 1≤kk) (G_l_any_saying : FnOk P w K mg base CX0 kk t.a_l_any_saying t.d_l_any_saying ["_law_state","_law_places","_law_many"] (lift sp))
    (hs : ∀ r',r = r' + 1→sp = sp_any r') : FnOk P w K mg base CX0 (kk + 1) t.a_l_any_saying t.d_l_any_saying ["_law_state","_law_places","_law_many"] (lift (sp_any r)):=by
  have G_l_next_of : FnOk P w K mg base CX0 1 t.a_l_next_of t.d_l_next_of ["_law_state","_law_many"] (lift sp_draw):=ok_draw T
  refine T.f_l_any_saying.okD sc_l_any_saying (fun xs ω Q h=>by obtain ⟨p,n,m,rfl,_⟩:=h;rfl) (fun cdv A outer s H E hr=>⟨_,_,(pss_cons (ps_if (pt_cmpR (op_eqD hr.u100) (pv 2) pe_int (nomark _)) (pss_one (ps_ret (pe_tup (pa_consC pe_str (pa_cons (pe_call G_l_next_of (hr.mono (by omega)) (by rfl) T.m_l_next_of T.k_l_next_of T.p_l_next_of .nil pass0 (pa_cons (pv 0) (pa_cons (pv 1) pa_nil))) (pa_cons (pe_call G_l_next_of (hr.mono (by omega)) (by rfl) T.m_l_next_of T.k_l_next_of T.p_l_next_of .nil pass0 (pa_cons (pv 0) (pa_consC pe_int pa_nil))) pa_nil)))))) pss_nil)
      (pss_cons (ps_set (i:=3) sc_l_any_saying.nd rfl (Or.inl rfl) (pe_op (op_alt op_add (op_alt op_cat3 op_cat)) pe_int (pe_op op_fdiv (pe_op (op_alt op_mul op_rep) (pe_op op_sub (pv 2) pe_int) (pe_op (op_alt op_add (op_alt op_cat3 op_cat)) pe_int (pe_call G_l_next_of (hr.mono (by omega)) (by rfl) T.m_l_next_of T.k_l_next_of T.p_l_next_of .nil pass0 (pa_cons (pv 0) (pa_consC pe_int pa_nil))))) pe_int)))
      (pss_cons (ps_set (i:=4) sc_l_any_saying.nd rfl (Or.inl rfl) (pe_call G_l_any_saying (hr.mono (by omega)) (by rfl) T.m_l_any_saying T.k_l_any_saying T.p_l_any_saying .nil pass0 (pa_cons (pv 0) (pa_cons (pv 1) (pa_cons (pv 3) pa_nil)))))
      (pss_cons (ps_set (i:=5) sc_l_any_saying.nd rfl (Or.inl rfl) (pe_call G_l_any_saying (hr.mono (by omega)) (by rfl) T.m_l_any_saying T.k_l_any_saying T.p_l_any_saying .nil pass0 (pa_cons (pv 0) (pa_cons (pv 1) (pa_cons (pe_op op_sub (pv 2) (pv 3)) pa_nil)))))
      (pss_one (ps_ret (pe_tup (pa_cons (pe_ix (ix_seqK K rfl) (pe_lst (pa_consC pe_str (pa_consC pe_str pa_nil))) (pe_call G_l_next_of (hr.mono (by omega)) (by rfl) T.m_l_next_of T.k_l_next_of T.p_l_next_of .nil pass0 (pa_cons (pv 0) (pa_consC pe_int pa_nil))) (fun _ _=>rfl)) (pa_cons (pv 4) (pa_cons (pv 5) pa_nil)))))))))),(s_seq (s_if (t_test (e_op o_eqD e_var e_int)) (s_ret (e_tup (a_cons e_str (a_cons (e_call (a_cons e_var (a_cons e_var a_nil))) (a_cons (e_call (a_cons e_var (a_cons e_int a_nil))) a_nil))))) s_next)
      (s_seq (s_asg (e_op o_add e_int (e_op o_Ii (e_op o_mul (e_op o_I0i e_var e_int) (e_op o_add e_int (e_call (a_cons e_var (a_cons e_int a_nil))))) e_int)) g_name)
      (s_seq (s_asg (e_call (a_cons e_var (a_cons e_var (a_cons e_var a_nil)))) g_name)
      (s_seq (s_asg (e_call (a_cons e_var (a_cons e_var (a_cons (e_op o_I0i e_var e_var) a_nil)))) g_name)
      (s_ret (e_tup (a_cons (e_op o_ix (e_lst (a_cons e_str (a_cons e_str a_nil))) (e_call (a_cons e_var (a_cons e_int a_nil)))) (a_cons e_var (a_cons e_var a_nil))))))))),fun xs ω Q h=>?_⟩)
  obtain ⟨p,n,m,rfl,hp,hn1,hn,hm1,hm,hr60,k⟩:=h
  walk_at "s1"
  refine ite2 (fun h=>?_) (fun h=>?_)
  · refine ⟨p,n,rfl,hp,by omega,by omega,fun x c x0 x1=>⟨p,2,rfl,plAt_put,by decide,by decide,fun y c2 y0 y1=>?_⟩⟩
    rw [Om.put_put]
    refine ⟨_,rfl,?_⟩
    rw [only_pl hp]
    exact k (.is x y) c2 ⟨x0,x1,by omega⟩ (Nat.zero_le _) (by simp only [Sy.lvs];omega)
  · obtain ⟨r',rfl⟩ : ∃ r',r = r' + 1:=⟨r - 1,by omega⟩
    cases hs r' rfl
    walk_at "s1"
    refine ⟨p,2,rfl,hp,by decide,by decide,fun u c u0 u1=>⟨_,rfl,?_⟩⟩
    obtain ⟨g,eg,g1,g2⟩ : ∃ g : Nat,1 + ((m : Int) - 1) * (2 + u) / 5 = (g : Int)∧1≤g∧g < m:=by
      have hmul : ((m : Int) - 1) * (2 + u)≤((m : Int) - 1) * 3:=Int.mul_le_mul_of_nonneg_left (by omega) (by omega)
      have hmul0 : 0≤((m : Int) - 1) * (2 + u):=Int.mul_nonneg (by omega) (by omega)
      exact ⟨(1 + ((m : Int) - 1) * (2 + u) / 5).toNat,by omega,by omega,by omega⟩
    refine ⟨cmul_l (by omega),⟨by decide,by decide⟩,?_⟩
    rw [eg]
    walk_at "s1"
    refine ⟨p,n,g,rfl,plAt_put,hn1,hn,g1,by omega,by omega,fun x c hx hxd hxl=>?_⟩
    rw [Om.put_put]
    walk_at "s1"
    refine ⟨p,n,m - g,by rw [Int.ofNat_sub (by omega)],plAt_put,hn1,hn,by omega,by omega,by omega,fun y c hy hyd hyl=>?_⟩
    rw [Om.put_put]
    walk_at "a1"
    refine ⟨p,2,rfl,plAt_put,by decide,by decide,fun v c2 v0 v1=>⟨v,rfl,?_⟩⟩
    rw [Om.put_put,only_pl hp]
    obtain ⟨a,ea⟩ : ∃ a : Bool,atI [AV.d (D.str ("and" : Str)),AV.d (D.str ("or" : Str))] v = some (.d (.str (if a then "and" else "or"))):=by
      rcases (by omega : v = 0∨v = 1) with rfl | rfl
      · exact ⟨true,rfl⟩
      · exact ⟨false,rfl⟩
    exact ⟨_,ea,_,rfl,k (.jn a x y) c2 ⟨hx,hy⟩ (by simp only [Sy.dp];omega) (by simp only [Sy.lvs];omega)⟩
theorem ok_any (T : Txt K mg t) : ∀ r,FnOk P w K mg base CX0 (r + 2) t.a_l_any_saying t.d_l_any_saying ["_law_state","_law_places","_law_many"] (lift (sp_any r))
  | 0=>any_step T 0 1 noSp (Nat.le_refl _) fn_no (fun r' h=>by omega)
  | r + 1=>any_step T (r + 1) (r + 2) _ (by omega) (ok_any T r) (fun r' h=>by cases h;rfl)
def sp_holds (r : Nat) : ASp:=fun xs ω Q=>∃ (x : Sy) (wd : List Int),xs = [.d x.d,.d (wdD wd)]∧x.ok wd.length∧x.dp≤r∧Q (.d (.bl (x.val wd))) ω
theorem holds_step (T : Txt K mg t) (r : Nat) (kk : Nat) (sp : ASp) (G_l_holds : FnOk P w K mg base CX0 kk t.a_l_holds t.d_l_holds ["_law_saying","_law_word"] (lift sp))
    (hs : ∀ r',r = r' + 1→sp = sp_holds r') : FnOk P w K mg base CX0 (kk + 1) t.a_l_holds t.d_l_holds ["_law_saying","_law_word"] (lift (sp_holds r)):=by
  refine T.f_l_holds.okD sc_l_holds (fun xs ω Q h=>by obtain ⟨x,wd,rfl,_⟩:=h;rfl) (fun cdv A outer s H E hr=>⟨_,_,(pss_cons (ps_if (pt_cmpR (op_eqD hr.u100) (pe_ix (ix_seqK K rfl) (pv 0) pe_int (fun _ _=>rfl)) pe_str (nomark _)) (pss_one (ps_ret (pe_cmpR (op_eqD hr.u100) (pe_ix (ix_seqK K rfl) (pv 1) (pe_ix (ix_seqK K rfl) (pv 0) pe_int (fun _ _=>rfl)) (fun _ _=>rfl)) (pe_ix (ix_seqK K rfl) (pv 0) pe_int (fun _ _=>rfl)) (nomark _)))) pss_nil)
      (pss_cons (ps_if (pt_cmpR (op_eqD hr.u100) (pe_ix (ix_seqK K rfl) (pv 0) pe_int (fun _ _=>rfl)) pe_str (nomark _)) (pss_one (ps_ret (pe_orG K rfl (pe_call G_l_holds (hr.mono (by omega)) (by rfl) T.m_l_holds T.k_l_holds T.p_l_holds .nil pass0 (pa_cons (pe_ix (ix_seqK K rfl) (pv 0) pe_int (fun _ _=>rfl)) (pa_cons (pv 1) pa_nil))) (pe_one (pe_call G_l_holds (hr.mono (by omega)) (by rfl) T.m_l_holds T.k_l_holds T.p_l_holds .nil pass0 (pa_cons (pe_ix (ix_seqK K rfl) (pv 0) pe_int (fun _ _=>rfl)) (pa_cons (pv 1) pa_nil))))))) pss_nil)
      (pss_one (ps_ret (pe_andG K rfl (pe_call G_l_holds (hr.mono (by omega)) (by rfl) T.m_l_holds T.k_l_holds T.p_l_holds .nil pass0 (pa_cons (pe_ix (ix_seqK K rfl) (pv 0) pe_int (fun _ _=>rfl)) (pa_cons (pv 1) pa_nil))) (pe_one (pe_call G_l_holds (hr.mono (by omega)) (by rfl) T.m_l_holds T.k_l_holds T.p_l_holds .nil pass0 (pa_cons (pe_ix (ix_seqK K rfl) (pv 0) pe_int (fun _ _=>rfl)) (pa_cons (pv 1) pa_nil))))))))),(s_seq (s_if (t_test (e_op o_eqD (e_op o_ix e_var e_int) e_str)) (s_ret (e_op o_eqD (e_op o_ix e_var (e_op o_ix e_var e_int)) (e_op o_ix e_var e_int))) s_next)
      (s_seq (s_if (t_test (e_op o_eqD (e_op o_ix e_var e_int) e_str)) (s_ret (e_orG (e_call (a_cons (e_op o_ix e_var e_int) (a_cons e_var a_nil))) (e_call (a_cons (e_op o_ix e_var e_int) (a_cons e_var a_nil))))) s_next)
      (s_ret (e_andG (e_call (a_cons (e_op o_ix e_var e_int) (a_cons e_var a_nil))) (e_call (a_cons (e_op o_ix e_var e_int) (a_cons e_var a_nil))))))),fun xs ω Q h=>?_⟩)
  obtain ⟨x,wd,rfl,hx,hd,k⟩:=h
  cases x with
  | is i e =>
    obtain ⟨i0,i1,he⟩:=hx
    simp only [Sy.d]
    walk_at "s1"
    obtain ⟨y,my,hy,ey⟩:=map_nth (f:=AV.d ∘ D.int) (xs:=wd) i0 i1
    rw [← List.map_map] at ey
    refine ⟨_,ey,_,rfl,by simp [dep],?_⟩
    have ev : wd.getD i.toNat 0 = y:=by rw [List.getD_eq_getElem?_getD,hy];rfl
    simp only [Sy.val,ev] at k
    rw [only_self,eqD_int,show (y == e) = decide (y = e) from rfl]
    exact k
  | jn a l rr =>
    obtain ⟨hl1,hl2⟩:=hx
    simp only [Sy.dp] at hd
    obtain ⟨r',rfl⟩ : ∃ r',r = r' + 1:=⟨r - 1,by omega⟩
    cases hs r' rfl
    cases a<;>simp only [Sy.d,Sy.val,if_true,if_false,Bool.false_eq_true] at k ⊢
    · walk_at "s1"
      walk_at "s1"
      refine ⟨l,wd,rfl,hl1,by omega,_,rfl,ite2 (fun h=>?_) (fun h=>?_)⟩
      · refine ⟨_,rfl,?_⟩
        rw [h,Bool.true_or] at k
        rw [only_self,h]
        exact k
      · rw [Bool.not_eq_true] at h
        rw [h,Bool.false_or] at k
        refine ⟨rr,wd,rfl,hl2,by omega,_,rfl,?_⟩
        rw [only_self]
        exact k
    · walk_at "s1"
      walk_at "s1"
      refine ⟨l,wd,rfl,hl1,by omega,_,rfl,ite2 (fun h=>?_) (fun h=>?_)⟩
      · rw [h,Bool.true_and] at k
        refine ⟨rr,wd,rfl,hl2,by omega,_,rfl,?_⟩
        rw [only_self]
        exact k
      · rw [Bool.not_eq_true] at h
        rw [h,Bool.false_and] at k
        refine ⟨_,rfl,?_⟩
        rw [only_self,h]
        exact k
theorem ok_holds (T : Txt K mg t) : ∀ r,FnOk P w K mg base CX0 (r + 1) t.a_l_holds t.d_l_holds ["_law_saying","_law_word"] (lift (sp_holds r))
  | 0=>holds_step T 0 0 noSp fn_no (fun r' h=>by omega)
  | r + 1=>holds_step T (r + 1) (r + 1) _ (ok_holds T r) (fun r' h=>by cases h;rfl)
def Ta.dL : Ta→D
  | .en i=>.tup [.str "end",.int i]
  | .nd y ws l r=>.tup [.str (if y then "yes" else "no"),.lst (ws.map wdD),Ta.dL l,Ta.dL r]
def sp_spf (r : Nat) : ASp:=fun xs ω Q=>∃ (n : Nat) (ys zs : List (List Int)) (x : Sy),xs = [.d (.lst (ys.map wdD)),.d (.lst (zs.map wdD)),.d x.d]∧n≤5∧Wds n ys∧Wds n zs∧x.ok n∧x.dp≤r∧r≤60∧Q (.d (Ta.dL (talkOf ys zs x))) ω
theorem spf_step (T : Txt K mg t) (r : Nat) (kk : Nat) (hk : 61≤kk) (sp : ASp) (G_l_spoken_for : FnOk P w K mg base CX0 kk t.a_l_spoken_for t.d_l_spoken_for ["_law_yes","_law_no","_law_saying"] (lift sp))
    (hs : ∀ r',r = r' + 1→sp = sp_spf r') : FnOk P w K mg base CX0 (kk + 1) t.a_l_spoken_for t.d_l_spoken_for ["_law_yes","_law_no","_law_saying"] (lift (sp_spf r)):=by
  have G_l_holds : FnOk P w K mg base CX0 61 t.a_l_holds t.d_l_holds ["_law_saying","_law_word"] (lift (sp_holds 60)):=ok_holds T 60
  refine T.f_l_spoken_for.okD sc_l_spoken_for (fun xs ω Q h=>by obtain ⟨n,ys,zs,x,rfl,_⟩:=h;rfl) (fun cdv A outer s H E hr=>⟨_,_,(pss_cons (ps_if (pt_cmpR (op_eqD hr.u100) (pe_ix (ix_seqK K rfl) (pv 2) pe_int (fun _ _=>rfl)) pe_str (nomark _)) (pss_one (ps_ret (pe_tup (pa_consC pe_str (pa_cons (pe_ix (ix_seqK K rfl) (pv 2) pe_int (fun _ _=>rfl)) pa_nil))))) pss_nil)
      (pss_cons (ps_set (i:=3) sc_l_spoken_for.nd rfl (Or.inl rfl) (pe_call G_l_spoken_for (hr.mono (by omega)) (by rfl) T.m_l_spoken_for T.k_l_spoken_for T.p_l_spoken_for .nil pass0 (pa_cons (pv 0) (pa_cons (pv 1) (pa_cons (pe_ix (ix_seqK K rfl) (pv 2) pe_int (fun _ _=>rfl)) pa_nil)))))
      (pss_cons (ps_set (i:=4) sc_l_spoken_for.nd rfl (Or.inl rfl) (pe_call G_l_spoken_for (hr.mono (by omega)) (by rfl) T.m_l_spoken_for T.k_l_spoken_for T.p_l_spoken_for .nil pass0 (pa_cons (pv 0) (pa_cons (pv 1) (pa_cons (pe_ix (ix_seqK K rfl) (pv 2) pe_int (fun _ _=>rfl)) pa_nil)))))
      (pss_cons (ps_if (pt_cmpR (op_eqD hr.u100) (pe_ix (ix_seqK K rfl) (pv 2) pe_int (fun _ _=>rfl)) pe_str (nomark _)) (pss_one (ps_ret (pe_tup (pa_consC pe_str (pa_cons (pe_comp (N:=(["_law_word","_law_saying"] : List Str)) (src:=[none,some 2]) rfl (by show blkOk _ (defScope s_l_spoken_for) _ _ (["_law_yes","_law_no","_law_saying","_law_one","_law_other"] : List Str) = true;decide +kernel) (by intro g' h;cases h) (pi_seq K rfl (pv 0)) (fun _ _ _ _ _ _=>(pg_name (i:=0) (show (["_law_word","_law_saying"] : List Str).Nodup by decide +kernel) rfl (Or.inl rfl))) (fun _ _ _ _ _ _=>(pts_one (pt_not (pt_truthK K rfl (pe_call G_l_holds (hr.mono (by omega)) (by rfl) T.m_l_holds T.k_l_holds T.p_l_holds .nil pass0 (pa_cons (pe_ix (ix_seqK K rfl) (pv 1) pe_int (fun _ _=>rfl)) (pa_cons (pv 0) pa_nil))) (fun _=>rfl))))) (fun _ _ _ _ _ _=>(pl_last rfl rfl (pv 0)))) (pa_cons (pv 3) (pa_cons (pv 4) pa_nil))))))) pss_nil)
      (pss_one (ps_ret (pe_tup (pa_consC pe_str (pa_cons (pe_comp (N:=(["_law_word","_law_saying"] : List Str)) (src:=[none,some 2]) rfl (by show blkOk _ (defScope s_l_spoken_for) _ _ (["_law_yes","_law_no","_law_saying","_law_one","_law_other"] : List Str) = true;decide +kernel) (by intro g' h;cases h) (pi_seq K rfl (pv 1)) (fun _ _ _ _ _ _=>(pg_name (i:=0) (show (["_law_word","_law_saying"] : List Str).Nodup by decide +kernel) rfl (Or.inl rfl))) (fun _ _ _ _ _ _=>(pts_one (pt_truthK K rfl (pe_call G_l_holds (hr.mono (by omega)) (by rfl) T.m_l_holds T.k_l_holds T.p_l_holds .nil pass0 (pa_cons (pe_ix (ix_seqK K rfl) (pv 1) pe_int (fun _ _=>rfl)) (pa_cons (pv 0) pa_nil))) (fun _=>rfl)))) (fun _ _ _ _ _ _=>(pl_last rfl rfl (pv 0)))) (pa_cons (pv 3) (pa_cons (pv 4) pa_nil))))))))))),(s_seq (s_if (t_test (e_op o_eqD (e_op o_ix e_var e_int) e_str)) (s_ret (e_tup (a_cons e_str (a_cons (e_op o_ix e_var e_int) a_nil)))) s_next)
      (s_seq (s_asg (e_call (a_cons e_var (a_cons e_var (a_cons (e_op o_ix e_var e_int) a_nil)))) g_name)
      (s_seq (s_asg (e_call (a_cons e_var (a_cons e_var (a_cons (e_op o_ix e_var e_int) a_nil)))) g_name)
      (s_seq (s_if (t_test (e_op o_eqD (e_op o_ix e_var e_int) e_str)) (s_ret (e_tup (a_cons e_str (a_cons (e_comp (i_seq e_var) g_name (t_not (t_tru (e_call (a_cons (e_op o_ix e_var e_int) (a_cons e_var a_nil))))) (l_last e_var)) (a_cons e_var (a_cons e_var a_nil)))))) s_next)
      (s_ret (e_tup (a_cons e_str (a_cons (e_comp (i_seq e_var) g_name (t_tru (e_call (a_cons (e_op o_ix e_var e_int) (a_cons e_var a_nil)))) (l_last e_var)) (a_cons e_var (a_cons e_var a_nil)))))))))),fun xs ω Q h=>?_⟩)
  obtain ⟨n,ys,zs,x,rfl,hn,hy,hz,hx,hd,hr60,k⟩:=h
  have hyl:=hy.le hn
  have hzl:=hz.le hn
  cases x with
  | is i e =>
    simp only [Sy.d]
    walk_at "s1"
    rw [only_self]
    exact k
  | jn a l rr =>
    obtain ⟨hl1,hl2⟩:=hx
    simp only [Sy.dp] at hd
    obtain ⟨r',rfl⟩ : ∃ r',r = r' + 1:=⟨r - 1,by omega⟩
    cases hs r' rfl
    cases a<;>simp only [Sy.d,talkOf,if_true,if_false,Bool.false_eq_true] at k ⊢
    · walk_at "s1"
      walk_at "s1"
      refine ⟨n,ys,zs,l,rfl,hn,hy,hz,hl1,by omega,by omega,?_⟩
      walk_at "s1"
      refine ⟨n,ys,zs,rr,rfl,hn,hy,hz,hl2,by omega,by omega,?_⟩
      walk_at "s1"
      refine comp_ft wdD (fun v=>!l.val v) wdD (Nat.le_of_lt (small1000 (by omega))) (fun v hv Q q=>?_) (fun v hv _ Q q=>?_) (fun ρ=>⟨_,und_map _,?_⟩)
      · walk_at "a1"
        exact ⟨l,v,rfl,by rw [(wl_mem (hy.2 v hv)).1];exact hl1,by omega,_,rfl,q⟩
      · walk_at "a1"
        exact q
      rw [only_self]
      exact k
    · walk_at "s1"
      walk_at "s1"
      refine ⟨n,ys,zs,l,rfl,hn,hy,hz,hl1,by omega,by omega,?_⟩
      walk_at "s1"
      refine ⟨n,ys,zs,rr,rfl,hn,hy,hz,hl2,by omega,by omega,?_⟩
      walk_at "s1"
      refine comp_ft wdD (fun v=>l.val v) wdD (Nat.le_of_lt (small1000 (by omega))) (fun v hv Q q=>?_) (fun v hv _ Q q=>?_) (fun ρ=>⟨_,und_map _,?_⟩)
      · walk_at "a1"
        exact ⟨l,v,rfl,by rw [(wl_mem (hz.2 v hv)).1];exact hl1,by omega,_,rfl,q⟩
      · walk_at "a1"
        exact q
      rw [only_self]
      exact k
theorem ok_spf (T : Txt K mg t) : ∀ r,FnOk P w K mg base CX0 (r + 62) t.a_l_spoken_for t.d_l_spoken_for ["_law_yes","_law_no","_law_saying"] (lift (sp_spf r))
  | 0=>spf_step T 0 61 (Nat.le_refl _) noSp fn_no (fun r' h=>by omega)
  | r + 1=>spf_step T (r + 1) (r + 62) (by omega) _ (ok_spf T r) (fun r' h=>by cases h;rfl)
end
section
variable {P : Program} {w : World} {K : PySem.W.Frag} {mg : Str→Option Value} {base : Heap} {t : Adr}
structure Two (n : Nat) (ys zs : List (List Int)) : Prop where
  y : Wds n ys
  z : Wds n zs
  y1 : ys≠[]
  z1 : zs≠[]
  dj : ∀ v∈ys,v ∉ zs
theorem wd_ext {n : Nat} {u v : List Int} (hu : u∈wl n) (hv : v∈wl n) (h : ∀ i < n,u.getD i 0 = v.getD i 0) : u = v:=by
  have lu:=(wl_mem hu).1
  have lv:=(wl_mem hv).1
  refine List.ext_getElem (by omega) fun i h1 h2=>?_
  have:=h i (by omega)
  simpa [List.getElem?_eq_getElem h1,List.getElem?_eq_getElem h2] using this
theorem split_sum {n : Nat} {ws S : List (List Int)} (hw : Wds n ws) (hs : S.Sublist ws) : (ws.filter fun v=>decide (v∈S) == true).length = S.length∧(ws.filter fun v=>decide (v∈S) == false).length + S.length = ws.length:=by
  have h1 : (ws.filter fun v=>decide (v∈S) == true).length = S.length:=by
    have p : (ws.filter fun v=>decide (v∈S) == true).Perm S:=by
      refine (List.perm_ext_iff_of_nodup (hw.1.sublist List.filter_sublist) (hw.1.sublist hs)).mpr fun v=>?_
      simp only [List.mem_filter,beq_true,decide_eq_true_eq]
      exact ⟨fun h=>h.2,fun h=>⟨hs.mem h,h⟩⟩
    exact p.length_eq
  refine ⟨h1,?_⟩
  have key : ∀ ws : List (List Int),(ws.filter fun v=>decide (v∈S) == false).length + (ws.filter fun v=>decide (v∈S) == true).length = ws.length:=fun ws=>by
    induction ws with
    | nil=>rfl
    | cons v ws ih =>
      simp only [List.filter_cons]
      cases decide (v∈S)<;>simp<;>simp at ih<;>omega
  have:=key ws
  omega
theorem yn_nd : [Str.ofString "yes",Str.ofString "no"].Nodup:=by decide +kernel
theorem yn_val {a b : AV} : valA ([Str.ofString "yes",Str.ofString "no"].zip [a,b]) (Str.ofString "yes") = some a∧valA ([Str.ofString "yes",Str.ofString "no"].zip [a,b]) (Str.ofString "no") = some b:=by
  refine ⟨?_,?_⟩
  · simp only [List.zip_cons_cons,List.zip_nil_left,valA,List.find?_cons,decide_true];rfl
  · simp only [List.zip_cons_cons,List.zip_nil_left,valA,List.find?_cons,show decide (("yes" : Str) = "no") = false from by decide +kernel,decide_true];rfl
def GdT (ys zs : List (List Int)) (u : Ta) : Prop:=∀ y∈ys,∀ z∈zs,y.getD (Ta.fin y z u).toNat 0≠z.getD (Ta.fin y z u).toNat 0
theorem gd_en {n i : Nat} {ys zs : List (List Int)} (hy0 : ys≠[]) (h : i∈shL n ys zs) : GdT ys zs (.en (i : Nat)):=fun y hy z hz=>by
  have h:=(List.mem_filter.mp h).2
  simp only [ptA,Bool.and_eq_true,List.all_eq_true,decide_eq_true_eq,Bool.not_eq_true',decide_eq_false_iff_not] at h
  simp only [Ta.fin,Int.toNat_natCast]
  rw [h.1 y hy]
  exact fun e=>h.2 z hz e.symm
theorem sh_two {n : Nat} {ys zs : List (List Int)} (T2 : Two n ys zs) (h1 : ys.length = 1) (h2 : zs.length = 1) : shL n ys zs≠[]:=by
  obtain ⟨y,rfl⟩:=List.length_eq_one_iff.mp h1
  obtain ⟨z,rfl⟩:=List.length_eq_one_iff.mp h2
  intro e
  have hne : y≠z:=fun q=>T2.dj y (List.mem_singleton.mpr rfl) (by rw [q];exact List.mem_singleton.mpr rfl)
  refine hne (wd_ext (T2.y.2 y (List.mem_singleton.mpr rfl)) (T2.z.2 z (List.mem_singleton.mpr rfl)) fun i hi=>?_)
  have:=List.filter_eq_nil_iff.mp e i (List.mem_range.mpr hi)
  simp only [ptA,List.all_cons,List.all_nil,List.headD_cons,decide_true,Bool.true_and,Bool.and_true,Bool.not_eq_true,Bool.not_eq_false',decide_eq_true_eq] at this
  have : z.getD i 0 = y.getD i 0:=by simpa using this
  exact this.symm
def sp_ptd (r : Nat) : ASp:=fun xs ω Q=>∃ (p : Addr) (n : Nat) (ys zs : List (List Int)),xs = [.r (.ref p),.d (.int n),.d (.lst (ys.map wdD)),.d (.lst (zs.map wdD))]∧PlAt ω p∧1≤n∧n≤5∧Two n ys zs∧ys.length + zs.length≤r + 2∧∀ (u : Ta) (c : Pl),u.ok n→u.lvs≤ys.length * zs.length→GdT ys zs u→Q (.d (Ta.dL u)) (ω.put p (plO c))
theorem ptd_step (T : Txt K mg t) (r : Nat) (kk : Nat) (sp : ASp) (hk : 2≤kk) (G_l_parted : FnOk P w K mg base CX0 kk t.a_l_parted t.d_l_parted ["_law_state","_law_places","_law_yes","_law_no"] (lift sp))
    (hs : ∀ r',r = r' + 1→sp = sp_ptd r') : FnOk P w K mg base CX0 (kk + 1) t.a_l_parted t.d_l_parted ["_law_state","_law_places","_law_yes","_law_no"] (lift (sp_ptd r)):=by
  have G_l_next_of : FnOk P w K mg base CX0 1 t.a_l_next_of t.d_l_next_of ["_law_state","_law_many"] (lift sp_draw):=ok_draw T
  have G_l_shared : FnOk P w K mg base CX0 1 t.a_l_shared t.d_l_shared ["_law_places","_law_yes","_law_no"] (lift sp_shared):=ok_shared T
  have G_l_dealt : FnOk P w K mg base CX0 2 t.a_l_dealt t.d_l_dealt ["_law_state","_law_words","_law_many"] (lift sp_dealt):=ok_dealt T
  refine T.f_l_parted.okD sc_l_parted (fun xs ω Q h=>by obtain ⟨p,n,ys,zs,rfl,_⟩:=h;rfl) (fun cdv A outer s H E hr=>⟨_,_,(pss_cons (ps_set (i:=4) sc_l_parted.nd rfl (Or.inl rfl) (pe_call G_l_shared (hr.mono (by omega)) (by rfl) T.m_l_shared T.k_l_shared T.p_l_shared .nil pass0 (pa_cons (pv 1) (pa_cons (pv 2) (pa_cons (pv 3) pa_nil)))))
      (pss_cons (ps_if (PW.pt (pw_and (pt_cmpR (op_neD hr.u100) (pv 4) (pe_lst pa_nil) (nomark _)) (pw_and1 (PW.pt (pw_or (pt_cmpR (op_eqD hr.u100) (pe_op (op_alt op_add (op_alt op_cat3 op_cat)) (pe_callB (call_lenK K rfl) (by rfl) T.b_len (by kernel_rfl) (pa_cons (pv 2) pa_nil)) (pe_callB (call_lenK K rfl) (by rfl) T.b_len (by kernel_rfl) (pa_cons (pv 3) pa_nil))) pe_int (nomark _)) (pw_or1 (pt_cmpR op_gt (pe_call G_l_next_of (hr.mono (by omega)) (by rfl) T.m_l_next_of T.k_l_next_of T.p_l_next_of .nil pass0 (pa_cons (pv 0) (pa_consC pe_int pa_nil))) pe_int (nomark _)))))))) (pss_one (ps_ret (pe_tup (pa_consC pe_str (pa_cons (pe_ix (ix_seqK K rfl) (pv 4) (pe_call G_l_next_of (hr.mono (by omega)) (by rfl) T.m_l_next_of T.k_l_next_of T.p_l_next_of .nil pass0 (pa_cons (pv 0) (pa_cons (pe_callB (call_lenK K rfl) (by rfl) T.b_len (by kernel_rfl) (pa_cons (pv 4) pa_nil)) pa_nil))) (fun _ _=>rfl)) pa_nil))))) pss_nil)
      (pss_cons (ps_set (i:=5) sc_l_parted.nd rfl (Or.inl rfl) (pe_ix (ix_seqK K rfl) (pe_lst (pa_consC pe_str (pa_consC pe_str pa_nil))) (pe_call G_l_next_of (hr.mono (by omega)) (by rfl) T.m_l_next_of T.k_l_next_of T.p_l_next_of .nil pass0 (pa_cons (pv 0) (pa_consC pe_int pa_nil))) (fun _ _=>rfl)))
      (pss_cons (ps_if (pt_cmpR (op_eqD hr.u100) (pe_callB (call_lenK K rfl) (by rfl) T.b_len (by kernel_rfl) (pa_cons (pv 2) pa_nil)) pe_int (nomark _)) (pss_one (ps_set (i:=5) sc_l_parted.nd rfl (Or.inl rfl) pe_str)) pss_nil)
      (pss_cons (ps_if (pt_cmpR (op_eqD hr.u100) (pe_callB (call_lenK K rfl) (by rfl) T.b_len (by kernel_rfl) (pa_cons (pv 3) pa_nil)) pe_int (nomark _)) (pss_one (ps_set (i:=5) sc_l_parted.nd rfl (Or.inl rfl) pe_str)) pss_nil)
      (pss_cons (ps_set (i:=6) sc_l_parted.nd rfl (Or.inl rfl) (pe_dget (hu_of hr) (pe_disp (pps_cons pe_str (pv 2) (pps_cons pe_str (pv 3) pps_nil)) rfl rfl (by simp) (by decide)) (pv 5) (fun _ _=>rfl)))
      (pss_cons (ps_set (i:=7) sc_l_parted.nd rfl (Or.inr rfl) (pe_call G_l_dealt (hr.mono (by omega)) (by rfl) T.m_l_dealt T.k_l_dealt T.p_l_dealt .nil pass0 (pa_cons (pv 0) (pa_cons (pv 6) (pa_cons (pe_op (op_alt op_add (op_alt op_cat3 op_cat)) pe_int (pe_call G_l_next_of (hr.mono (by omega)) (by rfl) T.m_l_next_of T.k_l_next_of T.p_l_next_of .nil pass0 (pa_cons (pv 0) (pa_cons (pe_op op_sub (pe_callB (call_lenK K rfl) (by rfl) T.b_len (by kernel_rfl) (pa_cons (pv 6) pa_nil)) pe_int) pa_nil)))) pa_nil)))))
      (pss_cons (ps_setC (i:=8) sc_l_parted.nd rfl (Or.inl rfl) (N:=(["_law_word","_law_says"] : List Str)) (src:=[none,some 7]) rfl (by show blkOk _ (defScope s_l_parted) _ _ (["_law_state","_law_places","_law_yes","_law_no","_law_shared_here","_law_hand","_law_words","_law_says","_law_rest"] : List Str) = true;decide +kernel) (by intro g' h;cases h) (pi_seq K rfl (pv 6)) (fun _ _ _ _ _ _=>(pg_name (i:=0) (show (["_law_word","_law_says"] : List Str).Nodup by decide +kernel) rfl (Or.inl rfl))) (fun _ _ _ _ _ _=>(pts_one (pt_cmpR (op_notInD hr.u100) (pv 0) (pv 1) (by with_unfolding_all rfl)))) (fun _ _ _ _ _ _=>(pl_last rfl rfl (pv 0))))
      (pss_cons (ps_if (pt_cmpR (op_eqD hr.u100) (pv 5) pe_str (nomark _)) (pss_one (ps_ret (pe_tup (pa_cons (pv 5) (pa_cons (pv 7) (pa_cons (pe_call G_l_parted (hr.mono (by omega)) (by rfl) T.m_l_parted T.k_l_parted T.p_l_parted .nil pass0 (pa_cons (pv 0) (pa_cons (pv 1) (pa_cons (pv 8) (pa_cons (pv 3) pa_nil))))) (pa_cons (pe_call G_l_parted (hr.mono (by omega)) (by rfl) T.m_l_parted T.k_l_parted T.p_l_parted .nil pass0 (pa_cons (pv 0) (pa_cons (pv 1) (pa_cons (pv 7) (pa_cons (pv 3) pa_nil))))) pa_nil))))))) pss_nil)
      (pss_one (ps_ret (pe_tup (pa_cons (pv 5) (pa_cons (pv 7) (pa_cons (pe_call G_l_parted (hr.mono (by omega)) (by rfl) T.m_l_parted T.k_l_parted T.p_l_parted .nil pass0 (pa_cons (pv 0) (pa_cons (pv 1) (pa_cons (pv 2) (pa_cons (pv 8) pa_nil))))) (pa_cons (pe_call G_l_parted (hr.mono (by omega)) (by rfl) T.m_l_parted T.k_l_parted T.p_l_parted .nil pass0 (pa_cons (pv 0) (pa_cons (pv 1) (pa_cons (pv 2) (pa_cons (pv 7) pa_nil))))) pa_nil)))))))))))))))),(s_seq (s_asg (e_call (a_cons e_var (a_cons e_var (a_cons e_var a_nil)))) g_name)
      (s_seq (s_if (t_and (t_test (e_op o_eqD e_var (e_lst a_nil))) (t_or (t_test (e_op o_eqD (e_op o_add (e_cb c_len (a_cons e_var a_nil)) (e_cb c_len (a_cons e_var a_nil))) e_int)) (t_test (e_op o_I0b (e_call (a_cons e_var (a_cons e_int a_nil))) e_int)))) (s_ret (e_tup (a_cons e_str (a_cons (e_op o_ix e_var (e_call (a_cons e_var (a_cons (e_cb c_len (a_cons e_var a_nil)) a_nil)))) a_nil)))) s_next)
      (s_seq (s_asg (e_op o_ix (e_lst (a_cons e_str (a_cons e_str a_nil))) (e_call (a_cons e_var (a_cons e_int a_nil)))) g_name)
      (s_seq (s_if (t_test (e_op o_eqD (e_cb c_len (a_cons e_var a_nil)) e_int)) (s_asg e_str g_name) s_next)
      (s_seq (s_if (t_test (e_op o_eqD (e_cb c_len (a_cons e_var a_nil)) e_int)) (s_asg e_str g_name) s_next)
      (s_seq (s_asg (e_dget (e_disp (RefPs.cons e_var (RefPs.cons e_var RefPs.nil))) e_var) g_name)
      (s_seq (s_asg (e_call (a_cons e_var (a_cons e_var (a_cons (e_op o_add e_int (e_call (a_cons e_var (a_cons (e_op o_I0i (e_cb c_len (a_cons e_var a_nil)) e_int) a_nil)))) a_nil)))) g_name)
      (s_seq (s_asg (e_comp (i_seq e_var) g_name (t_test (e_op o_in e_var e_var)) (l_last e_var)) g_name)
      (s_seq (s_if (t_test (e_op o_eqD e_var e_str)) (s_ret (e_tup (a_cons e_var (a_cons e_var (a_cons (e_call (a_cons e_var (a_cons e_var (a_cons e_var (a_cons e_var a_nil))))) (a_cons (e_call (a_cons e_var (a_cons e_var (a_cons e_var (a_cons e_var a_nil))))) a_nil)))))) s_next)
      (s_ret (e_tup (a_cons e_var (a_cons e_var (a_cons (e_call (a_cons e_var (a_cons e_var (a_cons e_var (a_cons e_var a_nil))))) (a_cons (e_call (a_cons e_var (a_cons e_var (a_cons e_var (a_cons e_var a_nil))))) a_nil))))))))))))))),fun xs ω Q h=>?_⟩)
  obtain ⟨p,n,ys,zs,rfl,hp,hn1,hn,T2,hsum,k⟩:=h
  have hyl:=T2.y.le hn
  have hzl:=T2.z.le hn
  have hy1:=List.length_pos_iff.mpr T2.y1
  have hz1:=List.length_pos_iff.mpr T2.z1
  walk_at "s1"
  refine ⟨n,ys,zs,rfl,hn,T2.y,T2.z,T2.y1,?_⟩
  refine seq_cut (fun ρ' ω'=>∃ c v4,ω' = ω.put p (plO c)∧3≤ys.length + zs.length∧ρ' = [some (.r (.ref p)),some (.d (.int n)),some (.d (.lst (ys.map wdD))),some (.d (.lst (zs.map wdD))),v4,none,none,none,none]) (fun M kM=>?_) ?_
  · have hsl : (shL n ys zs).length≤n:=by
      have:=List.length_filter_le (fun i=>ptA i ys zs) (List.range n)
      rw [List.length_range] at this
      exact this
    have hsm : ∀ i∈shL n ys zs,i < n:=fun i hi=>List.mem_range.mp (List.mem_filter.mp hi).1
    obtain ⟨c0,hp0⟩:=id hp
    have e0 : ω.put p (plO c0) = ω:=by funext b;by_cases hb : b = p<;>simp [Om.put,hb,hp0]
    have fin : ∀ (ω1 : Om),PlAt ω1 p→(∀ c,ω1.put p (plO c) = ω.put p (plO c))→shL n ys zs≠[]→sp_draw [AV.r (V.ref p),AV.d (D.int (shL n ys zs).length)] ω1 fun y ω2=>∃ x,y = AV.d (D.int x)∧∃ x_1,atI (List.map AV.d ((shL n ys zs).map fun (i : Nat)=>D.int (i : Int))) x = some x_1∧∃ ds,Option.map (fun x=>D.str (Str.ofString "end") :: x) (und [x_1]) = some ds∧Q (AV.d (D.tup ds)) (ω2.only ω):=fun ω1 hp1 ep hne=>by
      have hsp:=List.length_pos_iff.mpr hne
      refine ⟨p,_,rfl,hp1,by omega,by omega,fun j c j0 j1=>⟨j,rfl,?_⟩⟩
      obtain ⟨j,rfl⟩:=Int.eq_ofNat_of_zero_le j0
      have hj : j < (shL n ys zs).length:=by omega
      have hm:=List.getElem_mem hj
      refine ⟨.d (.int ((shL n ys zs)[j] : Nat)),atI_of j rfl (by rw [List.getElem?_map,List.getElem?_map,List.getElem?_eq_getElem hj];rfl),_,rfl,?_⟩
      rw [ep,only_pl hp]
      have hmi:=hsm _ hm
      exact k (.en ((shL n ys zs)[j] : Nat)) c ⟨by omega,by omega⟩ (by simp only [Ta.lvs];exact Nat.mul_pos hy1 hz1) (gd_en T2.y1 hm)
    walk_at "a1"
    have ed : dep (D.lst ((shL n ys zs).map fun (i : Nat)=>D.int (i : Int)))≤100:=by
      simp only [dep]
      have : deps ((shL n ys zs).map fun (i : Nat)=>D.int (i : Int))≤0:=deps_le (fun d hd=>by obtain ⟨i,_,rfl⟩:=List.mem_map.mp hd;simp [dep])
      omega
    have en : eqD (D.lst ((shL n ys zs).map fun (i : Nat)=>D.int (i : Int))) (D.lst []) = (shL n ys zs).isEmpty:=by cases shL n ys zs<;>rfl
    have h3 : shL n ys zs = []→3≤ys.length + zs.length:=fun e=>by
      by_cases q : ys.length + zs.length = 2
      · exact absurd e (sh_two T2 (by omega) (by omega))
      · omega
    refine ⟨ed,?_⟩
    rw [en]
    refine ite2 (fun h1=>?_) (fun h1=>kM _ _ ⟨c0,_,e0.symm,h3 (by simpa using h1),rfl⟩)
    have hne : shL n ys zs≠[]:=by simpa using h1
    refine ite2 (fun h2=>fin ω hp (fun _=>rfl) hne) (fun h2=>?_)
    refine ⟨p,3,rfl,hp,by decide,by decide,fun j c j0 j1=>⟨j,rfl,ite2 (fun h4=>fin _ plAt_put (fun c=>by rw [Om.put_put]) hne) (fun h4=>kM _ _ ⟨c,_,rfl,by omega,rfl⟩)⟩⟩
  rintro ρ ω' ⟨c,v4,rfl,h3,rfl⟩
  walk_at "s1"
  refine ⟨p,2,rfl,plAt_put,by decide,by decide,fun x c2 x0 x1=>⟨_,rfl,?_⟩⟩
  rw [Om.put_put]
  obtain ⟨g,eg⟩ : ∃ g : Bool,atI [AV.d (D.str (Str.ofString "yes")),AV.d (D.str (Str.ofString "no"))] x = some (.d (.str (if g then "yes" else "no"))):=by
    rcases (by omega : x = 0∨x = 1) with rfl | rfl
    · exact ⟨true,rfl⟩
    · exact ⟨false,rfl⟩
  refine ⟨_,eg,?_⟩
  refine seq_cut (fun ρ' ω'=>∃ h : Bool,(ys.length = 1→h = false)∧ω' = ω.put p (plO c2)∧ρ' = [some (.r (.ref p)),some (.d (.int n)),some (.d (.lst (ys.map wdD))),some (.d (.lst (zs.map wdD))),v4,some (.d (.str (if h then "yes" else "no"))),none,none,none]) (fun M kM=>?_) ?_
  · walk_at "a1"
    exact ite2 (fun h1=>kM _ _ ⟨false,fun _=>rfl,rfl,rfl⟩) (fun h1=>kM _ _ ⟨g,fun e=>absurd (by omega) h1,rfl,rfl⟩)
  rintro ρ ω' ⟨h0,hh0,rfl,rfl⟩
  refine seq_cut (fun ρ' ω'=>∃ h : Bool,2≤(if h then ys else zs).length∧ω' = ω.put p (plO c2)∧ρ' = [some (.r (.ref p)),some (.d (.int n)),some (.d (.lst (ys.map wdD))),some (.d (.lst (zs.map wdD))),v4,some (.d (.str (if h then "yes" else "no"))),none,none,none]) (fun M kM=>?_) ?_
  · walk_at "a1"
    refine ite2 (fun h1=>kM _ _ ⟨true,by simp;omega,rfl,rfl⟩) (fun h1=>kM _ _ ⟨h0,?_,rfl,rfl⟩)
    cases h0
    · simp;omega
    · have : ys.length≠1:=fun e=>by have:=hh0 e;cases this
      simp;omega
  rintro ρ ω' ⟨h,hh2,rfl,rfl⟩
  have hWt : Wds n (if h then ys else zs):=by cases h;exact T2.z;exact T2.y
  have hWl:=hWt.le hn
  walk_at "s1"
  refine ⟨yn_nd,fun pd hpd=>⟨_,rfl,.d (.lst ((if h then ys else zs).map wdD)),by cases h;exact yn_val.2;exact yn_val.1,?_⟩⟩
  obtain ⟨npd,hpd⟩:=put_free hpd
  generalize OC.dic ([Str.ofString "yes",Str.ofString "no"].zip [AV.d (D.lst (ys.map wdD)),AV.d (D.lst (zs.map wdD))]) = A
  show aSeq _ _ _ _ (om2 ω p pd (plO c2) A)
  walk_at "s1"
  refine ⟨p,_,rfl,⟨c2,om2_p npd.symm⟩,by omega,by omega,fun j c3 j0 j1=>⟨_,rfl,?_⟩⟩
  rw [om2_pp npd.symm]
  obtain ⟨g2,eg2⟩ : ∃ g : Nat,1 + j = (g : Int):=⟨(1 + j).toNat,by omega⟩
  rw [eg2]
  refine ⟨p,(if h then ys else zs),g2,rfl,⟨c3,om2_p npd.symm⟩,hWl,fun S c4 hS hSl=>?_⟩
  rw [om2_pp npd.symm]
  have hSl2 : S.length = g2:=by omega
  have hSlt : S.length < (if h then ys else zs).length:=by omega
  have hS1 : 1≤S.length:=by omega
  have hne : S≠[]:=fun e=>by rw [e] at hS1;simp at hS1
  obtain ⟨s1,s2⟩:=split_sum hWt hS
  walk_at "s1"
  refine comp_ft wdD (fun v=>decide (v∈S) == false) wdD (Nat.le_of_lt (small1000 (by omega))) (fun v hv Q q=>?_) (fun v hv _ Q q=>?_) (fun ρ=>⟨_,und_map _,?_⟩)
  · walk_at "a1"
    refine ⟨by have:=deps_wds S;omega,?_⟩
    rw [inD_wd,show (!decide (v∈S)) = (decide (v∈S) == false) from by cases decide (v∈S)<;>rfl]
    exact q
  · walk_at "a1"
    exact q
  have hlen : (if h then ys else zs).length + 1≤ys.length + zs.length:=by cases h<;>simp<;>omega
  obtain ⟨r',rfl⟩ : ∃ r',r = r' + 1:=⟨r - 1,by omega⟩
  cases hs r' rfl
  have hRw : ((if h then ys else zs).filter fun v=>decide (v∈S) == false).Sublist (if h then ys else zs):=List.filter_sublist
  have hRm : ∀ v∈(if h then ys else zs),v ∉ S→v∈(if h then ys else zs).filter fun v=>decide (v∈S) == false:=fun v hv hn=>List.mem_filter.mpr ⟨hv,by simp [hn]⟩
  generalize ((if h then ys else zs).filter fun v=>decide (v∈S) == false) = R at *
  have hR1 : R≠[]:=fun e=>by rw [e] at s2;simp at s2;omega
  have sub : ∀ L : List (List Int),L.Sublist (if h then ys else zs)→Wds n L:=fun L hL=>⟨hWt.1.sublist hL,fun v hv=>hWt.2 v (hL.mem hv)⟩
  have fin : ∀ (c' : Pl),(om2 ω p pd (plO c') A).only ω = ω.put p (plO c'):=fun c'=>om2_plo hp hpd
  cases h
  · simp only [Bool.false_eq_true,if_false] at *
    walk_at "s1"
    refine ⟨p,n,ys,R,rfl,⟨c4,om2_p npd.symm⟩,hn1,hn,⟨T2.y,sub R hRw,T2.y1,hR1,fun v hv hv2=>T2.dj v hv (hRw.mem hv2)⟩,by omega,fun u c5 uo ul gu=>?_⟩
    rw [om2_pp npd.symm]
    refine ⟨p,n,ys,S,rfl,⟨c5,om2_p npd.symm⟩,hn1,hn,⟨T2.y,sub S hS,T2.y1,hne,fun v hv hv2=>T2.dj v hv (hS.mem hv2)⟩,by omega,fun v c6 vo vl gv=>⟨_,rfl,?_⟩⟩
    rw [om2_pp npd.symm,fin]
    refine k (.nd false S u v) c6 ⟨sub S hS,uo,vo⟩ ?_ ?_
    · simp only [Ta.lvs]
      rw [show zs.length = R.length + S.length from by omega,Nat.mul_add]
      omega
    · intro y hy z hz
      simp only [Ta.fin,Ta.bit,Bool.false_eq_true,if_false]
      by_cases hm : z∈S
      · rw [decide_eq_true hm,if_pos rfl];exact gv y hy z hm
      · rw [decide_eq_false hm,if_neg (by decide)];exact gu y hy z (hRm z hz hm)
  · simp only [if_true] at *
    walk_at "s1"
    refine ⟨p,n,R,zs,rfl,⟨c4,om2_p npd.symm⟩,hn1,hn,⟨sub R hRw,T2.z,hR1,T2.z1,fun v hv=>T2.dj v (hRw.mem hv)⟩,by omega,fun u c5 uo ul gu=>?_⟩
    rw [om2_pp npd.symm]
    refine ⟨p,n,S,zs,rfl,⟨c5,om2_p npd.symm⟩,hn1,hn,⟨sub S hS,T2.z,hne,T2.z1,fun v hv=>T2.dj v (hS.mem hv)⟩,by omega,fun v c6 vo vl gv=>⟨_,rfl,?_⟩⟩
    rw [om2_pp npd.symm,fin]
    refine k (.nd true S u v) c6 ⟨sub S hS,uo,vo⟩ ?_ ?_
    · simp only [Ta.lvs]
      rw [show ys.length = R.length + S.length from by omega,Nat.add_mul]
      omega
    · intro y hy z hz
      simp only [Ta.fin,Ta.bit,if_true]
      by_cases hm : y∈S
      · rw [decide_eq_true hm,if_pos rfl];exact gv y hm z hz
      · rw [decide_eq_false hm,if_neg (by decide)];exact gu y (hRm y hy hm) z hz
theorem ok_ptd (T : Txt K mg t) : ∀ r,FnOk P w K mg base CX0 (r + 3) t.a_l_parted t.d_l_parted ["_law_state","_law_places","_law_yes","_law_no"] (lift (sp_ptd r))
  | 0=>ptd_step T 0 2 noSp (Nat.le_refl _) fn_no (fun r' h=>by omega)
  | r + 1=>ptd_step T (r + 1) (r + 3) _ (by omega) (ok_ptd T r) (fun r' h=>by cases h;rfl)
end
section
variable {P : Program} {w : World} {K : PySem.W.Frag} {mg : Str→Option Value} {base : Heap} {t : Adr}
def caL (n : Nat) (ys zs : List (List Int)) : D:=.tup [.int n,.lst (ys.map wdD),.lst (zs.map wdD)]
def SmF (ys zs : List (List Int)) (u v : Ta) : Prop:=∀ y∈ys,∀ z∈zs,Ta.fin y z v = Ta.fin y z u
def sp_wrap (r : Nat) : ASp:=fun xs ω Q=>∃ (p : Addr) (n : Nat) (ys zs : List (List Int)) (u : Ta),xs = [.r (.ref p),.d (caL n ys zs),.d (Ta.dL u)]∧PlAt ω p∧1≤n∧n≤5∧Two n ys zs∧u.ok n∧u.dp≤r∧∀ (v : Ta) (c : Pl),v.ok n→v.size≤u.size + 4→SmF ys zs u v→Q (.d (Ta.dL v)) (ω.put p (plO c))
theorem wrap_step (T : Txt K mg t) (r : Nat) (kk : Nat) (sp : ASp) (hk : 2≤kk) (G_l_wrapped : FnOk P w K mg base CX0 kk t.a_l_wrapped t.d_l_wrapped ["_law_state","_law_case","_law_talk"] (lift sp))
    (hs : ∀ r',r = r' + 1→sp = sp_wrap r') : FnOk P w K mg base CX0 (kk + 1) t.a_l_wrapped t.d_l_wrapped ["_law_state","_law_case","_law_talk"] (lift (sp_wrap r)):=by
  have G_l_next_of : FnOk P w K mg base CX0 1 t.a_l_next_of t.d_l_next_of ["_law_state","_law_many"] (lift sp_draw):=ok_draw T
  have G_l_all : FnOk P w K mg base CX0 1 t.a_l_all t.d_l_all ["_law_places"] (lift sp_all):=ok_all T
  have G_l_dealt : FnOk P w K mg base CX0 2 t.a_l_dealt t.d_l_dealt ["_law_state","_law_words","_law_many"] (lift sp_dealt):=ok_dealt T
  refine T.f_l_wrapped.okD sc_l_wrapped (fun xs ω Q h=>by obtain ⟨p,n,ys,zs,u,rfl,_⟩:=h;rfl) (fun cdv A outer s H E hr=>⟨_,_,(pss_cons (ps_if (PW.pt (pw_and (pt_cmpR (op_neD hr.u100) (pe_ix (ix_seqK K rfl) (pv 2) pe_int (fun _ _=>rfl)) pe_str (nomark _)) (pw_and1 (pt_cmpR op_gt (pe_call G_l_next_of (hr.mono (by omega)) (by rfl) T.m_l_next_of T.k_l_next_of T.p_l_next_of .nil pass0 (pa_cons (pv 0) (pa_consC pe_int pa_nil))) pe_int (nomark _))))) (pss_cons (ps_set (i:=3) sc_l_wrapped.nd rfl (Or.inl rfl) (pe_op (op_alt op_add (op_alt op_cat3 op_cat)) pe_int (pe_call G_l_next_of (hr.mono (by omega)) (by rfl) T.m_l_next_of T.k_l_next_of T.p_l_next_of .nil pass0 (pa_cons (pv 0) (pa_consC pe_int pa_nil)))))
      (pss_one (ps_ret (pe_op (op_alt op_add (op_alt op_cat3 op_cat)) (pe_op (op_alt op_add (op_alt op_cat3 op_cat)) (pe_slice (sl_any K rfl) (pv 2) po_none (po_some (pv 3))) (pe_tup (pa_cons (pe_call G_l_wrapped (hr.mono (by omega)) (by rfl) T.m_l_wrapped T.k_l_wrapped T.p_l_wrapped .nil pass0 (pa_cons (pv 0) (pa_cons (pv 1) (pa_cons (pe_ix (ix_seqK K rfl) (pv 2) (pv 3) (fun _ _=>rfl)) pa_nil)))) pa_nil))) (pe_slice (sl_any K rfl) (pv 2) (po_some (pe_op (op_alt op_add (op_alt op_cat3 op_cat)) (pv 3) pe_int)) po_none))))) pss_nil)
      (pss_cons (ps_asg (pv 1) (pg_tupK K rfl (n:=3) rfl (pgs_cons (pg_name (i:=4) sc_l_wrapped.nd rfl (Or.inl rfl)) (pgs_cons (pg_name (i:=5) sc_l_wrapped.nd rfl (Or.inl rfl)) (pgs_cons (pg_name (i:=6) sc_l_wrapped.nd rfl (Or.inl rfl)) pgs_nil)))))
      (pss_cons (ps_set (i:=7) sc_l_wrapped.nd rfl (Or.inl rfl) (pe_ix (ix_seqK K rfl) (pe_lst (pa_consC pe_str (pa_consC pe_str pa_nil))) (pe_call G_l_next_of (hr.mono (by omega)) (by rfl) T.m_l_next_of T.k_l_next_of T.p_l_next_of .nil pass0 (pa_cons (pv 0) (pa_consC pe_int pa_nil))) (fun _ _=>rfl)))
      (pss_cons (ps_set (i:=8) sc_l_wrapped.nd rfl (Or.inl rfl) (pe_tup (pa_consC pe_str (pa_cons (pe_call G_l_next_of (hr.mono (by omega)) (by rfl) T.m_l_next_of T.k_l_next_of T.p_l_next_of .nil pass0 (pa_cons (pv 0) (pa_cons (pv 4) pa_nil))) pa_nil))))
      (pss_cons (ps_if (pt_cmpR (op_eqD hr.u100) (pe_call G_l_next_of (hr.mono (by omega)) (by rfl) T.m_l_next_of T.k_l_next_of T.p_l_next_of .nil pass0 (pa_cons (pv 0) (pa_consC pe_int pa_nil))) pe_int (nomark _)) (pss_one (ps_set (i:=8) sc_l_wrapped.nd rfl (Or.inl rfl) (pe_tup (pa_consC pe_str (pa_cons (pe_call G_l_dealt (hr.mono (by omega)) (by rfl) T.m_l_dealt T.k_l_dealt T.p_l_dealt .nil pass0 (pa_cons (pv 0) (pa_cons (pe_call G_l_all (hr.mono (by omega)) (by rfl) T.m_l_all T.k_l_all T.p_l_all .nil pass0 (pa_cons (pv 4) pa_nil)) (pa_consC pe_int pa_nil)))) (pa_cons (pv 8) (pa_consT (pe_tup (pa_consC pe_str (pa_consC pe_int pa_nil))) pa_nil))))))) pss_nil)
      (pss_cons (ps_set (i:=9) sc_l_wrapped.nd rfl (Or.inl rfl) (pe_call G_l_next_of (hr.mono (by omega)) (by rfl) T.m_l_next_of T.k_l_next_of T.p_l_next_of .nil pass0 (pa_cons (pv 0) (pa_consC pe_int pa_nil))))
      (pss_cons (ps_if (pt_cmpR (op_eqD hr.u100) (pv 9) pe_int (nomark _)) (pss_one (ps_ret (pe_tup (pa_cons (pv 7) (pa_cons (pe_call G_l_all (hr.mono (by omega)) (by rfl) T.m_l_all T.k_l_all T.p_l_all .nil pass0 (pa_cons (pv 4) pa_nil)) (pa_cons (pv 8) (pa_cons (pv 2) pa_nil))))))) pss_nil)
      (pss_cons (ps_if (pt_cmpR (op_eqD hr.u100) (pv 9) pe_int (nomark _)) (pss_one (ps_ret (pe_tup (pa_cons (pv 7) (pa_cons (pe_dget (hu_of hr) (pe_disp (pps_cons pe_str (pv 5) (pps_cons pe_str (pv 6) pps_nil)) rfl rfl (by simp) (by decide)) (pv 7) (fun _ _=>rfl)) (pa_cons (pv 8) (pa_cons (pv 2) pa_nil))))))) pss_nil)
      (pss_one (ps_ret (pe_tup (pa_cons (pv 7) (pa_cons (pe_ix (ix_seqK K rfl) (pe_lst (pa_consL (pe_lst pa_nil) (pa_cons (pe_dget (hu_of hr) (pe_disp (pps_cons pe_str (pv 6) (pps_cons pe_str (pv 5) pps_nil)) rfl rfl (by simp) (by decide)) (pv 7) (fun _ _=>rfl)) pa_nil))) (pe_op op_sub (pv 9) pe_int) (fun _ _=>rfl)) (pa_cons (pv 2) (pa_cons (pv 8) pa_nil))))))))))))))),(s_seq (s_if (t_and (t_test (e_op o_eqD (e_op o_ix e_var e_int) e_str)) (t_test (e_op o_I0b (e_call (a_cons e_var (a_cons e_int a_nil))) e_int))) (s_seq (s_asg (e_op o_add e_int (e_call (a_cons e_var (a_cons e_int a_nil)))) g_name)
      (s_ret (e_op o_add (e_op o_add (e_sl e_var n_none (n_some e_var)) (e_tup (a_cons (e_call (a_cons e_var (a_cons e_var (a_cons (e_op o_ix e_var e_var) a_nil)))) a_nil))) (e_sl e_var (n_some (e_op o_add e_var e_int)) n_none)))) s_next)
      (s_seq (s_asg e_var (g_tup (g_cons g_name (g_cons g_name (g_cons g_name g_nil)))))
      (s_seq (s_asg (e_op o_ix (e_lst (a_cons e_str (a_cons e_str a_nil))) (e_call (a_cons e_var (a_cons e_int a_nil)))) g_name)
      (s_seq (s_asg (e_tup (a_cons e_str (a_cons (e_call (a_cons e_var (a_cons e_var a_nil))) a_nil))) g_name)
      (s_seq (s_if (t_test (e_op o_eqD (e_call (a_cons e_var (a_cons e_int a_nil))) e_int)) (s_asg (e_tup (a_cons e_str (a_cons (e_call (a_cons e_var (a_cons (e_call (a_cons e_var a_nil)) (a_cons e_int a_nil)))) (a_cons e_var (a_cons (e_tup (a_cons e_str (a_cons e_int a_nil))) a_nil))))) g_name) s_next)
      (s_seq (s_asg (e_call (a_cons e_var (a_cons e_int a_nil))) g_name)
      (s_seq (s_if (t_test (e_op o_eqD e_var e_int)) (s_ret (e_tup (a_cons e_var (a_cons (e_call (a_cons e_var a_nil)) (a_cons e_var (a_cons e_var a_nil)))))) s_next)
      (s_seq (s_if (t_test (e_op o_eqD e_var e_int)) (s_ret (e_tup (a_cons e_var (a_cons (e_dget (e_disp (RefPs.cons e_var (RefPs.cons e_var RefPs.nil))) e_var) (a_cons e_var (a_cons e_var a_nil)))))) s_next)
      (s_ret (e_tup (a_cons e_var (a_cons (e_op o_ix (e_lst (a_cons (e_lst a_nil) (a_cons (e_dget (e_disp (RefPs.cons e_var (RefPs.cons e_var RefPs.nil))) e_var) a_nil))) (e_op o_I0i e_var e_int)) (a_cons e_var (a_cons e_var a_nil)))))))))))))),fun xs ω Q h=>?_⟩)
  obtain ⟨p,n,ys,zs,u,rfl,hp,hn1,hn,T2,hu,hd,k⟩:=h
  have hyl:=T2.y.le hn
  have hzl:=T2.z.le hn
  have hwl:=wl_le hn
  obtain ⟨c0,hp0⟩:=id hp
  have e0 : ω.put p (plO c0) = ω:=by funext b;by_cases hb : b = p<;>simp [Om.put,hb,hp0]
  refine seq_cut (fun ρ' ω'=>∃ c,ω' = ω.put p (plO c)∧∃ v3,ρ' = [some (.r (.ref p)),some (.d (caL n ys zs)),some (.d (Ta.dL u)),v3,none,none,none,none,none,none]) (fun M kM=>?_) ?_
  · cases u with
    | en i =>
      simp only [Ta.dL] at kM ⊢
      walk_at "a1"
      rw [if_neg (by decide +kernel)]
      exact kM _ _ ⟨c0,e0.symm,_,rfl⟩
    | nd h ws l rr =>
      have hE2 : (!(if h then ("yes" : Str) else ("no" : Str)) == "end") = true:=by cases h<;>decide +kernel
      obtain ⟨hws,hl,hr⟩:=hu
      simp only [Ta.dp] at hd
      obtain ⟨r',rfl⟩ : ∃ r',r = r' + 1:=⟨r - 1,by omega⟩
      cases hs r' rfl
      simp only [Ta.dL] at kM ⊢
      walk_at "a1"
      rw [if_pos hE2]
      refine ⟨p,3,rfl,hp,by decide,by decide,fun j c j0 j1=>⟨j,rfl,ite2 (fun h1=>?_) (fun h1=>kM _ _ ⟨c,rfl,_,rfl⟩)⟩⟩
      walk_at "s1"
      refine ⟨p,2,rfl,plAt_put,by decide,by decide,fun v c2 v0 v1=>⟨v,rfl,?_⟩⟩
      rw [Om.put_put]
      rcases (by omega : v = 0∨v = 1) with rfl | rfl
      · refine ⟨_,rfl,p,n,ys,zs,l,rfl,plAt_put,hn1,hn,T2,hl,by omega,fun v c3 vo vs vf=>⟨[Ta.dL v],rfl,by show 2 + 1≤sizeLine;decide,by show 2 + 1 + 1≤sizeLine;decide,?_⟩⟩
        rw [Om.put_put,only_pl hp]
        exact k (.nd h ws v rr) c3 ⟨hws,vo,hr⟩ (by simp only [Ta.size];omega) fun y hy z hz=>by simp only [Ta.fin,vf y hy z hz]
      · refine ⟨_,rfl,p,n,ys,zs,rr,rfl,plAt_put,hn1,hn,T2,hr,by omega,fun v c3 vo vs vf=>⟨[Ta.dL v],rfl,by show 3 + 1≤sizeLine;decide,by show 3 + 1 + 0≤sizeLine;decide,?_⟩⟩
        rw [Om.put_put,only_pl hp]
        exact k (.nd h ws l v) c3 ⟨hws,hl,vo⟩ (by simp only [Ta.size];omega) fun y hy z hz=>by simp only [Ta.fin,vf y hy z hz]
  rintro ρ ω' ⟨c,rfl,v3,rfl⟩
  simp only [caL]
  walk_at "s1"
  walk_at "s1"
  refine ⟨p,2,rfl,plAt_put,by decide,by decide,fun x c1 x0 x1=>⟨_,rfl,?_⟩⟩
  rw [Om.put_put]
  obtain ⟨g,eg⟩ : ∃ g : Bool,atI [AV.d (D.str (Str.ofString "yes")),AV.d (D.str (Str.ofString "no"))] x = some (.d (.str (if g then "yes" else "no"))):=by
    rcases (by omega : x = 0∨x = 1) with rfl | rfl
    · exact ⟨true,rfl⟩
    · exact ⟨false,rfl⟩
  refine ⟨_,eg,?_⟩
  walk_at "s1"
  refine ⟨p,n,rfl,plAt_put,by omega,by omega,fun i c2 i0 i1=>⟨_,rfl,?_⟩⟩
  rw [Om.put_put]
  refine seq_cut (fun ρ' ω'=>∃ (sp : Ta) (c : Pl),ω' = ω.put p (plO c)∧sp.ok n∧sp.size≤3∧ρ' = [some (.r (.ref p)),some (.d (.tup [.int n,.lst (ys.map wdD),.lst (zs.map wdD)])),some (.d (Ta.dL u)),v3,some (.d (.int n)),some (.d (.lst (ys.map wdD))),some (.d (.lst (zs.map wdD))),some (.d (.str (if g then "yes" else "no"))),some (.d (Ta.dL sp)),none]) (fun M kM=>?_) ?_
  · walk_at "a1"
    refine ⟨p,2,rfl,plAt_put,by decide,by decide,fun b c3 b0 b1=>?_⟩
    rw [Om.put_put]
    refine ⟨_,rfl,by simp [dep],?_⟩
    rw [eqD_int]
    refine ite2 (fun h1=>?_) (fun h1=>kM _ _ ⟨.en i,c3,rfl,⟨i0,i1⟩,by simp [Ta.size],rfl⟩)
    refine ⟨n,rfl,hn,p,wl n,2,rfl,plAt_put,hwl,fun L c4 hL _=>⟨_,rfl,?_⟩⟩
    rw [Om.put_put]
    exact kM _ _ ⟨.nd false L (.en i) (.en 0),c4,rfl,⟨Wds.sub hL hn,⟨i0,i1⟩,⟨by omega,by omega⟩⟩,by simp [Ta.size],rfl⟩
  rintro ρ ω' ⟨sp1,c3,rfl,spo,sps,rfl⟩
  walk_at "s1"
  refine ⟨p,4,rfl,plAt_put,by decide,by decide,fun wy c4 w0 w1=>?_⟩
  rw [Om.put_put]
  have sec : ∀ S : List (List Int),Wds n S→(∀ y∈ys,∀ z∈zs,Ta.bit y z g S = true)→Q (.d (Ta.dL (.nd g S sp1 u))) (ω.put p (plO c4)):=fun S hS hb=>k _ c4 ⟨hS,spo,hu⟩ (by simp only [Ta.size];omega) fun y hy z hz=>by simp only [Ta.fin,hb y hy z hz,if_true]
  have fst : ∀ S : List (List Int),Wds n S→(∀ y∈ys,∀ z∈zs,Ta.bit y z g S = false)→Q (.d (Ta.dL (.nd g S u sp1))) (ω.put p (plO c4)):=fun S hS hb=>k _ c4 ⟨hS,hu,spo⟩ (by simp only [Ta.size];omega) fun y hy z hz=>by simp only [Ta.fin,hb y hy z hz,Bool.false_eq_true,if_false]
  walk_at "s1"
  refine ite2 (fun h1=>?_) (fun h1=>?_)
  · refine ⟨n,rfl,hn,_,rfl,?_⟩
    rw [only_pl hp]
    exact sec (wl n) (Wds.sub (List.Sublist.refl _) hn) fun y hy z hz=>by
      cases g<;>simp only [Ta.bit,if_true,if_false,Bool.false_eq_true,decide_eq_true_eq]
      · exact T2.z.2 z hz
      · exact T2.y.2 y hy
  walk_at "s1"
  refine ite2 (fun h2=>?_) (fun h2=>?_)
  · refine ⟨yn_nd,fun pd hpd=>⟨_,rfl,.d (.lst ((if g then ys else zs).map wdD)),by cases g;exact yn_val.2;exact yn_val.1,_,rfl,?_⟩⟩
    rw [only_put ((Ex.refl _).new hpd) hp.some]
    refine sec (if g then ys else zs) (by cases g;exact T2.z;exact T2.y) fun y hy z hz=>?_
    cases g<;>simp only [Ta.bit,if_true,if_false,Bool.false_eq_true,decide_eq_true_eq]
    · exact hz
    · exact hy
  refine ⟨yn_nd,fun pd hpd=>⟨_,rfl,.d (.lst ((if g then zs else ys).map wdD)),by cases g;exact yn_val.2;exact yn_val.1,_,rfl,?_⟩⟩
  rw [only_put ((Ex.refl _).new hpd) hp.some]
  rcases (by omega : wy = 2∨wy = 3) with rfl | rfl
  · refine ⟨_,rfl,_,rfl,?_⟩
    exact fst [] ⟨List.nodup_nil,fun v hv=>absurd hv (by simp)⟩ fun y hy z hz=>by simp [Ta.bit]
  · refine ⟨_,rfl,_,rfl,?_⟩
    refine fst (if g then zs else ys) (by cases g;exact T2.y;exact T2.z) fun y hy z hz=>?_
    cases g<;>simp only [Ta.bit,if_true,if_false,Bool.false_eq_true,decide_eq_false_iff_not]
    · exact fun h=>T2.dj z h hz
    · exact T2.dj y hy
theorem ok_wrap (T : Txt K mg t) : ∀ r,FnOk P w K mg base CX0 (r + 3) t.a_l_wrapped t.d_l_wrapped ["_law_state","_law_case","_law_talk"] (lift (sp_wrap r))
  | 0=>wrap_step T 0 2 noSp (Nat.le_refl _) fn_no (fun r' h=>by omega)
  | r + 1=>wrap_step T (r + 1) (r + 3) _ (by omega) (ok_wrap T r) (fun r' h=>by cases h;rfl)
end
section
variable {P : Program} {w : World} {K : PySem.W.Frag} {mg : Str→Option Value} {base : Heap} {t : Adr}
theorem comp_kept {tc : AT} {te : AE} {ds : List D} {v0 : Option AV} {rest : SA} {ω : Om} {K : List AV→SA→Om→Prop} (S : Om→Prop) (R : D→Prop) (h0 : S ω)
    (ht : ∀ d∈ds,∀ ω,S ω→∀ Q : Bool→Om→Prop,(∀ b ω',S ω'→(b = true→R d)→Q b ω')→tc (some (.d d) :: rest) ω Q) (he : ∀ d∈ds,∀ ω,S ω→∀ Q : AV→Om→Prop,Q (.d d) ω→te (some (.d d) :: rest) ω Q) (hz : ds.length≤sizeLine)
    (hk : ∀ (es : List D) ρ ω,es.Sublist ds→(∀ d∈es,R d)→S ω→K (es.map AV.d) ρ ω) : aLoop (agName 0) tc (aLast te) (ds.map AV.d) [] (v0 :: rest) ω K:=by
  refine loop_D (fun i xs ρ ω'=>∃ v es,S ω'∧ρ = v :: rest∧xs = es.map AV.d∧es.Sublist (ds.take i)∧∀ d∈es,R d) ⟨_,[],h0,rfl,rfl,List.nil_sublist _,fun d hd=>absurd hd (by simp)⟩ ?_ ?_
  · rintro i d xs ρ ω' N hd ⟨v,es,hS,rfl,rfl,hs,hR⟩ kN
    have hi:=(List.getElem?_eq_some_iff.mp hd).1
    have hm:=List.mem_of_getElem? hd
    have et : ds.take (i + 1) = ds.take i ++ [d]:=by rw [List.take_succ,hd];rfl
    have hle:=hs.length_le
    rw [List.length_take] at hle
    rw [agName_eq,List.set_cons_zero]
    refine ht d hm _ hS _ fun b ω2 hS2 hb=>?_
    cases b with
    | true =>
      rw [if_pos rfl,aLast_eq]
      refine he d hm _ hS2 _ ⟨by rw [List.length_map];omega,kN _ _ _ ⟨_,es ++ [d],hS2,rfl,by simp,?_,?_⟩⟩
      · rw [et]
        exact hs.append (List.Sublist.refl _)
      · intro e he
        rcases List.mem_append.mp he with h | h
        · exact hR e h
        · rw [List.mem_singleton.mp h];exact hb rfl
    | false =>
      rw [if_neg Bool.false_ne_true]
      refine kN _ _ _ ⟨_,es,hS2,rfl,rfl,?_,hR⟩
      rw [et]
      exact hs.trans (List.sublist_append_left _ _)
  · rintro xs ρ ω' ⟨v,es,hS,rfl,rfl,hs,hR⟩
    rw [List.take_length] at hs
    exact hk es _ _ hs hR hS
theorem wd_inj {u v : List Int} (h : wdD u = wdD v) : u = v:=by
  have:=eqD_wd u v
  rw [h,eqD_refl] at this
  simpa using this.symm
def sp_strewn (r : Nat) : ASp:=fun xs ω Q=>∃ (p : Addr) (n : Nat) (ys zs : List (List Int)) (u : Ta),xs = [.r (.ref p),.d (caL n ys zs),.d (Ta.dL u)]∧PlAt ω p∧1≤n∧n≤5∧Two n ys zs∧u.ok n∧u.dp≤r∧∀ (v : Ta) (c : Pl),v.ok n→v.size = u.size→v.dp = u.dp→SmF ys zs u v→Q (.d v.d) (ω.put p (plO c))
theorem strewn_step (T : Txt K mg t) (r : Nat) (kk : Nat) (sp : ASp) (hk : 1≤kk) (G_l_strewn : FnOk P w K mg base CX0 kk t.a_l_strewn t.d_l_strewn ["_law_state","_law_case","_law_talk"] (lift sp))
    (hs : ∀ r',r = r' + 1→sp = sp_strewn r') : FnOk P w K mg base CX0 (kk + 1) t.a_l_strewn t.d_l_strewn ["_law_state","_law_case","_law_talk"] (lift (sp_strewn r)):=by
  have G_l_next_of : FnOk P w K mg base CX0 1 t.a_l_next_of t.d_l_next_of ["_law_state","_law_many"] (lift sp_draw):=ok_draw T
  have G_l_all : FnOk P w K mg base CX0 1 t.a_l_all t.d_l_all ["_law_places"] (lift sp_all):=ok_all T
  refine T.f_l_strewn.okD sc_l_strewn (fun xs ω Q h=>by obtain ⟨p,n,ys,zs,u,rfl,_⟩:=h;rfl) (fun cdv A outer s H E hr=>⟨_,_,(pss_cons (ps_if (pt_cmpR (op_eqD hr.u100) (pe_ix (ix_seqK K rfl) (pv 2) pe_int (fun _ _=>rfl)) pe_str (nomark _)) (pss_one (ps_ret (pv 2))) pss_nil)
      (pss_cons (ps_asg (pv 2) (pg_tupK K rfl (n:=4) rfl (pgs_cons (pg_name (i:=3) sc_l_strewn.nd rfl (Or.inr rfl)) (pgs_cons (pg_name (i:=4) sc_l_strewn.nd rfl (Or.inr rfl)) (pgs_cons (pg_name (i:=5) sc_l_strewn.nd rfl (Or.inl rfl)) (pgs_cons (pg_name (i:=6) sc_l_strewn.nd rfl (Or.inl rfl)) pgs_nil))))))
      (pss_cons (ps_setC (i:=7) sc_l_strewn.nd rfl (Or.inl rfl) (N:=(["_law_word","_law_case","_law_hand"] : List Str)) (src:=[none,some 1,some 3]) rfl (by show blkOk _ (defScope s_l_strewn) _ _ (["_law_state","_law_case","_law_talk","_law_hand","_law_says","_law_first","_law_second","_law_foreign","_law_more","_law_told"] : List Str) = true;decide +kernel) (by intro g' h;cases h) (pi_seq K rfl (pe_call G_l_all (hr.mono (by omega)) (by rfl) T.m_l_all T.k_l_all T.p_l_all .nil pass0 (pa_cons (pe_ix (ix_seqK K rfl) (pv 1) pe_int (fun _ _=>rfl)) pa_nil))) (fun _ _ _ _ _ _=>(pg_name (i:=0) (show (["_law_word","_law_case","_law_hand"] : List Str).Nodup by decide +kernel) rfl (Or.inl rfl))) (fun _ _ _ _ _ _=>(pts_one (pt_cmpR (op_notInD hr.u100) (pv 0) (pe_dget (hu_of hr) (pe_disp (pps_cons pe_str (pe_ix (ix_seqK K rfl) (pv 1) pe_int (fun _ _=>rfl)) (pps_cons pe_str (pe_ix (ix_seqK K rfl) (pv 1) pe_int (fun _ _=>rfl)) pps_nil)) rfl rfl (by simp) (by decide)) (pv 2) (fun _ _=>rfl)) (by with_unfolding_all rfl)))) (fun _ _ _ _ _ _=>(pl_last rfl rfl (pv 0))))
      (pss_cons (ps_setC (i:=8) sc_l_strewn.nd rfl (Or.inl rfl) (N:=(["_law_word","_law_state","_law_says"] : List Str)) (src:=[none,some 0,some 4]) rfl (by show blkOk _ (defScope s_l_strewn) _ _ (["_law_state","_law_case","_law_talk","_law_hand","_law_says","_law_first","_law_second","_law_foreign","_law_more","_law_told"] : List Str) = true;decide +kernel) (by intro g' h;cases h) (pi_seq K rfl (pv 7)) (fun _ _ _ _ _ _=>(pg_name (i:=0) (show (["_law_word","_law_state","_law_says"] : List Str).Nodup by decide +kernel) rfl (Or.inl rfl))) (fun _ _ _ _ _ _=>(pts_one (PW.pt (pw_and (pt_cmpR (op_eqD hr.u100) (pe_call G_l_next_of (hr.mono (by omega)) (by rfl) T.m_l_next_of T.k_l_next_of T.p_l_next_of .nil pass0 (pa_cons (pv 1) (pa_consC pe_int pa_nil))) pe_int (nomark _)) (pw_and1 (pt_cmpR (op_notInD hr.u100) (pv 0) (pv 2) (by with_unfolding_all rfl))))))) (fun _ _ _ _ _ _=>(pl_last rfl rfl (pv 0))))
      (pss_cons (ps_set (i:=9) sc_l_strewn.nd rfl (Or.inl rfl) (pe_callTy (call_tuple_ofK K rfl) (by rfl) T.b_tuple (by kernel_rfl) (pa_cons (pe_callB call_sorted (by rfl) T.b_sorted (by kernel_rfl) (pa_cons (pe_op (op_alt op_add (op_alt op_cat3 op_cat)) (pe_callTy (call_list_ofK K rfl) (by rfl) T.b_list (by kernel_rfl) (pa_cons (pv 4) pa_nil)) (pv 8)) pa_nil)) pa_nil)))
      (pss_one (ps_ret (pe_tup (pa_cons (pv 3) (pa_cons (pv 9) (pa_cons (pe_call G_l_strewn (hr.mono (by omega)) (by rfl) T.m_l_strewn T.k_l_strewn T.p_l_strewn .nil pass0 (pa_cons (pv 0) (pa_cons (pv 1) (pa_cons (pv 5) pa_nil)))) (pa_cons (pe_call G_l_strewn (hr.mono (by omega)) (by rfl) T.m_l_strewn T.k_l_strewn T.p_l_strewn .nil pass0 (pa_cons (pv 0) (pa_cons (pv 1) (pa_cons (pv 6) pa_nil)))) pa_nil)))))))))))),(s_seq (s_if (t_test (e_op o_eqD (e_op o_ix e_var e_int) e_str)) (s_ret e_var) s_next)
      (s_seq (s_asg e_var (g_tup (g_cons g_name (g_cons g_name (g_cons g_name (g_cons g_name g_nil))))))
      (s_seq (s_asg (e_comp (i_seq (e_call (a_cons (e_op o_ix e_var e_int) a_nil))) g_name (t_test (e_op o_in e_var (e_dget (e_disp (RefPs.cons (e_op o_ix e_var e_int) (RefPs.cons (e_op o_ix e_var e_int) RefPs.nil))) e_var))) (l_last e_var)) g_name)
      (s_seq (s_asg (e_comp (i_seq e_var) g_name (t_and (t_test (e_op o_eqD (e_call (a_cons e_var (a_cons e_int a_nil))) e_int)) (t_test (e_op o_in e_var e_var))) (l_last e_var)) g_name)
      (s_seq (s_asg (e_cb c_tuple (a_cons (e_cb c_sorted (a_cons (e_op o_add (e_cb c_list (a_cons e_var a_nil)) e_var) a_nil)) a_nil)) g_name)
      (s_ret (e_tup (a_cons e_var (a_cons e_var (a_cons (e_call (a_cons e_var (a_cons e_var (a_cons e_var a_nil)))) (a_cons (e_call (a_cons e_var (a_cons e_var (a_cons e_var a_nil)))) a_nil))))))))))),fun xs ω Q h=>?_⟩)
  obtain ⟨p,n,ys,zs,u,rfl,hp,hn1,hn,T2,hu,hd,k⟩:=h
  have hyl:=T2.y.le hn
  have hzl:=T2.z.le hn
  have hwl:=wl_le hn
  obtain ⟨c0,hp0⟩:=id hp
  have e0 : ω.put p (plO c0) = ω:=by funext b;by_cases hb : b = p<;>simp [Om.put,hb,hp0]
  cases u with
  | en i =>
    simp only [Ta.dL]
    walk_at "s1"
    have:=k (.en i) c0 hu rfl rfl (fun _ _ _ _=>rfl)
    rw [e0] at this
    rw [only_self]
    exact this
  | nd h ws l rr =>
    have hE2 : ¬ (if h then ("yes" : Str) else ("no" : Str)) = "end":=by cases h<;>decide +kernel
    obtain ⟨hws,hl,hr⟩:=hu
    have hwsl:=hws.le hn
    simp only [Ta.dp] at hd
    obtain ⟨r',rfl⟩ : ∃ r',r = r' + 1:=⟨r - 1,by omega⟩
    cases hs r' rfl
    simp only [Ta.dL]
    walk_at "s1"
    rw [if_neg hE2]
    walk_at "s1"
    simp only [caL]
    walk_at "s1"
    refine ⟨n,rfl,hn,?_⟩
    simp only [frzA,seqD]
    refine ⟨_,rfl,?_⟩
    refine comp_kept (fun ω'=>Ex ω ω') (fun d=>∀ v,d = wdD v→v ∉ (if h then ys else zs)) (Ex.refl _) (fun d hd ω1 hS Q1 q=>?_) (fun d hd ω1 hS Q1 q=>?_) (Nat.le_of_lt (small1000 (by simp;omega))) (fun es ρ ω1 hsub hR hS=>⟨_,und_map _,?_⟩)
    · obtain ⟨v,hv,rfl⟩:=List.mem_map.mp hd
      walk_at "a1"
      refine ⟨yn_nd,fun pd hpd=>⟨_,rfl,.d (.lst ((if h then ys else zs).map wdD)),by cases h;exact yn_val.2;exact yn_val.1,_,rfl,_,.inl rfl,by have:=deps_wds (if h then ys else zs);omega,?_⟩⟩
      rw [inD_wd]
      refine q _ _ (hS.new hpd) fun hb u hu=>?_
      rw [← wd_inj hu]
      simpa using hb
    · walk_at "a1"
      exact q
    obtain ⟨F,hF,rfl⟩:=List.sublist_map_iff.mp hsub
    have hFl:=hF.length_le
    have hFo : ∀ v∈F,v ∉ (if h then ys else zs):=fun v hv=>hR _ (List.mem_map.mpr ⟨v,hv,rfl⟩) v rfl
    have plx : ∀ {c : Pl} {ω' : Om},Ex (ω.put p (plO c)) ω'→PlAt ω' p:=fun {c ω'} hx=>⟨c,(hx p (by rw [Om.put_same];rfl)).trans Om.put_same⟩
    walk_at "s1"
    refine comp_kept (fun ω'=>∃ c,Ex (ω.put p (plO c)) ω') (fun d=>∀ v,d = wdD v→v ∉ ws) ⟨c0,by rw [e0];exact hS⟩ (fun d hd ω2 hS2 Q1 q=>?_) (fun d hd ω2 hS2 Q1 q=>?_) (Nat.le_of_lt (small1000 (by simp;omega))) (fun es ρ ω2 hsub2 hR2 hS2=>⟨_,und_map _,?_⟩)
    · obtain ⟨v,hv,rfl⟩:=List.mem_map.mp hd
      obtain ⟨c,hx⟩:=hS2
      walk_at "a1"
      refine ⟨p,4,rfl,plx hx,by decide,by decide,fun j c2 j0 j1=>⟨_,rfl,by simp [dep],?_⟩⟩
      rw [eqD_int]
      have hx2 : Ex (ω.put p (plO c2)) (ω2.put p (plO c2)):=hx.put2
      refine ite2 (fun h1=>⟨by have:=deps_wds ws;omega,?_⟩) (fun h1=>q _ _ ⟨c2,hx2⟩ fun hb=>by cases hb)
      rw [inD_wd]
      refine q _ _ ⟨c2,hx2⟩ fun hb u hu=>?_
      rw [← wd_inj hu]
      simpa using hb
    · walk_at "a1"
      exact q
    obtain ⟨G,hG,rfl⟩:=List.sublist_map_iff.mp hsub2
    have hGl:=hG.length_le
    have hGo : ∀ v∈G,v ∉ ws:=fun v hv=>hR2 _ (List.mem_map.mpr ⟨v,hv,rfl⟩) v rfl
    obtain ⟨c1,hx1⟩:=hS2
    have hGw : ∀ v∈ws ++ G,v∈wl n:=fun v hv=>by
      rcases List.mem_append.mp hv with h | h
      · exact hws.2 v h
      · exact (hG.trans hF).mem h
    have hWd : Wds n (ws ++ G):=⟨by
      rw [List.nodup_append]
      exact ⟨hws.1,(wl_nd hn).sublist (hG.trans hF),fun a ha b hb e=>hGo b hb (by rw [← e];exact ha)⟩,hGw⟩
    walk_at "s1"
    have hWl:=hWd.le hn
    rw [List.length_append] at hWl
    refine ⟨Nat.le_of_lt (small1000 (by omega)),ws ++ G,by simp,fun y hy e=>?_,by rw [List.length_append];omega,?_⟩
    · have:=(wl_mem (hGw y hy)).1
      rw [e] at this
      simp at this
      omega
    refine ⟨p,n,ys,zs,l,rfl,plx hx1,hn1,hn,T2,hl,by omega,fun u c2 uo us ud uf=>?_⟩
    have hx2 : Ex (ω.put p (plO c2)) (ω2.put p (plO c2)):=hx1.put2
    refine ⟨p,n,ys,zs,rr,rfl,plx hx2,hn1,hn,T2,hr,by omega,fun v c3 vo vs vd vf=>⟨_,rfl,?_⟩⟩
    rw [Om.put_put,only_put hx1.put2 hp.some]
    refine k (.nd h (srtW (ws ++ G)) u v) c3 ⟨Wds.perm hWd (srtW_perm _),uo,vo⟩ (by simp only [Ta.size,us,vs]) (by simp only [Ta.dp,ud,vd]) fun y hy z hz=>?_
    have hb : Ta.bit y z h (srtW (ws ++ G)) = Ta.bit y z h ws:=by
      unfold Ta.bit
      have hm : ∀ o∈(if h then ys else zs),decide (o∈srtW (ws ++ G)) = decide (o∈ws):=fun o ho=>by
        rw [Bool.eq_iff_iff,decide_eq_true_eq,decide_eq_true_eq,srtW_mem,List.mem_append]
        exact ⟨fun h=>h.resolve_right fun hg=>hFo o (hG.mem hg) ho,fun h=>.inl h⟩
      cases h
      · exact hm z hz
      · exact hm y hy
    simp only [Ta.fin,hb,uf y hy z hz,vf y hy z hz]
theorem ok_strewn (T : Txt K mg t) : ∀ r,FnOk P w K mg base CX0 (r + 2) t.a_l_strewn t.d_l_strewn ["_law_state","_law_case","_law_talk"] (lift (sp_strewn r))
  | 0=>strewn_step T 0 1 noSp (Nat.le_refl _) fn_no (fun r' h=>by omega)
  | r + 1=>strewn_step T (r + 1) (r + 2) _ (by omega) (ok_strewn T r) (fun r' h=>by cases h;rfl)
end
section
variable {P : Program} {w : World} {K : PySem.W.Frag} {mg : Str→Option Value} {base : Heap} {t : Adr}
def lfB : Tr→Bool
  | .lf _=>true
  | .nd _ _ _=>false
theorem tr_head {u : Tr} {lw : Str} (ho : u.ok lw) : ∃ (ds : List D) (z : Str),u.d = .tup ds∧atI (ds.map AV.d) 0 = some (.d (.str z))∧(z = lw↔lfB u = true):=by
  cases u with
  | lf x =>
    refine ⟨x,lw,rfl,atI_of 0 rfl (by rw [List.getElem?_map,ho.1];rfl),by simp [lfB]⟩
  | nd x l r =>
    obtain ⟨⟨w0,hw0,hw0n⟩,_⟩:=ho
    refine ⟨x ++ [l.d,r.d],w0,rfl,atI_of 0 rfl ?_,by simp [lfB,hw0n]⟩
    rw [List.getElem?_map,List.getElem?_append_left (List.getElem?_eq_some_iff.mp hw0).1,hw0];rfl
theorem atI_m1 {α : Type} {xs : List α} {a b : α} : atI (xs ++ [a,b]) (-1) = some b∧atI (xs ++ [a,b]) (-2) = some a:=by
  constructor
  · have e : xs ++ [a,b] = (xs ++ [a]) ++ [b]:=by simp
    rw [e];exact atI_lastS
  · unfold atI ixN
    rw [if_neg (by decide),if_pos (by simp;omega)]
    show (xs ++ [a,b])[((-2 : Int) + ((xs ++ [a,b]).length : Nat)).toNat]? = some a
    have : ((-2 : Int) + ((xs ++ [a,b]).length : Nat)).toNat = xs.length:=by simp;omega
    rw [this];simp
def trs : List Tr→Nat
  | []=>0
  | e :: r=>e.size + trs r
theorem trs_append : ∀ a b : List Tr,trs (a ++ b) = trs a + trs b
  | [],b=>by simp [trs]
  | e :: a,b=>by simp only [List.cons_append,trs,trs_append a b];omega
theorem trs_len : ∀ a : List Tr,a.length≤trs a
  | []=>by simp [trs]
  | e :: a=>by
    have:=trs_len a
    have:=Tr.size_pos e
    simp only [trs,List.length_cons];omega
theorem lt_big {n : Nat} (h : n≤200000) : n < sizeLine:=Nat.lt_of_le_of_lt h (by decide)
theorem iteT {a b : Prop} (h : a) : if true = true then a else b:=by rw [if_pos rfl];exact h
theorem iteF {a b : Prop} (h : b) : if false = true then a else b:=by rw [if_neg (by decide)];exact h
theorem q_tru {i : Nat} {ρ : SA} {ω : Om} {Q : Bool→Om→Prop} {l : Addr} {xs : List AV} (h1 : ρ[i]? = some (some (.r (.ref l)))) (h2 : ω l = some (.own xs)) (q : Q (!xs.isEmpty) ω) : aTru (aVar i) ρ ω Q :=
  ⟨_,h1,_,by rw [truA_r,lstA_r,h2];rfl,q⟩
theorem q_pop {i j : Nat} {R : AS} {D : AEnds} {ρ : SA} {ω : Om} {l : Addr} {xs : List AV} {y : AV} (h1 : ρ[i]? = some (some (.r (.ref l)))) (h2 : ω l = some (.own (xs ++ [y]))) (q : R D (ρ.set j (some y)) (ω.put l (.own xs))) : aSeq (aAsg (aPop (aVar i)) (agName j)) R D ρ ω :=
  ⟨_,h1,l,xs ++ [y],y,rfl,h2,by simp,by rw [dropl_concat];exact q⟩
theorem q_appV {i j : Nat} {D : AEnds} {ρ : SA} {ω : Om} {l : Addr} {xs : List AV} {y : AV} (h1 : ρ[i]? = some (some (.r (.ref l)))) (h2 : ω l = some (.own xs)) (h3 : xs.length < sizeLine) (h4 : ρ[j]? = some (some y)) (q : D.nx ρ (ω.put l (.own (xs ++ [y])))) : aDrop (aAppend (aVar i) (aCons (aVar j) aNil)) D ρ ω :=
  ⟨_,h1,l,rfl,⟨_,h2⟩,_,h4,xs,y,rfl,h2,h3,q⟩
theorem q_appN {i j : Nat} {m : Int} {D : AEnds} {ρ : SA} {ω : Om} {l : Addr} {xs ys : List AV} {x y : AV} (h1 : ρ[i]? = some (some (.r (.ref l)))) (h2 : ω l = some (.own xs)) (h3 : xs.length < sizeLine) (h4 : ρ[j]? = some (some x)) (h5 : tupA x = some ys) (h6 : atI ys (-m) = some y) (q : D.nx ρ (ω.put l (.own (xs ++ [y])))) : aDrop (aAppend (aVar i) (aCons (aOp aIx (aVar j) (aUn (aU fun i=>L2.D.int (-i)) (aC (L2.D.int m)))) aNil)) D ρ ω :=
  ⟨_,h1,l,rfl,⟨_,h2⟩,_,h4,m,rfl,ys,-m,y,.inr h5,rfl,h6,xs,y,rfl,h2,h3,q⟩
theorem q_word {i j : Nat} {T U : AS} {D : AEnds} {ρ : SA} {ω : Om} {x : AV} {ys : List AV} {z lw : Str} (h1 : ρ[j]? = some (some x)) (h2 : tupA x = some ys) (h3 : atI ys 0 = some (.d (.str z))) (h4 : ρ[i]? = some (some (.d (.str lw)))) (q : if z = lw then U D ρ ω else T D ρ ω) : aIfS (aTest (aOp (aEqD true) (aOp aIx (aVar j) (aC (L2.D.int 0))) (aVar i))) T U D ρ ω :=
  ⟨_,h1,ys,0,_,.inr h2,rfl,h3,_,h4,_,_,rfl,rfl,by rw [dep_str];omega,_,rfl,by
    rw [eqD_str]
    by_cases h : z = lw
    · rw [if_pos h] at q;rw [if_neg (by simp [h])];exact q
    · rw [if_neg h] at q;rw [if_pos (by simp [h])];exact q⟩
def sp_upwardA : ASp:=fun xs ω Q=>∃ (u : Tr) (lw : Str),xs = [.d u.d,.d (.str lw)]∧u.ok lw∧u.size≤100000∧Q (.d (.lst (u.post.map Tr.d))) ω
theorem ok_upwardA (T : Txt K mg t) : FnOk P w K mg base CX0 1 t.a_upward t.d_upward ["tree","leaf"] (lift sp_upwardA):=by
  refine T.f_upward.okD sc_upward (fun xs ω Q h=>by obtain ⟨u,lw,rfl,_⟩:=h;rfl) (fun cdv A outer s H E hr=>⟨_,_,(pss_cons (ps_set (i:=2) sc_upward.nd rfl (Or.inl rfl) (pe_lst (pa_cons (pv 0) pa_nil)))
      (pss_cons (ps_set (i:=3) sc_upward.nd rfl (Or.inl rfl) (pe_lst pa_nil))
      (pss_cons (ps_while PassesOwn.never (pt_truthK K rfl (pv 2) (fun _=>rfl)) (pss_cons (ps_set (i:=4) sc_upward.nd rfl (Or.inl rfl) (pe_bm0 PySem.F.plainAttrs_list PySem.F.slot_list_pop PySem.F.type_list_pop mt_pop (pv 2)))
      (pss_cons (ps_expr (pe_bm PySem.F.plainAttrs_list PySem.F.slot_list_append PySem.F.type_list_append mt_append (pv 3) (pa_cons (pv 4) pa_nil)))
      (pss_one (ps_if (pt_cmpR (op_neD hr.u100) (pe_ix (ix_seqK K rfl) (pv 4) pe_int (fun _ _=>rfl)) (pv 1) (nomark _)) (pss_cons (ps_expr (pe_bm PySem.F.plainAttrs_list PySem.F.slot_list_append PySem.F.type_list_append mt_append (pv 2) (pa_cons (pe_ix (ix_seqK K rfl) (pv 4) (pe_un un_neg pe_int) (fun _ _=>rfl)) pa_nil)))
      (pss_one (ps_expr (pe_bm PySem.F.plainAttrs_list PySem.F.slot_list_append PySem.F.type_list_append mt_append (pv 2) (pa_cons (pe_ix (ix_seqK K rfl) (pv 4) (pe_un un_neg pe_int) (fun _ _=>rfl)) pa_nil))))) pss_nil)))))
      (pss_one (ps_ret (pe_rev K rfl (pv 3) (pe_un un_neg pe_int))))))),(s_seq (s_asg (e_lstO (a_cons e_var a_nil)) g_name)
      (s_seq (s_asg (e_lstO a_nil) g_name)
      (s_seq (s_while (t_tru e_var) (s_seq (s_asg (e_pop e_var) g_name)
      (s_seq (s_drop (e_append e_var (a_cons e_var a_nil)))
      (s_if (t_test (e_op o_eqD (e_op o_ix e_var e_int) e_var)) (s_seq (s_drop (e_append e_var (a_cons (e_op o_ix e_var (e_un u_i e_int)) a_nil)))
      (s_drop (e_append e_var (a_cons (e_op o_ix e_var (e_un u_i e_int)) a_nil)))) s_next))))
      (s_ret (e_rev e_var))))),fun xs ω Q h=>?_⟩)
  obtain ⟨u,lw,rfl,hok,hsz,k⟩:=h
  walk_at "s1"
  intro l1 hl1
  walk_at "s1"
  intro l2 hl2
  obtain ⟨n21,hl2⟩:=put_free hl2
  have n12:=Ne.symm n21
  rw [aSeq_eq]
  obtain ⟨Pv,iP⟩:=invA fun j ρ ω'=>∃ (W es : List Tr) (v4 : Option AV),ρ = [some (.d u.d),some (.d (.str lw)),some (.r (.ref l1)),some (.r (.ref l2)),v4]∧ω' = om2 ω l1 l2 (.own ((W.map Tr.d).map AV.d)) (.own ((es.map Tr.d).map AV.d))∧(∀ e∈W,e.ok lw)∧es ++ (W.reverse.flatMap Tr.pre) = u.pre∧es.length + trs W≤u.size∧j = trs W
  refine ⟨Pv,⟨_,(iP _ _ _).mpr ⟨[u],[],_,rfl,rfl,by simpa using hok,by simp,by simp [trs],rfl⟩⟩,fun j ρ ω' h=>?_⟩
  obtain ⟨W,es,v4,rfl,rfl,hW,hE,hS,rfl⟩:=(iP _ _ _).mp h
  clear h
  have eo : ∀ A B,(om2 ω l1 l2 A B).only ω = ω:=fun A B=>only_ex (((Ex.refl ω).over hl1).over hl2)
  refine q_tru rfl (om2_p n12) ?_
  rcases List.eq_nil_or_concat W with rfl | ⟨W',e,rfl⟩
  · simp only [List.reverse_nil,List.flatMap_nil,List.append_nil] at hE
    subst hE
    refine iteF ⟨_,rfl,_,datA_own om2_l,_,rfl,?_⟩
    rw [eo,← List.map_reverse,Tr.pre_rev]
    exact k
  · rw [List.concat_eq_append] at hW hE hS ⊢
    have hWl:=trs_len W'
    rw [trs_append] at hS
    simp only [trs,Nat.add_zero] at hS
    have hoe:=hW e (List.mem_append_right _ (List.mem_singleton.mpr rfl))
    have hW' : ∀ e∈W',e.ok lw:=fun e he=>hW e (List.mem_append_left _ he)
    simp only [List.reverse_append,List.reverse_cons,List.reverse_nil,List.nil_append,List.flatMap_append,List.flatMap_cons,List.flatMap_nil,List.append_nil,List.cons_append] at hE
    simp only [List.map_append,List.map_cons,List.map_nil]
    obtain ⟨ds,z,ed,ez,hz⟩:=tr_head hoe
    have se:=Tr.size_pos e
    have hs1 : es.length < sizeLine:=lt_big (by omega)
    have elt : ∀ W2 : List Tr,trs W2 < e.size→trs (W' ++ W2) < trs (W' ++ [e]):=fun W2 h=>by rw [trs_append,trs_append];simp only [trs];omega
    have pq : ∀ (W2 : List Tr) v4,trs W2 < e.size→(∀ x∈W2,x.ok lw)→W2.reverse.flatMap Tr.pre = e.pre.tail→e.pre = e :: e.pre.tail→∃ m',m' < trs (W' ++ [e])∧Pv m' [some (.d u.d),some (.d (.str lw)),some (.r (.ref l1)),some (.r (.ref l2)),v4] (om2 ω l1 l2 (.own (((W' ++ W2).map Tr.d).map AV.d)) (.own ((es.map Tr.d).map AV.d ++ [.d e.d]))):=fun W2 v4 h1 h2 h3 h4 =>
      ⟨_,elt W2 h1,(iP _ _ _).mpr ⟨W' ++ W2,es ++ [e],_,rfl,by simp,fun x hx=>(List.mem_append.mp hx).elim (hW' x) (h2 x),by rw [← hE,h4];simp [h3],by rw [trs_append];simp;omega,rfl⟩⟩
    rw [emp_concat]
    refine iteT ⟨fun ρ' ω'=>∃ m',m' < trs (W' ++ [e])∧Pv m' ρ' ω',fun ρ' ω' h=>h,q_pop rfl (om2_p n12) ?_⟩
    rw [om2_pp n12,aSeq_eq]
    refine q_appV rfl om2_l (by simpa using hs1) rfl (q_word rfl (by rw [ed];rfl) ez rfl ?_)
    rw [om2_pl]
    cases e with
    | lf x =>
      rw [if_pos (hz.mpr rfl),aNext_eq]
      have p0:=pq [] (some (.d (Tr.lf x).d)) (by simp [trs,Tr.size]) (by simp) rfl rfl
      simpa using p0
    | nd x a b =>
      obtain ⟨_,_,oa,ob⟩:=hoe
      have hz' : ¬ z = lw:=fun h=>by have:=hz.mp h;simp [lfB] at this
      have p0:=pq [a,b] (some (.d (Tr.nd x a b).d)) (by simp only [trs,Tr.size];omega) (by simp [oa,ob]) (by simp [Tr.pre]) rfl
      obtain ⟨q1,q2⟩:=atI_m1 (xs:=x.map AV.d) (a:=AV.d a.d) (b:=AV.d b.d)
      have eds : ds = x ++ [a.d,b.d]:=by cases ed;rfl
      have l2' : W'.length + 1 < sizeLine:=lt_big (by omega)
      have tup : tupA (.d (Tr.nd x a b).d) = some (x.map AV.d ++ [AV.d a.d,AV.d b.d]):=by rw [ed,eds,tupA_t];simp
      rw [if_neg hz',aSeq_eq]
      refine q_appN rfl (om2_p n12) (lt_big (by simp;omega)) rfl tup q2 ?_
      rw [om2_pp n12]
      refine q_appN rfl (om2_p n12) (by simpa using l2') rfl tup q1 ?_
      rw [om2_pp n12]
      simpa using p0
end
section
def taTr : Ta→Tr
  | .en i=>.lf [.str "end",.int i]
  | .nd h ws a b=>.nd [.str (if h then "yes" else "no"),.tup (ws.map wdD)] (taTr a) (taTr b)
theorem taTr_d : ∀ u : Ta,(taTr u).d = u.d
  | .en i=>rfl
  | .nd h ws a b=>by simp [taTr,Tr.d,Ta.d,taTr_d a,taTr_d b]
theorem taTr_ok : ∀ u : Ta,(taTr u).ok "end"
  | .en i=>⟨rfl,by simp [noLs,noL]⟩
  | .nd h ws a b=>⟨⟨_,rfl,by cases h<;>decide +kernel⟩,by simp [noLs,noL,noLs_wds],taTr_ok a,taTr_ok b⟩
theorem taTr_n : ∀ u : Ta,(taTr u).size = u.size∧(taTr u).dp = u.dp∧(taTr u).lvs = u.lvs
  | .en i=>⟨rfl,rfl,rfl⟩
  | .nd h ws a b=>by
    obtain ⟨a1,a2,a3⟩:=taTr_n a
    obtain ⟨b1,b2,b3⟩:=taTr_n b
    simp only [taTr,Tr.size,Tr.dp,Tr.lvs,Ta.size,Ta.dp,Ta.lvs,a1,a2,a3,b1,b2,b3,and_self]
end
section
variable {P : Program} {w : World} {K : PySem.W.Frag} {mg : Str→Option Value} {base : Heap} {t : Adr}
def outD (y n : List Int) (u : Ta) : D:=.tup [.lst ((Ta.way y n u).map D.int),.int (Ta.fin y n u)]
def sp_spoken : ASp:=fun xs ω Q=>∃ (u : Ta) (y n : List Int) (m : Nat),xs = [.d u.d,.d (wdD y),.d (wdD n)]∧u.ok m∧u.dp≤900∧Q (.d (outD y n u)) ω
theorem ok_spoken (T : Txt K mg t) : FnOk P w K mg base CX0 1 t.a_spoken t.d_spoken ["talk","yes","no"] (lift sp_spoken):=by
  refine T.f_spoken.okD sc_spoken (fun xs ω Q h=>by obtain ⟨u,y,n,m,rfl,_⟩:=h;rfl) (fun cdv A outer s H E hr=>⟨_,_,(pss_cons (ps_set (i:=3) sc_spoken.nd rfl (Or.inl rfl) (pe_lst pa_nil))
      (pss_cons (ps_set (i:=4) sc_spoken.nd rfl (Or.inl rfl) (pv 0))
      (pss_cons (ps_while PassesOwn.never (pt_cmpR (op_neD hr.u100) (pe_ix (ix_seqK K rfl) (pv 4) pe_int (fun _ _=>rfl)) pe_str (nomark _)) (pss_cons (ps_set (i:=5) sc_spoken.nd rfl (Or.inl rfl) (pe_ifExp (pt_cmpR (op_eqD hr.u100) (pe_ix (ix_seqK K rfl) (pv 4) pe_int (fun _ _=>rfl)) pe_str (nomark _)) (pv 1) (pv 2)))
      (pss_cons (ps_set (i:=6) sc_spoken.nd rfl (Or.inl rfl) (pe_ifExp (pt_cmpR (op_inD hr.u100) (pv 5) (pe_ix (ix_seqK K rfl) (pv 4) pe_int (fun _ _=>rfl)) (by with_unfolding_all rfl)) pe_int pe_int))
      (pss_cons (ps_expr (pe_bm PySem.F.plainAttrs_list PySem.F.slot_list_append PySem.F.type_list_append mt_append (pv 3) (pa_cons (pv 6) pa_nil)))
      (pss_one (ps_set (i:=4) sc_spoken.nd rfl (Or.inl rfl) (pe_ix (ix_seqK K rfl) (pv 4) (pe_op (op_alt op_add (op_alt op_cat3 op_cat)) pe_int (pv 6)) (fun _ _=>rfl))))))))
      (pss_one (ps_ret (pe_tup (pa_cons (pv 3) (pa_cons (pe_ix (ix_seqK K rfl) (pv 4) pe_int (fun _ _=>rfl)) pa_nil)))))))),(s_seq (s_asg (e_lstO a_nil) g_name)
      (s_seq (s_asg e_var g_name)
      (s_seq (s_while (t_test (e_op o_eqD (e_op o_ix e_var e_int) e_str)) (s_seq (s_asg (e_if (t_test (e_op o_eqD (e_op o_ix e_var e_int) e_str)) e_var e_var) g_name)
      (s_seq (s_asg (e_if (t_test (e_op o_in e_var (e_op o_ix e_var e_int))) e_int e_int) g_name)
      (s_seq (s_drop (e_append e_var (a_cons e_var a_nil)))
      (s_asg (e_op o_ix e_var (e_op o_add e_int e_var)) g_name)))))
      (s_ret (e_tup (a_cons e_varF (a_cons (e_op o_ix e_var e_int) a_nil))))))),fun xs ω Q h=>?_⟩)
  obtain ⟨u,y,n,m,rfl,hu,hd,k⟩:=h
  walk_at "ab"
  intro l hl
  obtain ⟨Pv,iP⟩:=invA fun j ρ ω'=>∃ (u2 : Ta) (bs : List Int) (v5 v6 : Option AV),ρ = [some (.d u.d),some (.d (wdD y)),some (.d (wdD n)),some (.r (.ref l)),some (.d u2.d),v5,v6]∧ω' = ω.put l (.own ((bs.map D.int).map AV.d))∧u2.ok m∧bs ++ Ta.way y n u2 = Ta.way y n u∧Ta.fin y n u2 = Ta.fin y n u∧j = u2.dp
  refine ⟨Pv,⟨_,(iP _ _ _).mpr ⟨u,[],_,_,rfl,rfl,hu,rfl,rfl,rfl⟩⟩,fun j ρ ω' h=>?_⟩
  obtain ⟨u2,bs,v5,v6,rfl,rfl,hu2,hw,hf,rfl⟩:=(iP _ _ _).mp h
  clear h
  have hbl : bs.length≤900:=by
    have:=Ta.way_len y n u
    rw [← hw,List.length_append] at this
    omega
  cases u2 with
  | en i =>
    simp only [Ta.d]
    walk_at "ab"
    rw [only_ex ((Ex.refl ω).new hl)]
    simp only [Ta.fin,Ta.way,List.append_nil] at hf hw
    unfold outD at k
    rw [← hf,← hw] at k
    exact k
  | nd b ws a c =>
    obtain ⟨hws,ha,hc⟩:=hu2
    have hwd:=deps_wds ws
    have next : ∀ (v : Bool),Ta.bit y n b ws = v→∀ v5 v6,Pv (if v then c else a).dp [some (.d u.d),some (.d (wdD y)),some (.d (wdD n)),some (.r (.ref l)),some (.d (if v then c else a).d),v5,v6] (ω.put l (.own ((bs.map D.int).map AV.d ++ [.d (.int (if v then 1 else 0))]))):=fun v hv v5 v6=>by
      refine (iP _ _ _).mpr ⟨if v then c else a,bs ++ [if v then 1 else 0],_,_,rfl,by simp,by cases v<;>assumption,?_,?_,rfl⟩
      · rw [← hw];simp only [Ta.way,hv];cases v<;>simp
      · rw [← hf];simp only [Ta.fin,hv];cases v<;>simp
    have lt : ∀ v : Bool,(if v then c else a).dp < (Ta.nd b ws a c).dp:=fun v=>by cases v<;>simp only [Ta.dp]<;>simp<;>omega
    have hsz : bs.length < sizeLine:=lt_dec (m:=0) (by omega)
    cases b<;>simp only [Ta.d]<;>walk_at "ab"
    · refine ⟨fun ρ' ω'=>∃ m',m' < (Ta.nd false ws a c).dp∧Pv m' ρ' ω',fun ρ' ω' h=>h,by omega,?_⟩
      rw [inD_wd]
      refine ite2 (fun hb=>⟨hsz,_,lt true,next true (by simpa [Ta.bit] using hb) _ _⟩) (fun hb=>⟨hsz,_,lt false,next false (by simpa [Ta.bit] using hb) _ _⟩)
    · refine ⟨fun ρ' ω'=>∃ m',m' < (Ta.nd true ws a c).dp∧Pv m' ρ' ω',fun ρ' ω' h=>h,by omega,?_⟩
      rw [inD_wd]
      refine ite2 (fun hb=>⟨hsz,_,lt true,next true (by simpa [Ta.bit] using hb) _ _⟩) (fun hb=>⟨hsz,_,lt false,next false (by simpa [Ta.bit] using hb) _ _⟩)
end
section
variable {P : Program} {w : World} {K : PySem.W.Frag} {mg : Str→Option Value} {base : Heap} {t : Adr}
def rl (b : Bool) : Str:=if b then "rising" else "any"
def ppB (b : Bool) (y n : List Int) (i : Nat) : Bool:=if b then decide (y.getD i 0 = 1) && decide (n.getD i 0 = 0) else !decide (y.getD i 0 = n.getD i 0)
def sp_pp : ASp:=fun xs ω Q=>∃ (b : Bool) (i : Int) (y n : List Int),xs = [.d (.str (rl b)),.d (.int i),.d (wdD y),.d (wdD n)]∧0≤i∧i < y.length∧i < n.length∧Q (.d (.bl (ppB b y n i.toNat))) ω
theorem ok_pp (T : Txt K mg t) : FnOk P w K mg base CX0 1 t.a_parts_pair t.d_parts_pair ["rule","place","yes","no"] (lift sp_pp):=by
  refine T.f_parts_pair.okD sc_parts_pair (fun xs ω Q h=>by obtain ⟨b,i,y,n,rfl,_⟩:=h;rfl) (fun cdv A outer s H E hr=>⟨_,_,(pss_cons (ps_if (pt_cmpR (op_eqD hr.u100) (pv 0) pe_str (nomark _)) (pss_one (ps_ret (pe_andG K rfl (pe_cmpR (op_eqD hr.u100) (pe_ix (ix_seqK K rfl) (pv 2) (pv 1) (fun _ _=>rfl)) pe_int (nomark _)) (pe_one (pe_cmpR (op_eqD hr.u100) (pe_ix (ix_seqK K rfl) (pv 3) (pv 1) (fun _ _=>rfl)) pe_int (nomark _)))))) pss_nil)
      (pss_one (ps_ret (pe_cmpR (op_neD hr.u100) (pe_ix (ix_seqK K rfl) (pv 2) (pv 1) (fun _ _=>rfl)) (pe_ix (ix_seqK K rfl) (pv 3) (pv 1) (fun _ _=>rfl)) (nomark _))))),(s_seq (s_if (t_test (e_op o_eqD e_var e_str)) (s_ret (e_andG (e_op o_eqD (e_op o_ix e_var e_var) e_int) (e_op o_eqD (e_op o_ix e_var e_var) e_int))) s_next)
      (s_ret (e_op o_eqD (e_op o_ix e_var e_var) (e_op o_ix e_var e_var)))),fun xs ω Q h=>?_⟩)
  obtain ⟨b,i,y,n,rfl,h0,h1,h2,k⟩:=h
  have e1:=wd_at h0 h1
  have e2:=wd_at h0 h2
  cases b<;>simp only [rl,ppB,if_true,if_false,Bool.false_eq_true] at k ⊢<;>walk_at "ab"<;>simp only [e1,e2]<;>walk_at "ab"
  · rw [only_self];exact k
  · rw [only_self]
    by_cases hy : y.getD i.toNat 0 = 1
    · rw [if_pos hy];rw [decide_eq_true hy,Bool.true_and] at k;exact k
    · rw [if_neg hy];rw [decide_eq_false hy,Bool.false_and] at k;rw [beq_eq_false_iff_ne.mpr hy];exact k
end
section
variable {P : Program} {w : World} {K : PySem.W.Frag} {mg : Str→Option Value} {base : Heap} {t : Adr}
def prl (ys zs : List (List Int)) : List (List Int × List Int):=ys.flatMap fun y=>zs.map fun z=>(y,z)
def prD (p : List Int × List Int) : D:=.tup [wdD p.1,wdD p.2]
theorem prl_len (ys zs : List (List Int)) : (prl ys zs).length = ys.length * zs.length:=by
  induction ys with
  | nil=>simp [prl]
  | cons y ys ih =>
    simp only [prl,List.flatMap_cons,List.length_append,List.length_map] at ih ⊢
    rw [ih,List.length_cons,Nat.succ_mul]
    omega
theorem prl_take {ys zs : List (List Int)} {i : Nat} {y : List Int} (h : ys[i]? = some y) : prl (ys.take (i + 1)) zs = prl (ys.take i) zs ++ zs.map fun z=>(y,z):=by
  unfold prl
  rw [List.take_succ,h]
  simp
theorem prl_mem {ys zs : List (List Int)} {p : List Int × List Int} (h : p∈prl ys zs) : p.1∈ys∧p.2∈zs:=by
  unfold prl at h
  simp only [List.mem_flatMap,List.mem_map] at h
  obtain ⟨y,hy,z,hz,rfl⟩:=h
  exact ⟨hy,hz⟩
def sp_pairs : ASp:=fun xs ω Q=>∃ (pl : Nat) (ys zs : List (List Int)),xs = [.d (csD pl ys zs)]∧ys.length≤32∧zs.length≤32∧Q (.d (.lst ((prl ys zs).map prD))) ω
theorem ok_pairs (T : Txt K mg t) : FnOk P w K mg base CX0 1 t.a_pairs_in t.d_pairs_in ["case"] (lift sp_pairs):=by
  refine T.f_pairs_in.okD sc_pairs_in (fun xs ω Q h=>by obtain ⟨pl,ys,zs,rfl,_⟩:=h;rfl) (fun cdv A outer s H E hr=>⟨_,_,(pss_one (ps_ret (pe_comp (N:=(["yes","no","case"] : List Str)) (src:=[none,none,some 0]) rfl (by show blkOk _ (defScope s_pairs_in) _ _ (["case"] : List Str) = true;decide +kernel) (by intro g' h;cases h;rfl) (pi_seq K rfl (pe_ix (ix_seqK K rfl) (pv 0) pe_int (fun _ _=>rfl))) (fun _ _ _ _ _ _=>(pg_name (i:=0) (show (["yes","no","case"] : List Str).Nodup by decide +kernel) rfl (Or.inl rfl))) (fun _ _ _ _ _ _=>pts_nil) (fun _ _ _ _ _ _=>(pl_for rfl rfl rfl (by intro g' h;cases h) (pi_seq K rfl (pe_ix (ix_seqK K rfl) (pv 2) pe_int (fun _ _=>rfl))) (pg_name (i:=1) (show (["yes","no","case"] : List Str).Nodup by decide +kernel) rfl (Or.inl rfl)) pts_nil (pl_last rfl rfl (pe_tup (pa_cons (pv 0) (pa_cons (pv 1) pa_nil))))))))),(s_ret (e_comp (i_seq (e_op o_ix e_var e_int)) g_name t_no (l_for (i_seq (e_op o_ix e_var e_int)) g_name t_no (l_last (e_tup (a_cons e_var (a_cons e_var a_nil))))))),fun xs ω Q h=>?_⟩)
  obtain ⟨pl,ys,zs,rfl,hy,hz,k⟩:=h
  simp only [csD]
  walk_at "ab"
  refine loop_D (fun i xs ρ ω'=>ω' = ω∧(∃ v0 v1,ρ = [v0,v1,some (.d (csD pl ys zs))])∧xs = ((prl (ys.take i) zs).map prD).map AV.d) ⟨rfl,⟨_,_,rfl⟩,rfl⟩ ?_ ?_
  · rintro i d xs ρ ω' N hd ⟨rfl,⟨v0,v1,rfl⟩,rfl⟩ kN
    obtain ⟨y,hyi,rfl⟩:=map_get hd
    have hil:=(List.getElem?_eq_some_iff.mp hyi).1
    simp only [csD]
    walk_at "ab"
    refine loop_D (fun j xs ρ ω''=>ω'' = ω'∧(∃ v1,ρ = [some (.d (wdD y)),v1,some (.d (csD pl ys zs))])∧xs = ((prl (ys.take i) zs ++ (zs.take j).map fun z=>(y,z)).map prD).map AV.d) ⟨rfl,⟨_,rfl⟩,by simp⟩ ?_ ?_
    · rintro j d2 xs ρ ω'' M hd2 ⟨rfl,⟨v1,rfl⟩,rfl⟩ kM
      obtain ⟨z,hzj,rfl⟩:=map_get hd2
      have hjl:=(List.getElem?_eq_some_iff.mp hzj).1
      have hlen : (prl (ys.take i) zs).length≤32 * 32:=by
        rw [prl_len,List.length_take]
        exact Nat.mul_le_mul (by omega) hz
      walk_at "ab"
      refine ⟨Nat.lt_of_le_of_lt (m:=2000) (by rw [List.length_take];omega) (by decide),kM _ _ _ ⟨rfl,⟨_,rfl⟩,?_⟩⟩
      rw [List.take_succ,hzj]
      simp [prD]
    · rintro xs ρ ω'' ⟨rfl,⟨v1,rfl⟩,rfl⟩
      rw [List.length_map,List.take_length]
      exact kN _ _ _ ⟨rfl,⟨_,_,rfl⟩,by rw [prl_take hyi]⟩
  · rintro xs ρ ω' ⟨rfl,⟨v0,v1,rfl⟩,rfl⟩
    rw [List.length_map,List.take_length,und_map]
    refine ⟨_,rfl,?_⟩
    rw [only_self]
    exact k
def fau (b : Bool) (u : Ta) (p : List Int × List Int) : Bool:=!ppB b p.1 p.2 (Ta.fin p.1 p.2 u).toNat
def fauD (u : Ta) : Option (List Int × List Int)→D
  | some p=>.tup [wdD p.1,wdD p.2,.int (Ta.fin p.1 p.2 u)]
  | none=>.non
def faultD (b : Bool) (ys zs : List (List Int)) (u : Ta) : D:=fauD u ((prl ys zs).find? (fau b u))
def preF (pl : Nat) (ys zs : List (List Int)) (u : Ta) : Prop:=pl≤5∧u.ok pl∧u.dp≤900∧Wds pl ys∧Wds pl zs
def sp_fault : ASp:=fun xs ω Q=>∃ (b : Bool) (pl : Nat) (ys zs : List (List Int)) (u : Ta),xs = [.d (csD pl ys zs),.d (.str (rl b)),.d u.d]∧preF pl ys zs u∧Q (.d (faultD b ys zs u)) ω
theorem ok_fault (T : Txt K mg t) : FnOk P w K mg base CX0 2 t.a_fault t.d_fault ["case","rule","talk"] (lift sp_fault):=by
  have G_pairs_in : FnOk P w K mg base CX0 1 t.a_pairs_in t.d_pairs_in ["case"] (lift sp_pairs):=ok_pairs T
  have G_spoken : FnOk P w K mg base CX0 1 t.a_spoken t.d_spoken ["talk","yes","no"] (lift sp_spoken):=ok_spoken T
  have G_parts_pair : FnOk P w K mg base CX0 1 t.a_parts_pair t.d_parts_pair ["rule","place","yes","no"] (lift sp_pp):=ok_pp T
  refine T.f_fault.okD sc_fault (fun xs ω Q h=>by obtain ⟨b,pl,ys,zs,u,rfl,_⟩:=h;rfl) (fun cdv A outer s H E hr=>⟨_,_,(pss_cons (ps_for PassesOwn.never rfl (pi_seq K rfl (pe_call G_pairs_in (hr.mono (by omega)) (by rfl) T.m_pairs_in T.k_pairs_in T.p_pairs_in .nil pass0 (pa_cons (pv 0) pa_nil))) (pg_tupK K rfl (n:=2) rfl (pgs_cons (pg_name (i:=3) sc_fault.nd rfl (Or.inl rfl)) (pgs_cons (pg_name (i:=4) sc_fault.nd rfl (Or.inl rfl)) pgs_nil))) (pss_cons (ps_set (i:=5) sc_fault.nd rfl (Or.inl rfl) (pe_ix (ix_seqK K rfl) (pe_call G_spoken (hr.mono (by omega)) (by rfl) T.m_spoken T.k_spoken T.p_spoken .nil pass0 (pa_cons (pv 2) (pa_cons (pv 3) (pa_cons (pv 4) pa_nil)))) pe_int (fun _ _=>rfl)))
      (pss_one (ps_if (pt_not (pt_truthK K rfl (pe_call G_parts_pair (hr.mono (by omega)) (by rfl) T.m_parts_pair T.k_parts_pair T.p_parts_pair .nil pass0 (pa_cons (pv 1) (pa_cons (pv 5) (pa_cons (pv 3) (pa_cons (pv 4) pa_nil))))) (fun _=>rfl))) (pss_one (ps_ret (pe_tup (pa_cons (pv 3) (pa_cons (pv 4) (pa_cons (pv 5) pa_nil)))))) pss_nil))))
      (pss_one (ps_ret pe_non))),(s_seq (s_for (i_seq (e_call (a_cons e_var a_nil))) (g_tup (g_cons g_name (g_cons g_name g_nil))) (s_seq (s_asg (e_op o_ix (e_call (a_cons e_var (a_cons e_var (a_cons e_var a_nil)))) e_int) g_name)
      (s_if (t_not (t_tru (e_call (a_cons e_var (a_cons e_var (a_cons e_var (a_cons e_var a_nil))))))) (s_ret (e_tup (a_cons e_var (a_cons e_var (a_cons e_var a_nil))))) s_next)))
      (s_ret e_non)),fun xs ω Q h=>?_⟩)
  obtain ⟨b,pl,ys,zs,u,rfl,⟨hpl,hu,hd,hy,hz⟩,k⟩:=h
  walk_at "ab"
  refine ⟨pl,ys,zs,rfl,hy.le hpl,hz.le hpl,?_⟩
  walk_at "ab"
  refine for_D (fun i ρ ω'=>ω' = ω∧(∃ v3 v4 v5,ρ = [some (.d (csD pl ys zs)),some (.d (.str (rl b))),some (.d u.d),v3,v4,v5])∧∀ p∈(prl ys zs).take i,fau b u p = false) ⟨rfl,⟨_,_,_,rfl⟩,by simp⟩ ?_ ?_
  · rintro i d ρ ω' N hd' ⟨rfl,⟨v3,v4,v5,rfl⟩,hf⟩ kN
    obtain ⟨⟨y,z⟩,hp,rfl⟩:=map_get hd'
    obtain ⟨my,mz⟩:=prl_mem (List.mem_of_getElem? hp)
    have ly:=(wl_mem (hy.2 y my)).1
    have lz:=(wl_mem (hz.2 z mz)).1
    obtain ⟨f0,f1⟩:=Ta.fin_ok (y:=y) (n:=z) hu
    simp only [prD]
    walk_at "ab"
    refine ⟨u,y,z,pl,rfl,hu,hd,?_⟩
    simp only [outD]
    walk_at "ab"
    refine ⟨b,_,y,z,rfl,f0,by omega,by omega,?_⟩
    walk_at "ab"
    cases hb : ppB b y z (Ta.fin y z u).toNat with
    | true =>
      walk_at "ab"
      refine kN _ _ ⟨rfl,⟨_,_,_,rfl⟩,fun p hp'=>?_⟩
      rw [List.take_succ,hp] at hp'
      rcases List.mem_append.mp hp' with h | h
      · exact hf p h
      · simp at h;subst h;simp [fau,hb]
    | false =>
      walk_at "ab"
      have : (prl ys zs).find? (fau b u) = some (y,z):=by
        rw [List.find?_eq_some_iff_append]
        obtain ⟨hi,e⟩:=List.getElem?_eq_some_iff.mp hp
        refine ⟨by simp [fau,hb],(prl ys zs).take i,(prl ys zs).drop (i + 1),?_,fun p h=>by simp [hf p h]⟩
        rw [← e,← List.drop_eq_getElem_cons hi,List.take_append_drop]
      rw [only_self]
      unfold faultD at k
      rw [this] at k
      exact k
  · rintro ρ ω' ⟨rfl,⟨v3,v4,v5,rfl⟩,hf⟩
    rw [List.length_map,List.take_length] at hf
    have : (prl ys zs).find? (fau b u) = none:=by
      rw [List.find?_eq_none]
      intro p h
      simp [hf p h]
    walk_at "ab"
    rw [only_self]
    unfold faultD at k
    rw [this] at k
    exact k
def sp_lets : ASp:=fun xs ω Q=>∃ (b : Bool) (pl : Nat) (ys zs : List (List Int)) (u : Ta),xs = [.d (csD pl ys zs),.d (.str (rl b)),.d u.d]∧preF pl ys zs u∧Q (.d (.bl ((prl ys zs).find? (fau b u)).isNone)) ω
theorem ok_lets (T : Txt K mg t) : FnOk P w K mg base CX0 3 t.a_lets_by t.d_lets_by ["case","rule","talk"] (lift sp_lets):=by
  have G_fault : FnOk P w K mg base CX0 2 t.a_fault t.d_fault ["case","rule","talk"] (lift sp_fault):=ok_fault T
  refine T.f_lets_by.okD sc_lets_by (fun xs ω Q h=>by obtain ⟨b,pl,ys,zs,u,rfl,_⟩:=h;rfl) (fun cdv A outer s H E hr=>⟨_,_,(pss_one (ps_ret (pe_cmpR op_isN (pe_call G_fault (hr.mono (by omega)) (by rfl) T.m_fault T.k_fault T.p_fault .nil pass0 (pa_cons (pv 0) (pa_cons (pv 1) (pa_cons (pv 2) pa_nil)))) pe_non (nomark _)))),(s_ret (e_op o_isN (e_call (a_cons e_var (a_cons e_var (a_cons e_var a_nil)))) e_non)),fun xs ω Q h=>?_⟩)
  obtain ⟨b,pl,ys,zs,u,rfl,hp,k⟩:=h
  walk_at "ab"
  refine ⟨b,pl,ys,zs,u,rfl,hp,?_⟩
  unfold faultD
  cases e : (prl ys zs).find? (fau b u) with
  | none=>simp only [fauD];walk_at "ab";rw [only_self];rw [e] at k;exact k
  | some p=>simp only [fauD];walk_at "ab";rw [only_self];rw [e] at k;exact k
end
section
variable {P : Program} {w : World} {K : PySem.W.Frag} {mg : Str→Option Value} {base : Heap} {t : Adr}
abbrev WW:=List (List Int) × List (List Int)
def goF (h : Bool) (ws : List (List Int)) (q : WW) : WW:=if h then (q.1.filter fun v=>!decide (v∈ws),q.2) else (q.1,q.2.filter fun v=>!decide (v∈ws))
def goS (h : Bool) (ws : List (List Int)) (q : WW) : WW:=if h then (q.1.filter fun v=>decide (v∈ws),q.2) else (q.1,q.2.filter fun v=>decide (v∈ws))
def wwD (q : WW) : D:=.tup [.tup (q.1.map wdD),.tup (q.2.map wdD)]
def Ww (n : Nat) (q : WW) : Prop:=Wds n q.1∧Wds n q.2
theorem Ww.f {n : Nat} {q : WW} {h : Bool} {ws : List (List Int)} (x : Ww n q) : Ww n (goF h ws q):=by
  unfold goF
  cases h<;>simp only [if_true,if_false,Bool.false_eq_true]
  · exact ⟨x.1,wds_filter x.2 _⟩
  · exact ⟨wds_filter x.1 _,x.2⟩
theorem Ww.s {n : Nat} {q : WW} {h : Bool} {ws : List (List Int)} (x : Ww n q) : Ww n (goS h ws q):=by
  unfold goS
  cases h<;>simp only [if_true,if_false,Bool.false_eq_true]
  · exact ⟨x.1,wds_filter x.2 _⟩
  · exact ⟨wds_filter x.1 _,x.2⟩
def sp_went : ASp:=fun xs ω Q=>∃ (h : Bool) (ws : List (List Int)) (a b : D) (q : WW) (n : Nat),xs = [.d (.tup [.str (if h then "yes" else "no"),.tup (ws.map wdD),a,b]),.d (.tup (q.1.map wdD)),.d (.tup (q.2.map wdD))]∧n≤5∧Ww n q∧Q (.d (.tup [wwD (goF h ws q),wwD (goS h ws q)])) ω
theorem ok_went (T : Txt K mg t) : FnOk P w K mg base CX0 1 t.a_went_on t.d_went_on ["turn","yes","no"] (lift sp_went):=by
  refine T.f_went_on.okD sc_went_on (fun xs ω Q h=>by obtain ⟨h,ws,a,b,q,n,rfl,_⟩:=h;rfl) (fun cdv A outer s H E hr=>⟨_,_,(pss_cons (ps_set (i:=3) sc_went_on.nd rfl (Or.inl rfl) (pe_ifExp (pt_cmpR (op_eqD hr.u100) (pe_ix (ix_seqK K rfl) (pv 0) pe_int (fun _ _=>rfl)) pe_str (nomark _)) (pv 1) (pv 2)))
      (pss_cons (ps_set (i:=4) sc_went_on.nd rfl (Or.inl rfl) (pe_callTy (call_tuple_ofK K rfl) (by rfl) T.b_tuple (by kernel_rfl) (pa_cons (pe_comp (N:=(["word","turn"] : List Str)) (src:=[none,some 0]) rfl (by show blkOk _ (defScope s_went_on) _ _ (["turn","yes","no","own","silent","loud"] : List Str) = true;decide +kernel) (by intro g' h;cases h) (pi_seq K rfl (pv 3)) (fun _ _ _ _ _ _=>(pg_name (i:=0) (show (["word","turn"] : List Str).Nodup by decide +kernel) rfl (Or.inl rfl))) (fun _ _ _ _ _ _=>(pts_one (pt_cmpR (op_notInD hr.u100) (pv 0) (pe_ix (ix_seqK K rfl) (pv 1) pe_int (fun _ _=>rfl)) (by with_unfolding_all rfl)))) (fun _ _ _ _ _ _=>(pl_last rfl rfl (pv 0)))) pa_nil)))
      (pss_cons (ps_set (i:=5) sc_went_on.nd rfl (Or.inl rfl) (pe_callTy (call_tuple_ofK K rfl) (by rfl) T.b_tuple (by kernel_rfl) (pa_cons (pe_comp (N:=(["word","turn"] : List Str)) (src:=[none,some 0]) rfl (by show blkOk _ (defScope s_went_on) _ _ (["turn","yes","no","own","silent","loud"] : List Str) = true;decide +kernel) (by intro g' h;cases h) (pi_seq K rfl (pv 3)) (fun _ _ _ _ _ _=>(pg_name (i:=0) (show (["word","turn"] : List Str).Nodup by decide +kernel) rfl (Or.inl rfl))) (fun _ _ _ _ _ _=>(pts_one (pt_cmpR (op_inD hr.u100) (pv 0) (pe_ix (ix_seqK K rfl) (pv 1) pe_int (fun _ _=>rfl)) (by with_unfolding_all rfl)))) (fun _ _ _ _ _ _=>(pl_last rfl rfl (pv 0)))) pa_nil)))
      (pss_cons (ps_if (pt_cmpR (op_eqD hr.u100) (pe_ix (ix_seqK K rfl) (pv 0) pe_int (fun _ _=>rfl)) pe_str (nomark _)) (pss_one (ps_ret (pe_tup (pa_consT (pe_tup (pa_cons (pv 4) (pa_cons (pv 2) pa_nil))) (pa_consT (pe_tup (pa_cons (pv 5) (pa_cons (pv 2) pa_nil))) pa_nil))))) pss_nil)
      (pss_one (ps_ret (pe_tup (pa_consT (pe_tup (pa_cons (pv 1) (pa_cons (pv 4) pa_nil))) (pa_consT (pe_tup (pa_cons (pv 1) (pa_cons (pv 5) pa_nil))) pa_nil))))))))),(s_seq (s_asg (e_if (t_test (e_op o_eqD (e_op o_ix e_var e_int) e_str)) e_var e_var) g_name)
      (s_seq (s_asg (e_cb c_tuple (a_cons (e_comp (i_seq e_var) g_name (t_test (e_op o_in e_var (e_op o_ix e_var e_int))) (l_last e_var)) a_nil)) g_name)
      (s_seq (s_asg (e_cb c_tuple (a_cons (e_comp (i_seq e_var) g_name (t_test (e_op o_in e_var (e_op o_ix e_var e_int))) (l_last e_var)) a_nil)) g_name)
      (s_seq (s_if (t_test (e_op o_eqD (e_op o_ix e_var e_int) e_str)) (s_ret (e_tup (a_cons (e_tup (a_cons e_var (a_cons e_var a_nil))) (a_cons (e_tup (a_cons e_var (a_cons e_var a_nil))) a_nil)))) s_next)
      (s_ret (e_tup (a_cons (e_tup (a_cons e_var (a_cons e_var a_nil))) (a_cons (e_tup (a_cons e_var (a_cons e_var a_nil))) a_nil)))))))),fun xs ω Q h=>?_⟩)
  obtain ⟨h,ws,a,b,q,n,rfl,hn,hq,k⟩:=h
  have h1:=hq.1.le hn
  have h2:=hq.2.le hn
  have hd:=deps_wds ws
  have cmp : ∀ (ys : List (List Int)) (neg : Bool) (K' : List AV→SA→Om→Prop) (v0 : Option AV) (sd : D),ys.length≤32→(∀ ρ,K' (((ys.filter fun v=>if neg then !decide (v∈ws) else decide (v∈ws)).map wdD).map AV.d) ρ ω) →
      aLoop (agName 0) (aTest (aOp (aIn neg) (aVar 0) (aOp aIx (aVar 1) (aC (D.int 1))))) (aLast (aVar 0)) ((ys.map wdD).map AV.d) [] [v0,some (.d (.tup [sd,.tup (ws.map wdD),a,b]))] ω K':=fun ys neg K' v0 sd hl hk=>by
    refine comp_fm (fun d=>if neg then !inD d (ws.map wdD) else inD d (ws.map wdD)) id (fun d hd' Q q=>?_) (fun d hd' _ Q q=>?_) (le_dec (m:=0) (by rw [List.length_map];omega)) (fun ρ=>?_)
    · walk_at "ab"
      exact ⟨by omega,q⟩
    · walk_at "ab"
      exact q
    · have : ((ys.map wdD).filter fun d=>if neg then !inD d (ws.map wdD) else inD d (ws.map wdD)).map id = (ys.filter fun v=>if neg then !decide (v∈ws) else decide (v∈ws)).map wdD:=by
        rw [List.map_id,List.filter_map]
        congr 2
        funext v
        simp [inD_wd]
      rw [this]
      exact hk ρ
  cases h<;>simp only [goF,goS,if_true,if_false,Bool.false_eq_true,wwD] at k ⊢<;>walk_at "ab"
  · refine cmp q.2 true _ _ _ h2 fun ρ=>⟨_,und_map _,?_⟩
    walk_at "ab"
    refine cmp q.2 false _ _ _ h2 fun ρ=>⟨_,und_map _,?_⟩
    walk_at "ab"
    rw [only_self]
    exact k
  · refine cmp q.1 true _ _ _ h1 fun ρ=>⟨_,und_map _,?_⟩
    walk_at "ab"
    refine cmp q.1 false _ _ _ h1 fun ρ=>⟨_,und_map _,?_⟩
    walk_at "ab"
    rw [only_self]
    exact k
structure En where
  bits : List Int
  at_ : Int
  q : WW
def En.d (e : En) : D:=.tup [.lst (e.bits.map D.int),.int e.at_,.tup (e.q.1.map wdD),.tup (e.q.2.map wdD)]
def endsL (bs : List Int) (q : WW) : Ta→List En
  | .en i=>[⟨bs,i,q⟩]
  | .nd h ws a b=>endsL (bs ++ [0]) (goF h ws q) a ++ endsL (bs ++ [1]) (goS h ws q) b
structure Wt where
  bits : List Int
  u : Ta
  q : WW
def Wt.d (e : Wt) : D:=.tup [.lst (e.bits.map D.int),e.u.d,.tup (e.q.1.map wdD),.tup (e.q.2.map wdD)]
def Wt.ends (e : Wt) : List En:=endsL e.bits e.q e.u
def wsz : List Wt→Nat
  | []=>0
  | e :: r=>e.u.size + wsz r
theorem wsz_append : ∀ a b : List Wt,wsz (a ++ b) = wsz a + wsz b
  | [],b=>by simp [wsz]
  | e :: a,b=>by simp only [List.cons_append,wsz,wsz_append a b];omega
theorem wsz_len : ∀ a : List Wt,a.length≤wsz a
  | []=>by simp [wsz]
  | e :: a=>by
    have:=wsz_len a
    have : 1≤e.u.size:=by cases e.u<;>simp only [Ta.size]<;>omega
    simp only [wsz,List.length_cons];omega
theorem endsL_len : ∀ (u : Ta) (bs : List Int) (q : WW),(endsL bs q u).length = u.lvs
  | .en i,_,_=>rfl
  | .nd h ws a b,bs,q=>by simp only [endsL,List.length_append,endsL_len a,endsL_len b,Ta.lvs]
def okW (n : Nat) (m : Nat) (e : Wt) : Prop:=e.u.ok n∧Ww n e.q∧e.bits.length + e.u.dp≤m
def sp_ends : ASp:=fun xs ω Q=>∃ (n : Nat) (q : WW) (u : Ta),xs = [.d (csD n q.1 q.2),.d u.d]∧n≤5∧Ww n q∧u.ok n∧u.dp≤400∧u.size≤400∧Q (.d (.lst ((endsL [] q u).map En.d))) ω
theorem ok_ends (T : Txt K mg t) : FnOk P w K mg base CX0 2 t.a_ends_of t.d_ends_of ["case","talk"] (lift sp_ends):=by
  have G_went_on : FnOk P w K mg base CX0 1 t.a_went_on t.d_went_on ["turn","yes","no"] (lift sp_went):=ok_went T
  refine T.f_ends_of.okD sc_ends_of (fun xs ω Q h=>by obtain ⟨n,q,u,rfl,_⟩:=h;rfl) (fun cdv A outer s H E hr=>⟨_,_,(pss_cons (ps_set (i:=2) sc_ends_of.nd rfl (Or.inl rfl) (pe_lst pa_nil))
      (pss_cons (ps_set (i:=3) sc_ends_of.nd rfl (Or.inl rfl) (pe_lst (pa_consT (pe_tup (pa_consL (pe_lst pa_nil) (pa_cons (pv 1) (pa_cons (pe_ix (ix_seqK K rfl) (pv 0) pe_int (fun _ _=>rfl)) (pa_cons (pe_ix (ix_seqK K rfl) (pv 0) pe_int (fun _ _=>rfl)) pa_nil))))) pa_nil)))
      (pss_cons (ps_while PassesOwn.never (pt_truthK K rfl (pv 3) (fun _=>rfl)) (pss_cons (ps_asg (pe_bm0 PySem.F.plainAttrs_list PySem.F.slot_list_pop PySem.F.type_list_pop mt_pop (pv 3)) (pg_tupK K rfl (n:=4) rfl (pgs_cons (pg_name (i:=4) sc_ends_of.nd rfl (Or.inl rfl)) (pgs_cons (pg_name (i:=5) sc_ends_of.nd rfl (Or.inl rfl)) (pgs_cons (pg_name (i:=6) sc_ends_of.nd rfl (Or.inl rfl)) (pgs_cons (pg_name (i:=7) sc_ends_of.nd rfl (Or.inl rfl)) pgs_nil))))))
      (pss_one (ps_if (pt_cmpR (op_eqD hr.u100) (pe_ix (ix_seqK K rfl) (pv 5) pe_int (fun _ _=>rfl)) pe_str (nomark _)) (pss_one (ps_expr (pe_bm PySem.F.plainAttrs_list PySem.F.slot_list_append PySem.F.type_list_append mt_append (pv 2) (pa_consT (pe_tup (pa_cons (pv 4) (pa_cons (pe_ix (ix_seqK K rfl) (pv 5) pe_int (fun _ _=>rfl)) (pa_cons (pv 6) (pa_cons (pv 7) pa_nil))))) pa_nil)))) (pss_cons (ps_asg (pe_call G_went_on (hr.mono (by omega)) (by rfl) T.m_went_on T.k_went_on T.p_went_on .nil pass0 (pa_cons (pv 5) (pa_cons (pv 6) (pa_cons (pv 7) pa_nil)))) (pg_tupK K rfl (n:=2) rfl (pgs_cons (pg_name (i:=8) sc_ends_of.nd rfl (Or.inl rfl)) (pgs_cons (pg_name (i:=9) sc_ends_of.nd rfl (Or.inl rfl)) pgs_nil))))
      (pss_cons (ps_expr (pe_bm PySem.F.plainAttrs_list PySem.F.slot_list_append PySem.F.type_list_append mt_append (pv 3) (pa_consT (pe_tup (pa_cons (pe_op (op_alt op_add (op_alt op_cat3 op_cat)) (pv 4) (pe_lst (pa_consC pe_int pa_nil))) (pa_cons (pe_ix (ix_seqK K rfl) (pv 5) pe_int (fun _ _=>rfl)) (pa_cons (pe_ix (ix_seqK K rfl) (pv 9) pe_int (fun _ _=>rfl)) (pa_cons (pe_ix (ix_seqK K rfl) (pv 9) pe_int (fun _ _=>rfl)) pa_nil))))) pa_nil)))
      (pss_one (ps_expr (pe_bm PySem.F.plainAttrs_list PySem.F.slot_list_append PySem.F.type_list_append mt_append (pv 3) (pa_consT (pe_tup (pa_cons (pe_op (op_alt op_add (op_alt op_cat3 op_cat)) (pv 4) (pe_lst (pa_consC pe_int pa_nil))) (pa_cons (pe_ix (ix_seqK K rfl) (pv 5) pe_int (fun _ _=>rfl)) (pa_cons (pe_ix (ix_seqK K rfl) (pv 8) pe_int (fun _ _=>rfl)) (pa_cons (pe_ix (ix_seqK K rfl) (pv 8) pe_int (fun _ _=>rfl)) pa_nil))))) pa_nil))))))))))
      (pss_one (ps_ret (pv 2)))))),(s_seq (s_asg (e_lstO a_nil) g_name)
      (s_seq (s_asg (e_lstO (a_cons (e_tup (a_cons (e_lst a_nil) (a_cons e_var (a_cons (e_op o_ix e_var e_int) (a_cons (e_op o_ix e_var e_int) a_nil))))) a_nil)) g_name)
      (s_seq (s_while (t_tru e_var) (s_seq (s_asg (e_pop e_var) (g_tup (g_cons g_name (g_cons g_name (g_cons g_name (g_cons g_name g_nil))))))
      (s_if (t_test (e_op o_eqD (e_op o_ix e_var e_int) e_str)) (s_drop (e_append e_var (a_cons (e_tup (a_cons e_var (a_cons (e_op o_ix e_var e_int) (a_cons e_var (a_cons e_var a_nil))))) a_nil))) (s_seq (s_asg (e_call (a_cons e_var (a_cons e_var (a_cons e_var a_nil)))) (g_tup (g_cons g_name (g_cons g_name g_nil))))
      (s_seq (s_drop (e_append e_var (a_cons (e_tup (a_cons (e_op o_add e_var (e_lst (a_cons e_int a_nil))) (a_cons (e_op o_ix e_var e_int) (a_cons (e_op o_ix e_var e_int) (a_cons (e_op o_ix e_var e_int) a_nil))))) a_nil)))
      (s_drop (e_append e_var (a_cons (e_tup (a_cons (e_op o_add e_var (e_lst (a_cons e_int a_nil))) (a_cons (e_op o_ix e_var e_int) (a_cons (e_op o_ix e_var e_int) (a_cons (e_op o_ix e_var e_int) a_nil))))) a_nil))))))))
      (s_ret e_varF)))),fun xs ω Q h=>?_⟩)
  obtain ⟨n,q,u,rfl,hn,hq,hu,hdp,hsz,k⟩:=h
  simp only [csD]
  walk_at "ab"
  intro l1 hl1 l2 hl2
  obtain ⟨n21,hl2⟩:=put_free hl2
  have n12:=Ne.symm n21
  obtain ⟨Pv,iP⟩:=invA fun j ρ ω'=>∃ (W : List Wt) (es : List En) (v4 v5 v6 v7 v8 v9 : Option AV),ρ = [some (.d (csD n q.1 q.2)),some (.d u.d),some (.r (.ref l1)),some (.r (.ref l2)),v4,v5,v6,v7,v8,v9]∧ω' = om2 ω l1 l2 (.own ((es.map En.d).map AV.d)) (.own ((W.map Wt.d).map AV.d))∧(∀ e∈W,okW n u.dp e) ∧
    es ++ (W.reverse.flatMap Wt.ends) = endsL [] q u∧es.length + wsz W≤u.size∧j = wsz W
  refine ⟨Pv,⟨_,(iP _ _ _).mpr ⟨[⟨[],u,q⟩],[],_,_,_,_,_,_,rfl,rfl,by simpa [okW] using ⟨hu,hq⟩,by simp [Wt.ends],by simp [wsz],rfl⟩⟩,fun j ρ ω' h=>?_⟩
  obtain ⟨W,es,v4,v5,v6,v7,v8,v9,rfl,rfl,hW,hE,hS,rfl⟩:=(iP _ _ _).mp h
  clear h
  rcases List.eq_nil_or_concat W with rfl | ⟨W',e,rfl⟩
  · simp only [List.map_nil]
    walk_at "ab"
    simp only [om2_l]
    walk_at "ab"
    simp only [List.isEmpty_nil]
    walk_at "ab"
    simp only [om2_p n12]
    walk_at "ab"
    simp only [List.reverse_nil,List.flatMap_nil,List.append_nil] at hE
    subst hE
    rw [only_ex]
    · exact k
    · exact ((Ex.refl ω).over hl1).over hl2 |>.over hl1
  · rw [List.concat_eq_append] at hW hE hS ⊢
    have hWl:=wsz_len W'
    rw [wsz_append] at hS
    simp only [List.map_append,List.map_cons,List.map_nil]
    obtain ⟨bs,u2,q2⟩:=e
    obtain ⟨hu2,hq2,hb2⟩:=hW _ (List.mem_append_right _ (List.mem_singleton.mpr rfl))
    have hW' : ∀ e∈W',okW n u.dp e:=fun e he=>hW e (List.mem_append_left _ he)
    simp only [List.reverse_append,List.reverse_cons,List.reverse_nil,List.nil_append,List.flatMap_append,List.flatMap_cons,List.flatMap_nil,List.append_nil,Wt.ends,List.cons_append] at hE
    simp only [Wt.d]
    cases u2 with
    | en i =>
      simp only [Ta.d]
      walk_at "ab"
      simp only [om2_l,om2_pl]
      walk_at "ab"
      simp only [om2_p n12,om2_pp n12]
      walk_at "ab"
      refine ⟨Pv (wsz W'),fun ρ' ω' h=>⟨_,by rw [wsz_append];simp [wsz,Ta.size],h⟩,lt_dec (m:=0) (by omega),?_⟩
      refine (iP _ _ _).mpr ⟨W',es ++ [⟨bs,i,q2⟩],_,_,_,_,_,_,rfl,by simp [En.d],hW',?_,?_,rfl⟩
      · rw [← hE];simp [endsL]
      · simp [wsz,Ta.size] at hS ⊢;omega
    | nd hh ws a b =>
      simp only [Ta.d]
      have hE2 : ¬ (if hh then ("yes" : Str) else ("no" : Str)) = "end":=by cases hh<;>decide +kernel
      walk_at "ab"
      simp only [om2_l,om2_pl]
      walk_at "ab"
      simp only [hE2,if_false]
      refine ⟨Pv (wsz (W' ++ [⟨bs ++ [1],b,goS hh ws q2⟩,⟨bs ++ [0],a,goF hh ws q2⟩])),fun ρ' ω' h=>⟨_,by rw [wsz_append,wsz_append];simp only [wsz,Ta.size];omega,h⟩,hh,ws,a.d,b.d,q2,n,rfl,hn,hq2,?_⟩
      have hb3 : bs.length + (Ta.nd hh ws a b).dp≤u.dp:=hb2
      simp only [Ta.dp] at hb3
      have hbl : bs.length≤400:=by omega
      simp only [wwD]
      walk_at "ab"
      simp only [om2_l,om2_pl]
      walk_at "ab"
      have hsz2 : W'.length + 1 < sizeLine:=lt_dec (m:=0) (by omega)
      refine ⟨le_dec (m:=0) (by omega),lt_dec (m:=0) (by omega),le_dec (m:=0) (by omega),?_⟩
      refine ⟨hsz2,?_⟩
      refine (iP _ _ _).mpr ⟨W' ++ [⟨bs ++ [1],b,goS hh ws q2⟩,⟨bs ++ [0],a,goF hh ws q2⟩],es,_,_,_,_,_,_,rfl,by simp [Wt.d],?_,?_,?_,rfl⟩
      · intro e he
        rcases List.mem_append.mp he with h | h
        · exact hW' e h
        · rcases List.mem_cons.mp h with rfl | h
          · exact ⟨hu2.2.2,hq2.s,by simp only [List.length_append,List.length_cons,List.length_nil];omega⟩
          · rw [List.mem_singleton.mp h]
            exact ⟨hu2.2.1,hq2.f,by simp only [List.length_append,List.length_cons,List.length_nil];omega⟩
      · rw [← hE];simp [endsL,Wt.ends]
      · rw [wsz_append];simp only [wsz,Ta.size] at hS ⊢;omega
end
section
variable {P : Program} {w : World} {K : PySem.W.Frag} {mg : Str→Option Value} {base : Heap} {t : Adr}
def has (q : WW) : Bool:=!q.1.isEmpty && !q.2.isEmpty
def sp_has : ASp:=fun xs ω Q=>∃ q : WW,xs = [.d (wwD q)]∧Q (.d (.bl (has q))) ω
theorem ok_has (T : Txt K mg t) : FnOk P w K mg base CX0 1 t.a_has_pairs t.d_has_pairs ["words"] (lift sp_has):=by
  refine T.f_has_pairs.okD sc_has_pairs (fun xs ω Q h=>by obtain ⟨q,rfl,_⟩:=h;rfl) (fun cdv A outer s H E hr=>⟨_,_,(pss_one (ps_ret (pe_andG K rfl (pe_cmpR op_gt (pe_callB (call_lenK K rfl) (by rfl) T.b_len (by kernel_rfl) (pa_cons (pe_ix (ix_seqK K rfl) (pv 0) pe_int (fun _ _=>rfl)) pa_nil)) pe_int (nomark _)) (pe_one (pe_cmpR op_gt (pe_callB (call_lenK K rfl) (by rfl) T.b_len (by kernel_rfl) (pa_cons (pe_ix (ix_seqK K rfl) (pv 0) pe_int (fun _ _=>rfl)) pa_nil)) pe_int (nomark _)))))),(s_ret (e_andG (e_op o_I0b (e_cb c_len (a_cons (e_op o_ix e_var e_int) a_nil)) e_int) (e_op o_I0b (e_cb c_len (a_cons (e_op o_ix e_var e_int) a_nil)) e_int))),fun xs ω Q h=>?_⟩)
  obtain ⟨q,rfl,k⟩:=h
  simp only [wwD]
  walk_at "ab"
  rw [only_self]
  have e1 : ∀ ws : List (List Int),(decide (0 < (ws.length : Int))) = !ws.isEmpty:=fun ws=>by cases ws<;>simp<;>omega
  by_cases h : 0 < (q.1.length : Int)
  · rw [if_pos h]
    have e : (!q.1.isEmpty) = true:=by rw [← e1];exact decide_eq_true h
    unfold has at k
    rw [e,Bool.true_and,← e1] at k
    exact k
  · rw [if_neg h]
    have e : (!q.1.isEmpty) = false:=by rw [← e1];exact decide_eq_false h
    unfold has at k
    rw [e,Bool.false_and] at k
    rw [decide_eq_false h]
    exact k
def cutT : Ta→WW→Ta
  | .en i,_=>.en i
  | .nd h ws a b,q=>if has (goF h ws q) then (if has (goS h ws q) then .nd h ws (cutT a (goF h ws q)) (cutT b (goS h ws q)) else cutT a q) else cutT b q
def keptL : Ta→WW→List Ta
  | .en i,_=>[.en i]
  | .nd h ws a b,q=>if has (goF h ws q) then (if has (goS h ws q) then .nd h ws a b :: (keptL b (goS h ws q) ++ keptL a (goF h ws q)) else keptL a q) else keptL b q
theorem keptL_len : ∀ (u : Ta) (q : WW),(keptL u q).length≤u.size
  | .en i,_=>Nat.le_refl _
  | .nd h ws a b,q=>by
    have h1:=keptL_len a q
    have h2:=keptL_len b q
    have h3:=keptL_len a (goF h ws q)
    have h4:=keptL_len b (goS h ws q)
    simp only [keptL,Ta.size]
    split
    · split
      · simp;omega
      · omega
    · omega
theorem cutT_ok {n : Nat} : ∀ {u : Ta} (q : WW),u.ok n→(cutT u q).ok n∧(cutT u q).dp≤u.dp∧(cutT u q).size≤u.size
  | .en i,_,h=>⟨h,Nat.le_refl _,Nat.le_refl _⟩
  | .nd hh ws a b,q,h=>by
    obtain ⟨a1,a2,a3⟩:=cutT_ok (goF hh ws q) h.2.1
    obtain ⟨b1,b2,b3⟩:=cutT_ok (goS hh ws q) h.2.2
    obtain ⟨c1,c2,c3⟩:=cutT_ok q h.2.1
    obtain ⟨d1,d2,d3⟩:=cutT_ok q h.2.2
    simp only [cutT,Ta.dp,Ta.size]
    split
    · split
      · exact ⟨⟨h.1,a1,b1⟩,by simp only [Ta.dp];omega,by simp only [Ta.size];omega⟩
      · exact ⟨c1,by omega,by omega⟩
    · exact ⟨d1,by omega,by omega⟩
def work : List Ta→List Ta→List Ta
  | [],st=>st
  | .en i :: r,st=>work r (st ++ [.en i])
  | .nd h ws _ _ :: r,st=>match st.reverse with
    | y :: x :: rest=>work r (rest.reverse ++ [.nd h ws x y])
    | _=>[]
theorem work_kept : ∀ (u : Ta) (q : WW) (r st : List Ta),work ((keptL u q).reverse ++ r) st = work r (st ++ [cutT u q])
  | .en i,_,r,st=>by simp [keptL,work,cutT]
  | .nd h ws a b,q,r,st=>by
    simp only [keptL,cutT]
    split
    · split
      · simp only [List.reverse_cons,List.reverse_append,List.append_assoc,List.singleton_append,List.cons_append,List.nil_append]
        rw [work_kept a,work_kept b]
        simp [work]
      · exact work_kept a q r st
    · exact work_kept b q r st
structure Wc where
  u : Ta
  q : WW
def Wc.d (e : Wc) : D:=.tup [e.u.d,.tup (e.q.1.map wdD),.tup (e.q.2.map wdD)]
def wcs : List Wc→Nat
  | []=>0
  | e :: r=>e.u.size + wcs r
theorem wcs_append : ∀ a b : List Wc,wcs (a ++ b) = wcs a + wcs b
  | [],b=>by simp [wcs]
  | e :: a,b=>by simp only [List.cons_append,wcs,wcs_append a b];omega
theorem wcs_len : ∀ a : List Wc,a.length≤wcs a
  | []=>by simp [wcs]
  | e :: a=>by
    have:=wcs_len a
    have : 1≤e.u.size:=by cases e.u<;>simp only [Ta.size]<;>omega
    simp only [wcs,List.length_cons];omega
def sp_kept : ASp:=fun xs ω Q=>∃ (n : Nat) (q : WW) (u : Ta),xs = [.d (csD n q.1 q.2),.d u.d]∧n≤5∧Ww n q∧u.ok n∧u.size≤400∧Q (.d (.lst ((keptL u q).reverse.map Ta.d))) ω
theorem ok_kept (T : Txt K mg t) : FnOk P w K mg base CX0 2 t.a_kept_upward t.d_kept_upward ["case","talk"] (lift sp_kept):=by
  have G_went_on : FnOk P w K mg base CX0 1 t.a_went_on t.d_went_on ["turn","yes","no"] (lift sp_went):=ok_went T
  have G_has_pairs : FnOk P w K mg base CX0 1 t.a_has_pairs t.d_has_pairs ["words"] (lift sp_has):=ok_has T
  refine T.f_kept_upward.okD sc_kept_upward (fun xs ω Q h=>by obtain ⟨n,q,u,rfl,_⟩:=h;rfl) (fun cdv A outer s H E hr=>⟨_,_,(pss_cons (ps_set (i:=2) sc_kept_upward.nd rfl (Or.inl rfl) (pe_lst pa_nil))
      (pss_cons (ps_set (i:=3) sc_kept_upward.nd rfl (Or.inl rfl) (pe_lst (pa_consT (pe_tup (pa_cons (pv 1) (pa_cons (pe_ix (ix_seqK K rfl) (pv 0) pe_int (fun _ _=>rfl)) (pa_cons (pe_ix (ix_seqK K rfl) (pv 0) pe_int (fun _ _=>rfl)) pa_nil)))) pa_nil)))
      (pss_cons (ps_while PassesOwn.never (pt_truthK K rfl (pv 3) (fun _=>rfl)) (pss_cons (ps_asg (pe_bm0 PySem.F.plainAttrs_list PySem.F.slot_list_pop PySem.F.type_list_pop mt_pop (pv 3)) (pg_tupK K rfl (n:=3) rfl (pgs_cons (pg_name (i:=4) sc_kept_upward.nd rfl (Or.inl rfl)) (pgs_cons (pg_name (i:=5) sc_kept_upward.nd rfl (Or.inl rfl)) (pgs_cons (pg_name (i:=6) sc_kept_upward.nd rfl (Or.inl rfl)) pgs_nil)))))
      (pss_cons (ps_if (pt_cmpR (op_eqD hr.u100) (pe_ix (ix_seqK K rfl) (pv 4) pe_int (fun _ _=>rfl)) pe_str (nomark _)) (pss_cons (ps_expr (pe_bm PySem.F.plainAttrs_list PySem.F.slot_list_append PySem.F.type_list_append mt_append (pv 2) (pa_cons (pv 4) pa_nil)))
      (pss_one ps_continue)) pss_nil)
      (pss_cons (ps_asg (pe_call G_went_on (hr.mono (by omega)) (by rfl) T.m_went_on T.k_went_on T.p_went_on .nil pass0 (pa_cons (pv 4) (pa_cons (pv 5) (pa_cons (pv 6) pa_nil)))) (pg_tupK K rfl (n:=2) rfl (pgs_cons (pg_name (i:=7) sc_kept_upward.nd rfl (Or.inl rfl)) (pgs_cons (pg_name (i:=8) sc_kept_upward.nd rfl (Or.inl rfl)) pgs_nil))))
      (pss_one (ps_if (pt_not (pt_truthK K rfl (pe_call G_has_pairs (hr.mono (by omega)) (by rfl) T.m_has_pairs T.k_has_pairs T.p_has_pairs .nil pass0 (pa_cons (pv 7) pa_nil)) (fun _=>rfl))) (pss_one (ps_expr (pe_bm PySem.F.plainAttrs_list PySem.F.slot_list_append PySem.F.type_list_append mt_append (pv 3) (pa_consT (pe_tup (pa_cons (pe_ix (ix_seqK K rfl) (pv 4) pe_int (fun _ _=>rfl)) (pa_cons (pv 5) (pa_cons (pv 6) pa_nil)))) pa_nil)))) (pss_one (ps_if (pt_not (pt_truthK K rfl (pe_call G_has_pairs (hr.mono (by omega)) (by rfl) T.m_has_pairs T.k_has_pairs T.p_has_pairs .nil pass0 (pa_cons (pv 8) pa_nil)) (fun _=>rfl))) (pss_one (ps_expr (pe_bm PySem.F.plainAttrs_list PySem.F.slot_list_append PySem.F.type_list_append mt_append (pv 3) (pa_consT (pe_tup (pa_cons (pe_ix (ix_seqK K rfl) (pv 4) pe_int (fun _ _=>rfl)) (pa_cons (pv 5) (pa_cons (pv 6) pa_nil)))) pa_nil)))) (pss_cons (ps_expr (pe_bm PySem.F.plainAttrs_list PySem.F.slot_list_append PySem.F.type_list_append mt_append (pv 2) (pa_cons (pv 4) pa_nil)))
      (pss_cons (ps_expr (pe_bm PySem.F.plainAttrs_list PySem.F.slot_list_append PySem.F.type_list_append mt_append (pv 3) (pa_consT (pe_tup (pa_cons (pe_ix (ix_seqK K rfl) (pv 4) pe_int (fun _ _=>rfl)) (pa_cons (pe_ix (ix_seqK K rfl) (pv 7) pe_int (fun _ _=>rfl)) (pa_cons (pe_ix (ix_seqK K rfl) (pv 7) pe_int (fun _ _=>rfl)) pa_nil)))) pa_nil)))
      (pss_one (ps_expr (pe_bm PySem.F.plainAttrs_list PySem.F.slot_list_append PySem.F.type_list_append mt_append (pv 3) (pa_consT (pe_tup (pa_cons (pe_ix (ix_seqK K rfl) (pv 4) pe_int (fun _ _=>rfl)) (pa_cons (pe_ix (ix_seqK K rfl) (pv 8) pe_int (fun _ _=>rfl)) (pa_cons (pe_ix (ix_seqK K rfl) (pv 8) pe_int (fun _ _=>rfl)) pa_nil)))) pa_nil))))))))))))))
      (pss_one (ps_ret (pe_rev K rfl (pv 2) (pe_un un_neg pe_int))))))),(s_seq (s_asg (e_lstO a_nil) g_name)
      (s_seq (s_asg (e_lstO (a_cons (e_tup (a_cons e_var (a_cons (e_op o_ix e_var e_int) (a_cons (e_op o_ix e_var e_int) a_nil)))) a_nil)) g_name)
      (s_seq (s_while (t_tru e_var) (s_seq (s_asg (e_pop e_var) (g_tup (g_cons g_name (g_cons g_name (g_cons g_name g_nil)))))
      (s_seq (s_if (t_test (e_op o_eqD (e_op o_ix e_var e_int) e_str)) (s_seq (s_drop (e_append e_var (a_cons e_var a_nil)))
      s_cont) s_next)
      (s_seq (s_asg (e_call (a_cons e_var (a_cons e_var (a_cons e_var a_nil)))) (g_tup (g_cons g_name (g_cons g_name g_nil))))
      (s_if (t_not (t_tru (e_call (a_cons e_var a_nil)))) (s_drop (e_append e_var (a_cons (e_tup (a_cons (e_op o_ix e_var e_int) (a_cons e_var (a_cons e_var a_nil)))) a_nil))) (s_if (t_not (t_tru (e_call (a_cons e_var a_nil)))) (s_drop (e_append e_var (a_cons (e_tup (a_cons (e_op o_ix e_var e_int) (a_cons e_var (a_cons e_var a_nil)))) a_nil))) (s_seq (s_drop (e_append e_var (a_cons e_var a_nil)))
      (s_seq (s_drop (e_append e_var (a_cons (e_tup (a_cons (e_op o_ix e_var e_int) (a_cons (e_op o_ix e_var e_int) (a_cons (e_op o_ix e_var e_int) a_nil)))) a_nil)))
      (s_drop (e_append e_var (a_cons (e_tup (a_cons (e_op o_ix e_var e_int) (a_cons (e_op o_ix e_var e_int) (a_cons (e_op o_ix e_var e_int) a_nil)))) a_nil)))))))))))
      (s_ret (e_rev e_var))))),fun xs ω Q h=>?_⟩)
  obtain ⟨n,q,u,rfl,hn,hq,hu,hsz,k⟩:=h
  simp only [csD]
  walk_at "ab"
  intro l1 hl1 l2 hl2
  obtain ⟨n21,hl2⟩:=put_free hl2
  have n12:=Ne.symm n21
  obtain ⟨Pv,iP⟩:=invA fun j ρ ω'=>∃ (W : List Wc) (es : List Ta) (v4 v5 v6 v7 v8 : Option AV),ρ = [some (.d (csD n q.1 q.2)),some (.d u.d),some (.r (.ref l1)),some (.r (.ref l2)),v4,v5,v6,v7,v8]∧ω' = om2 ω l1 l2 (.own ((es.map Ta.d).map AV.d)) (.own ((W.map Wc.d).map AV.d))∧(∀ e∈W,e.u.ok n∧Ww n e.q) ∧
    es ++ (W.reverse.flatMap fun e=>keptL e.u e.q) = keptL u q∧es.length + wcs W≤u.size∧j = wcs W
  refine ⟨Pv,⟨_,(iP _ _ _).mpr ⟨[⟨u,q⟩],[],_,_,_,_,_,rfl,rfl,by simpa using ⟨hu,hq⟩,by simp,by simp [wcs],rfl⟩⟩,fun j ρ ω' h=>?_⟩
  obtain ⟨W,es,v4,v5,v6,v7,v8,rfl,rfl,hW,hE,hS,rfl⟩:=(iP _ _ _).mp h
  clear h
  rcases List.eq_nil_or_concat W with rfl | ⟨W',e,rfl⟩
  · simp only [List.map_nil]
    walk_at "ab"
    simp only [om2_l]
    walk_at "ab"
    simp only [List.isEmpty_nil]
    walk_at "ab"
    simp only [om2_p n12]
    walk_at "ab"
    simp only [List.reverse_nil,List.flatMap_nil,List.append_nil] at hE
    subst hE
    have eo : ∀ A B,(om2 ω l1 l2 A B).only ω = ω:=fun A B=>only_ex (((Ex.refl ω).over hl1).over hl2)
    rw [eo,← List.map_reverse]
    exact k
  · rw [List.concat_eq_append] at hW hE hS ⊢
    have hWl:=wcs_len W'
    rw [wcs_append] at hS
    simp only [List.map_append,List.map_cons,List.map_nil]
    obtain ⟨u2,q2⟩:=e
    obtain ⟨hu2,hq2⟩:=hW _ (List.mem_append_right _ (List.mem_singleton.mpr rfl))
    have hW' : ∀ e∈W',e.u.ok n∧Ww n e.q:=fun e he=>hW e (List.mem_append_left _ he)
    simp only [List.reverse_append,List.reverse_cons,List.reverse_nil,List.nil_append,List.flatMap_append,List.flatMap_cons,List.flatMap_nil,List.append_nil,List.cons_append] at hE
    simp only [Wc.d]
    cases u2 with
    | en i =>
      simp only [Ta.d]
      walk_at "ab"
      simp only [om2_l,om2_pl]
      walk_at "ab"
      simp only [om2_p n12,om2_pp n12]
      walk_at "ab"
      refine ⟨Pv (wcs W'),fun ρ' ω' h=>⟨_,by rw [wcs_append];simp [wcs,Ta.size],h⟩,lt_dec (m:=0) (by omega),?_⟩
      refine (iP _ _ _).mpr ⟨W',es ++ [.en i],_,_,_,_,_,rfl,by simp [Ta.d],hW',?_,?_,rfl⟩
      · rw [← hE];simp [keptL]
      · simp [wcs,Ta.size] at hS ⊢;omega
    | nd hh ws a b =>
      simp only [Ta.d]
      have hE2 : ¬ (if hh then ("yes" : Str) else ("no" : Str)) = "end":=by cases hh<;>decide +kernel
      walk_at "ab"
      simp only [om2_l,om2_pl]
      walk_at "ab"
      simp only [hE2,if_false]
      have lt : ∀ W2 : List Wc,wcs W2≤a.size + b.size→∀ ρ' ω',Pv (wcs (W' ++ W2)) ρ' ω'→∃ m',m' < wcs (W' ++ [⟨.nd hh ws a b,q2⟩])∧Pv m' ρ' ω':=fun W2 h2 ρ' ω' h=>⟨_,by rw [wcs_append,wcs_append];simp only [wcs,Ta.size];omega,h⟩
      refine ⟨fun ρ' ω'=>∃ m',m' < wcs (W' ++ [⟨.nd hh ws a b,q2⟩])∧Pv m' ρ' ω',fun ρ' ω' h=>h,hh,ws,a.d,b.d,q2,n,rfl,hn,hq2,?_⟩
      simp only [keptL] at hE
      walk_at "ab"
      refine ⟨_,rfl,?_⟩
      walk_at "ab"
      have up : ∀ (W2 : List Wc) (es2 : List Ta) (v4 v5 v6 v7 v8 : Option AV),wcs W2≤a.size + b.size→es2.length≤es.length + 1→(∀ e∈W2,e.u.ok n∧Ww n e.q)→es2 ++ (W2.reverse.flatMap fun e=>keptL e.u e.q) ++ (W'.reverse.flatMap fun e=>keptL e.u e.q) = keptL u q →
          ∃ m',m' < wcs (W' ++ [⟨.nd hh ws a b,q2⟩])∧Pv m' [some (.d (csD n q.1 q.2)),some (.d u.d),some (.r (.ref l1)),some (.r (.ref l2)),v4,v5,v6,v7,v8] (om2 ω l1 l2 (.own ((es2.map Ta.d).map AV.d)) (.own (((W' ++ W2).map Wc.d).map AV.d))):=fun W2 es2 v4 v5 v6 v7 v8 h1 h2 h3 h4 =>
        lt W2 h1 _ _ ((iP _ _ _).mpr ⟨W' ++ W2,es2,_,_,_,_,_,rfl,rfl,fun e he=>(List.mem_append.mp he).elim (hW' e) (h3 e),by simpa using h4,by rw [wcs_append];simp only [wcs,Ta.size] at hS;omega,rfl⟩)
      have s1 : W'.length < sizeLine:=lt_dec (m:=0) (by omega)
      have s2 : W'.length + 1 < sizeLine:=lt_dec (m:=0) (by simp only [wcs,Ta.size] at hS;have:=Ta.size_lvs a;have:=Ta.size_lvs b;omega)
      have s3 : es.length < sizeLine:=lt_dec (m:=0) (by omega)
      cases hf : has (goF hh ws q2) with
      | false =>
        simp only [hf,if_false,Bool.false_eq_true] at hE
        walk_at "ab"
        simp only [om2_l,om2_pl]
        walk_at "ab"
        refine ⟨s1,?_⟩
        have:=up [⟨b,q2⟩] es (some (AV.d (Ta.nd hh ws a b).d)) (some (.d (.tup (q2.1.map wdD)))) (some (.d (.tup (q2.2.map wdD)))) (some (.d (wwD (goF hh ws q2)))) (some (.d (wwD (goS hh ws q2)))) (by simp [wcs]) (by omega) (by simpa using ⟨hu2.2.2,hq2⟩) (by rw [← hE];simp)
        simpa [Wc.d,Ta.d] using this
      | true =>
        simp only [hf,if_true] at hE
        walk_at "ab"
        refine ⟨_,rfl,?_⟩
        walk_at "ab"
        cases hg : has (goS hh ws q2) with
        | false =>
          simp only [hg,if_false,Bool.false_eq_true] at hE
          walk_at "ab"
          simp only [om2_l,om2_pl]
          walk_at "ab"
          refine ⟨s1,?_⟩
          have:=up [⟨a,q2⟩] es (some (AV.d (Ta.nd hh ws a b).d)) (some (.d (.tup (q2.1.map wdD)))) (some (.d (.tup (q2.2.map wdD)))) (some (.d (wwD (goF hh ws q2)))) (some (.d (wwD (goS hh ws q2)))) (by simp [wcs]) (by omega) (by simpa using ⟨hu2.2.1,hq2⟩) (by rw [← hE];simp)
          simpa [Wc.d,Ta.d] using this
        | true =>
          simp only [hg,if_true] at hE
          walk_at "ab"
          simp only [om2_p n12,om2_pp n12]
          simp only [wwD]
          walk_at "ab"
          simp only [om2_l,om2_pl]
          walk_at "ab"
          refine ⟨s3,s1,s2,?_⟩
          have:=up [⟨a,goF hh ws q2⟩,⟨b,goS hh ws q2⟩] (es ++ [.nd hh ws a b]) (some (AV.d (Ta.nd hh ws a b).d)) (some (.d (.tup (q2.1.map wdD)))) (some (.d (.tup (q2.2.map wdD)))) (some (.d (wwD (goF hh ws q2)))) (some (.d (wwD (goS hh ws q2)))) (by simp [wcs]) (by simp) (by
            intro e he
            rcases List.mem_cons.mp he with rfl | h
            · exact ⟨hu2.2.1,hq2.f⟩
            · rw [List.mem_singleton.mp h];exact ⟨hu2.2.2,hq2.s⟩) (by rw [← hE];simp)
          simpa [Wc.d,Ta.d,wwD] using this
def sp_cut : ASp:=fun xs ω Q=>∃ (n : Nat) (q : WW) (u : Ta),xs = [.d (csD n q.1 q.2),.d u.d]∧n≤5∧Ww n q∧u.ok n∧u.size≤400∧Q (.d (cutT u q).d) ω
theorem ok_cut (T : Txt K mg t) : FnOk P w K mg base CX0 3 t.a_cut t.d_cut ["case","talk"] (lift sp_cut):=by
  have G_kept_upward : FnOk P w K mg base CX0 2 t.a_kept_upward t.d_kept_upward ["case","talk"] (lift sp_kept):=ok_kept T
  refine T.f_cut.okD sc_cut (fun xs ω Q h=>by obtain ⟨n,q,u,rfl,_⟩:=h;rfl) (fun cdv A outer s H E hr=>⟨_,_,(pss_cons (ps_set (i:=2) sc_cut.nd rfl (Or.inl rfl) (pe_lst pa_nil))
      (pss_cons (ps_for PassesOwn.never rfl (pi_seq K rfl (pe_call G_kept_upward (hr.mono (by omega)) (by rfl) T.m_kept_upward T.k_kept_upward T.p_kept_upward .nil pass0 (pa_cons (pv 0) (pa_cons (pv 1) pa_nil)))) (pg_name (i:=3) sc_cut.nd rfl (Or.inl rfl)) (pss_one (ps_if (pt_cmpR (op_eqD hr.u100) (pe_ix (ix_seqK K rfl) (pv 3) pe_int (fun _ _=>rfl)) pe_str (nomark _)) (pss_one (ps_expr (pe_bm PySem.F.plainAttrs_list PySem.F.slot_list_append PySem.F.type_list_append mt_append (pv 2) (pa_cons (pv 3) pa_nil)))) (pss_cons (ps_set (i:=4) sc_cut.nd rfl (Or.inl rfl) (pe_bm0 PySem.F.plainAttrs_list PySem.F.slot_list_pop PySem.F.type_list_pop mt_pop (pv 2)))
      (pss_cons (ps_set (i:=5) sc_cut.nd rfl (Or.inl rfl) (pe_bm0 PySem.F.plainAttrs_list PySem.F.slot_list_pop PySem.F.type_list_pop mt_pop (pv 2)))
      (pss_one (ps_expr (pe_bm PySem.F.plainAttrs_list PySem.F.slot_list_append PySem.F.type_list_append mt_append (pv 2) (pa_consT (pe_tup (pa_cons (pe_ix (ix_seqK K rfl) (pv 3) pe_int (fun _ _=>rfl)) (pa_cons (pe_ix (ix_seqK K rfl) (pv 3) pe_int (fun _ _=>rfl)) (pa_cons (pv 5) (pa_cons (pv 4) pa_nil))))) pa_nil)))))))))
      (pss_one (ps_ret (pe_ix (ix_seqK K rfl) (pv 2) pe_int (fun _ _=>rfl)))))),(s_seq (s_asg (e_lstO a_nil) g_name)
      (s_seq (s_for (i_seq (e_call (a_cons e_var (a_cons e_var a_nil)))) g_name (s_if (t_test (e_op o_eqD (e_op o_ix e_var e_int) e_str)) (s_drop (e_append e_var (a_cons e_var a_nil))) (s_seq (s_asg (e_pop e_var) g_name)
      (s_seq (s_asg (e_pop e_var) g_name)
      (s_drop (e_append e_var (a_cons (e_tup (a_cons (e_op o_ix e_var e_int) (a_cons (e_op o_ix e_var e_int) (a_cons e_var (a_cons e_var a_nil))))) a_nil)))))))
      (s_ret (e_op o_ix e_var e_int)))),fun xs ω Q h=>?_⟩)
  obtain ⟨n,q,u,rfl,hn,hq,hu,hsz,k⟩:=h
  have hlen:=keptL_len u q
  have hw0 : work (keptL u q).reverse [] = [cutT u q]:=by have:=work_kept u q [] [];simpa [work] using this
  generalize hR : (keptL u q).reverse = R at hw0
  have hRl : R.length≤400:=by rw [← hR,List.length_reverse];omega
  walk_at "ab"
  intro l hl
  refine ⟨n,q,u,rfl,hn,hq,hu,hsz,?_⟩
  rw [hR]
  walk_at "ab"
  refine for_D (fun i ρ ω'=>∃ (st : List Ta) (v3 v4 v5 : Option AV),ρ = [some (.d (csD n q.1 q.2)),some (.d u.d),some (.r (.ref l)),v3,v4,v5]∧ω' = ω.put l (.own ((st.map Ta.d).map AV.d))∧st.length≤i∧work (R.drop i) st = [cutT u q]) ⟨[],_,_,_,rfl,rfl,Nat.le_refl _,by simpa using hw0⟩ ?_ ?_
  · rintro i d ρ ω' N hd ⟨st,v3,v4,v5,rfl,rfl,hst,hwk⟩ kN
    obtain ⟨v,hv,rfl⟩:=map_get hd
    obtain ⟨hi,ev⟩:=List.getElem?_eq_some_iff.mp hv
    rw [List.drop_eq_getElem_cons hi,ev] at hwk
    have hs1 : st.length < sizeLine:=lt_dec (m:=0) (by omega)
    cases v with
    | en j =>
      simp only [Ta.d]
      walk_at "ab"
      exact ⟨hs1,kN _ _ ⟨st ++ [.en j],_,_,_,rfl,by simp [Ta.d],by simp;omega,by simpa [work] using hwk⟩⟩
    | nd hh ws a b =>
      have hE2 : ¬ (if hh then ("yes" : Str) else ("no" : Str)) = "end":=by cases hh<;>decide +kernel
      rcases List.eq_nil_or_concat st with rfl | ⟨st1,y,rfl⟩
      · simp [work] at hwk
      rw [List.concat_eq_append] at *
      rcases List.eq_nil_or_concat st1 with rfl | ⟨st2,x,rfl⟩
      · simp [work] at hwk
      rw [List.concat_eq_append] at *
      simp only [Ta.d,List.map_append,List.map_cons,List.map_nil]
      walk_at "ab"
      simp only [hE2,if_false]
      simp only [List.length_append,List.length_cons,List.length_nil] at hst
      refine ⟨lt_dec (m:=0) (by omega),kN _ _ ⟨st2 ++ [.nd hh ws x y],_,_,_,rfl,by simp [Ta.d],by simp;omega,by simpa [work] using hwk⟩⟩
  · rintro ρ ω' ⟨st,v3,v4,v5,rfl,rfl,hst,hwk⟩
    rw [List.length_map,List.drop_length] at hwk
    simp only [work] at hwk
    subst hwk
    walk_at "ab"
    rw [only_ex ((Ex.refl ω).new hl)]
    exact k
end
section
variable {P : Program} {w : World} {K : PySem.W.Frag} {mg : Str→Option Value} {base : Heap} {t : Adr}
theorem has_iff {q : WW} : has q = true↔q.1≠[]∧q.2≠[]:=by
  unfold has
  rw [Bool.and_eq_true]
  constructor
  · rintro ⟨a,b⟩
    exact ⟨fun e=>by rw [e] at a;simp at a,fun e=>by rw [e] at b;simp at b⟩
  · rintro ⟨a,b⟩
    exact ⟨by cases h : q.1<;>simp_all,by cases h : q.2<;>simp_all⟩
theorem goS_of {h : Bool} {ws : List (List Int)} {q : WW} (hq : has q = true) (hF : has (goF h ws q) = false) : goS h ws q = q:=by
  obtain ⟨h1,h2⟩:=has_iff.mp hq
  have hn : ¬ (has (goF h ws q) = true):=by rw [hF];simp
  rw [has_iff] at hn
  cases h with
  | true =>
    simp only [goF,goS,if_true] at hn ⊢
    have : (q.1.filter fun v=>!decide (v∈ws)) = []:=Classical.byContradiction fun z=>hn ⟨z,h2⟩
    have e : (q.1.filter fun v=>decide (v∈ws)) = q.1:=List.filter_eq_self.mpr fun v hv=>by
      have:=List.filter_eq_nil_iff.mp this v hv
      simpa using this
    rw [e]
  | false =>
    simp only [goF,goS,if_false,Bool.false_eq_true] at hn ⊢
    have : (q.2.filter fun v=>!decide (v∈ws)) = []:=Classical.byContradiction fun z=>hn ⟨h1,z⟩
    have e : (q.2.filter fun v=>decide (v∈ws)) = q.2:=List.filter_eq_self.mpr fun v hv=>by
      have:=List.filter_eq_nil_iff.mp this v hv
      simpa using this
    rw [e]
theorem goF_of {h : Bool} {ws : List (List Int)} {q : WW} (hq : has q = true) (hS : has (goS h ws q) = false) : goF h ws q = q:=by
  obtain ⟨h1,h2⟩:=has_iff.mp hq
  have hn : ¬ (has (goS h ws q) = true):=by rw [hS];simp
  rw [has_iff] at hn
  cases h with
  | true =>
    simp only [goF,goS,if_true] at hn ⊢
    have : (q.1.filter fun v=>decide (v∈ws)) = []:=Classical.byContradiction fun z=>hn ⟨z,h2⟩
    have e : (q.1.filter fun v=>!decide (v∈ws)) = q.1:=List.filter_eq_self.mpr fun v hv=>by
      have:=List.filter_eq_nil_iff.mp this v hv
      simpa using this
    rw [e]
  | false =>
    simp only [goF,goS,if_false,Bool.false_eq_true] at hn ⊢
    have : (q.2.filter fun v=>decide (v∈ws)) = []:=Classical.byContradiction fun z=>hn ⟨h1,z⟩
    have e : (q.2.filter fun v=>!decide (v∈ws)) = q.2:=List.filter_eq_self.mpr fun v hv=>by
      have:=List.filter_eq_nil_iff.mp this v hv
      simpa using this
    rw [e]
theorem cut_ends : ∀ (u : Ta) (bs : List Int) (q : WW),has q = true→∀ e∈endsL bs q (cutT u q),has e.q = true
  | .en i,bs,q,h,e,he=>by simp only [cutT,endsL,List.mem_singleton] at he;rw [he];exact h
  | .nd hh ws a b,bs,q,h,e,he=>by
    cases hF : has (goF hh ws q) with
    | false=>simp only [cutT,hF,if_false,Bool.false_eq_true] at he;exact cut_ends b bs q h e he
    | true =>
      cases hS : has (goS hh ws q) with
      | false=>simp only [cutT,hF,hS,if_true,if_false,Bool.false_eq_true] at he;exact cut_ends a bs q h e he
      | true =>
        simp only [cutT,hF,hS,if_true,endsL] at he
        rcases List.mem_append.mp he with he | he
        · exact cut_ends a _ _ hF e he
        · exact cut_ends b _ _ hS e he
end
section
end
section
variable {P : Program} {w : World} {K : PySem.W.Frag} {mg : Str→Option Value} {base : Heap} {t : Adr}
theorem ends_ok {n : Nat} : ∀ {u : Ta} {bs : List Int} {q : WW} {e : En},u.ok n→Ww n q→e∈endsL bs q u→(0≤e.at_∧e.at_ < n)∧Ww n e.q
  | .en i,bs,q,e,hu,hq,h=>by simp only [endsL,List.mem_singleton] at h;subst h;exact ⟨hu,hq⟩
  | .nd hh ws a b,bs,q,e,hu,hq,h=>by
    rcases List.mem_append.mp h with h | h
    · exact ends_ok hu.2.1 hq.f h
    · exact ends_ok hu.2.2 hq.s h
theorem mem_prl {ys zs : List (List Int)} {y z : List Int} : (y,z)∈prl ys zs↔y∈ys∧z∈zs:=by
  constructor
  · intro h;exact prl_mem h
  · rintro ⟨hy,hz⟩
    unfold prl
    exact List.mem_flatMap.mpr ⟨y,hy,List.mem_map.mpr ⟨z,hz,rfl⟩⟩
end
section
variable {P : Program} {w : World} {K : PySem.W.Frag} {mg : Str→Option Value} {base : Heap} {t : Adr}
def meanT : WW→Ta→Sy
  | q,.en i=>.is i ((q.1.headD []).getD i.toNat 0)
  | q,.nd h ws l r=>.jn (!h) (meanT (goF h ws q) l) (meanT (goS h ws q) r)
def leafE (e : En) : Sy:=.is e.at_ ((e.q.1.headD []).getD e.at_.toNat 0)
def runS : List Ta→List Sy→List Sy→Option (List Sy)
  | [],st,_=>some st
  | .en _ :: r,st,x :: W=>runS r (x :: st) W
  | .nd h _ _ _ :: r,b :: a :: st,W=>runS r (.jn (!h) a b :: st) W
  | _,_,_=>none
def Ta.post : Ta→List Ta
  | .en i=>[.en i]
  | .nd h ws l r=>Ta.post l ++ Ta.post r ++ [.nd h ws l r]
theorem ta_post : ∀ u : Ta,(taTr u).post.map Tr.d = (Ta.post u).map Ta.d
  | .en i=>rfl
  | .nd h ws l r=>by
    have e : (taTr (.nd h ws l r)).d = (Ta.nd h ws l r).d:=taTr_d _
    simp only [taTr,Tr.post,Ta.post,List.map_append,ta_post l,ta_post r,List.map_cons,List.map_nil]
    simp only [taTr] at e
    rw [e]
theorem ta_post_len : ∀ u : Ta,(Ta.post u).length = u.size
  | .en i=>rfl
  | .nd h ws l r=>by simp [Ta.post,Ta.size,ta_post_len l,ta_post_len r];omega
theorem run_mean : ∀ (u : Ta) (bs : List Int) (q : WW) (r : List Ta) (st W : List Sy),runS (Ta.post u ++ r) st ((endsL bs q u).map leafE ++ W) = runS r (meanT q u :: st) W
  | .en i,bs,q,r,st,W=>rfl
  | .nd h ws a b,bs,q,r,st,W=>by
    simp only [Ta.post,endsL,List.map_append,List.append_assoc]
    rw [run_mean a,run_mean b]
    rfl
theorem ta_dp : ∀ u : Ta,u.dp≤u.size
  | .en i=>Nat.zero_le _
  | .nd h ws l r=>by
    have:=ta_dp l
    have:=ta_dp r
    simp only [Ta.dp,Ta.size]
    omega
theorem leaf_at {n : Nat} {e : En} (hw : Ww n e.q) (h0 : 0≤e.at_) (h1 : e.at_ < n) (hh : has e.q = true) : ∃ y ys,e.q.1 = y :: ys∧atI (((y.map D.int)).map AV.d) e.at_ = some (.d (.int (y.getD e.at_.toNat 0))):=by
  obtain ⟨h2,_⟩:=has_iff.mp hh
  obtain ⟨y,ys,ey⟩:=List.exists_cons_of_ne_nil h2
  have hl : y.length = n:=(wl_mem (hw.1.2 y (by rw [ey];exact List.mem_cons_self ..))).1
  obtain ⟨z,mz,hz,ez⟩:=map_nth (f:=AV.d ∘ D.int) (xs:=y) h0 (by omega)
  refine ⟨y,ys,ey,?_⟩
  rw [List.map_map,ez,List.getD_eq_getElem?_getD,hz]
  rfl
def sp_syof : ASp:=fun xs ω Q=>∃ (n : Nat) (q : WW) (u : Ta),xs = [.d (csD n q.1 q.2),.d u.d]∧n≤5∧Ww n q∧has q = true∧u.ok n∧u.size≤400∧((prl q.1 q.2).find? (fau false u)).isNone = true∧Q (.d (meanT q (cutT u q)).d) ω
theorem ok_syof (T : Txt K mg t) : FnOk P t.wo K mg base CX0 4 t.a_saying_of t.d_saying_of ["case","talk"] (lift sp_syof):=by
  have G_lets_by : FnOk P t.wo K mg base CX0 3 t.a_lets_by t.d_lets_by ["case","rule","talk"] (lift sp_lets):=ok_lets T
  have G_cut : FnOk P t.wo K mg base CX0 3 t.a_cut t.d_cut ["case","talk"] (lift sp_cut):=ok_cut T
  have G_ends_of : FnOk P t.wo K mg base CX0 2 t.a_ends_of t.d_ends_of ["case","talk"] (lift sp_ends):=ok_ends T
  have G_upward : FnOk P t.wo K mg base CX0 1 t.a_upward t.d_upward ["tree","leaf"] (lift sp_upwardA):=ok_upwardA T
  refine T.f_saying_of.okD sc_saying_of (fun xs ω Q h=>by obtain ⟨n,q,u,rfl,_⟩:=h;rfl) (fun cdv A outer s H E hr=>⟨_,_,(pss_cons (ps_if (pt_not (pt_truthK K rfl (pe_call G_lets_by (hr.mono (by omega)) (by rfl) T.m_lets_by T.k_lets_by T.p_lets_by .nil pass0 (pa_cons (pv 0) (pa_consC pe_str (pa_cons (pv 1) pa_nil)))) (fun _=>rfl))) (pss_one ps_never) pss_nil)
      (pss_cons (ps_set (i:=2) sc_saying_of.nd rfl (Or.inl rfl) (pe_call G_cut (hr.mono (by omega)) (by rfl) T.m_cut T.k_cut T.p_cut .nil pass0 (pa_cons (pv 0) (pa_cons (pv 1) pa_nil))))
      (pss_cons (ps_setC (i:=3) sc_saying_of.nd rfl (Or.inl rfl) (N:=(["bits","place","yes","no"] : List Str)) (src:=[none,none,none,none]) rfl (by show blkOk _ (defScope s_saying_of) _ _ (["case","talk","kept","leaves","waiting","done","part","other","one"] : List Str) = true;decide +kernel) (by intro g' h;cases h) (pi_seq K rfl (pe_call G_ends_of (hr.mono (by omega)) (by rfl) T.m_ends_of T.k_ends_of T.p_ends_of .nil pass0 (pa_cons (pv 0) (pa_cons (pv 2) pa_nil)))) (fun _ _ _ _ _ _=>(pg_tupK K rfl (n:=4) rfl (pgs_cons (pg_name (i:=0) (show (["bits","place","yes","no"] : List Str).Nodup by decide +kernel) rfl (Or.inl rfl)) (pgs_cons (pg_name (i:=1) (show (["bits","place","yes","no"] : List Str).Nodup by decide +kernel) rfl (Or.inl rfl)) (pgs_cons (pg_name (i:=2) (show (["bits","place","yes","no"] : List Str).Nodup by decide +kernel) rfl (Or.inl rfl)) (pgs_cons (pg_name (i:=3) (show (["bits","place","yes","no"] : List Str).Nodup by decide +kernel) rfl (Or.inl rfl)) pgs_nil)))))) (fun _ _ _ _ _ _=>pts_nil) (fun _ _ _ _ _ _=>(pl_last rfl rfl (pe_tup (pa_consC pe_str (pa_cons (pv 1) (pa_cons (pe_ix (ix_seqK K rfl) (pe_ix (ix_seqK K rfl) (pv 2) pe_int (fun _ _=>rfl)) (pv 1) (fun _ _=>rfl)) pa_nil)))))))
      (pss_cons (ps_set (i:=4) sc_saying_of.nd rfl (Or.inl rfl) (pe_rev K rfl (pv 3) (pe_un un_neg pe_int)))
      (pss_cons (ps_set (i:=5) sc_saying_of.nd rfl (Or.inl rfl) (pe_lst pa_nil))
      (pss_cons (ps_for PassesOwn.never rfl (pi_seq K rfl (pe_call G_upward (hr.mono (by omega)) (by rfl) T.m_upward T.k_upward T.p_upward .nil pass0 (pa_cons (pv 2) (pa_consC pe_str pa_nil)))) (pg_name (i:=6) sc_saying_of.nd rfl (Or.inl rfl)) (pss_one (ps_if (pt_cmpR (op_eqD hr.u100) (pe_ix (ix_seqK K rfl) (pv 6) pe_int (fun _ _=>rfl)) pe_str (nomark _)) (pss_one (ps_expr (pe_bm PySem.F.plainAttrs_list PySem.F.slot_list_append PySem.F.type_list_append mt_append (pv 5) (pa_cons (pe_bm0 PySem.F.plainAttrs_list PySem.F.slot_list_pop PySem.F.type_list_pop mt_pop (pv 4)) pa_nil)))) (pss_cons (ps_set (i:=7) sc_saying_of.nd rfl (Or.inl rfl) (pe_bm0 PySem.F.plainAttrs_list PySem.F.slot_list_pop PySem.F.type_list_pop mt_pop (pv 5)))
      (pss_cons (ps_set (i:=8) sc_saying_of.nd rfl (Or.inl rfl) (pe_bm0 PySem.F.plainAttrs_list PySem.F.slot_list_pop PySem.F.type_list_pop mt_pop (pv 5)))
      (pss_one (ps_expr (pe_bm PySem.F.plainAttrs_list PySem.F.slot_list_append PySem.F.type_list_append mt_append (pv 5) (pa_consT (pe_tup (pa_cons (pe_sget T.s_JOIN_OF_HAND (pe_glob (v:=.ref t.a_JOIN_OF_HAND) rfl T.c_JOIN_OF_HAND rfl) (pe_ix (ix_seqK K rfl) (pv 6) pe_int (fun _ _=>rfl)) (fun _ _=>rfl)) (pa_cons (pv 8) (pa_cons (pv 7) pa_nil)))) pa_nil)))))))))
      (pss_one (ps_ret (pe_ix (ix_seqK K rfl) (pv 5) pe_int (fun _ _=>rfl)))))))))),(s_seq (s_if (t_not (t_tru (e_call (a_cons e_var (a_cons e_str (a_cons e_var a_nil)))))) s_never s_next)
      (s_seq (s_asg (e_call (a_cons e_var (a_cons e_var a_nil))) g_name)
      (s_seq (s_asg (e_comp (i_seq (e_call (a_cons e_var (a_cons e_var a_nil)))) (g_tup (g_cons g_name (g_cons g_name (g_cons g_name (g_cons g_name g_nil))))) t_no (l_last (e_tup (a_cons e_str (a_cons e_var (a_cons (e_op o_ix (e_op o_ix e_var e_int) e_var) a_nil)))))) g_name)
      (s_seq (s_asg (e_revO e_var) g_name)
      (s_seq (s_asg (e_lstO a_nil) g_name)
      (s_seq (s_for (i_seq (e_call (a_cons e_var (a_cons e_str a_nil)))) g_name (s_if (t_test (e_op o_eqD (e_op o_ix e_var e_int) e_str)) (s_drop (e_append e_var (a_cons (e_pop e_var) a_nil))) (s_seq (s_asg (e_pop e_var) g_name)
      (s_seq (s_asg (e_pop e_var) g_name)
      (s_drop (e_append e_var (a_cons (e_tup (a_cons (e_sget (e_op o_ix e_var e_int)) (a_cons e_var (a_cons e_var a_nil)))) a_nil)))))))
      (s_ret (e_op o_ix e_var e_int)))))))),fun xs ω Q h=>?_⟩)
  obtain ⟨n,q,u,rfl,hn,hq,hh,hu,hsz,hlet,k⟩:=h
  have hudp:=ta_dp u
  walk_at "s1"
  refine ⟨false,n,q.1,q.2,u,rfl,⟨hn,hu,by omega,hq.1,hq.2⟩,?_⟩
  rw [hlet]
  walk_at "s1"
  refine ⟨n,q,u,rfl,hn,hq,hu,hsz,?_⟩
  obtain ⟨co,cd,cs⟩:=cutT_ok q hu
  have ce:=cut_ends u [] q hh
  generalize cutT u q = v at *
  have hvd:=ta_dp v
  walk_at "s1"
  refine ⟨n,q,v,rfl,hn,hq,co,by omega,by omega,?_⟩
  have hel:=endsL_len v [] q
  have hvl:=Ta.size_lvs v
  walk_at "a1"
  refine comp_gix (rs:=((endsL [] q v).map leafE).map Sy.d) (fun ρ=>∃ v0 v1 v2 v3,ρ = [v0,v1,v2,v3]) ⟨_,_,_,_,rfl⟩ (by simp) (Nat.le_of_lt (small1000 (by simp;omega))) (fun i a r ρ N h1 h2 hR hN=>?_) (fun ρ hR=>⟨_,und_map _,?_⟩)
  · obtain ⟨v0,v1,v2,v3,rfl⟩:=hR
    simp only [List.map_map,List.getElem?_map,Option.map_eq_some_iff] at h1 h2
    obtain ⟨e,he,rfl⟩:=h1
    obtain ⟨e',he',rfl⟩:=h2
    rw [he] at he'
    cases he'
    have hm:=List.mem_of_getElem? he
    obtain ⟨⟨a0,a1⟩,aw⟩:=ends_ok co hq hm
    obtain ⟨y,ys,ey,ea⟩:=leaf_at aw a0 a1 (ce e hm)
    simp only [Function.comp_apply,En.d]
    walk_at "a1"
    refine hN _ ⟨_,_,_,_,rfl⟩ fun Q1 q1=>?_
    simp only [leafE,Function.comp_apply] at q1
    rw [ey] at q1 ⊢
    simp only [List.map_cons,wdD]
    walk_at "a1"
    exact ⟨_,ea,_,rfl,q1⟩
  walk_at "s1"
  have hE:=run_mean v [] q [] [] []
  rw [List.append_nil,List.append_nil] at hE
  generalize hL : (endsL [] q v).map leafE = L at hE
  have hLl : L.length = v.lvs:=by rw [← hL,List.length_map,hel]
  have hpo:=ta_post_len v
  intro lw hlw
  walk_at "s1"
  intro ld hld
  obtain ⟨hne,hld0⟩:=put_free hld
  walk_at "s1"
  refine ⟨taTr v,"end",by rw [taTr_d],taTr_ok v,by rw [(taTr_n v).1];omega,?_⟩
  rw [ta_post]
  generalize hR : Ta.post v = R at *
  walk_at "a1"
  have ow0 : ((ω.put lw (OC.own (List.map AV.d (List.map Sy.d L).reverse))).put ld (OC.own [])) = om2 ω lw ld (.own ((L.reverse.map Sy.d).map AV.d)) (.own ((([] : List Sy).reverse.map Sy.d).map AV.d)):=by rw [om2,← List.map_reverse];rfl
  rw [ow0]
  refine for_D (fun i ρ ω'=>∃ (st W : List Sy) (v6 v7 v8 : Option AV),ρ = [some (AV.d (csD n q.fst q.snd)),some (AV.d u.d),some (AV.d v.d),some (AV.d (D.lst (List.map Sy.d L))),some (AV.r (V.ref lw)),some (AV.r (V.ref ld)),v6,v7,v8]∧ω' = om2 ω lw ld (.own ((W.reverse.map Sy.d).map AV.d)) (.own ((st.reverse.map Sy.d).map AV.d))∧st.length≤i∧runS (R.drop i) st W = some [meanT q v]) ⟨[],L,_,_,_,rfl,rfl,Nat.le_refl _,by rw [List.drop_zero,hE];rfl⟩ ?_ ?_
  · rintro i d ρ ω' N hd ⟨st,W,v6,v7,v8,rfl,rfl,hst,hwk⟩ kN
    obtain ⟨e,hv,rfl⟩:=map_get hd
    obtain ⟨hi,ev⟩:=List.getElem?_eq_some_iff.mp hv
    rw [List.drop_eq_getElem_cons hi,ev] at hwk
    have hs1 : st.length < sizeLine:=lt_big (by omega)
    cases e with
    | en j =>
      cases W with
      | nil=>simp [runS] at hwk
      | cons x W =>
        simp only [Ta.d]
        walk_at "a1"
        rw [om2_p hne.symm]
        have eW : ((x :: W).reverse.map Sy.d).map AV.d = (W.reverse.map Sy.d).map AV.d ++ [.d x.d]:=by simp
        refine ⟨⟨_,om2_l⟩,_,rfl,.d x.d,by rw [eW];simp,(st.reverse.map Sy.d).map AV.d,by rw [om2_pp hne.symm,om2_l],by simp;omega,?_⟩
        rw [eW,List.dropLast_concat,om2_pp hne.symm,om2_pl]
        exact kN _ _ ⟨x :: st,W,_,_,_,rfl,by simp,by simp;omega,by simpa [runS] using hwk⟩
    | nd hh ws a b =>
      have hE2 : ¬ (if hh then ("yes" : Str) else ("no" : Str)) = "end":=by cases hh<;>decide +kernel
      rcases st with _ | ⟨y,_ | ⟨x,st⟩⟩
      · simp [runS] at hwk
      · simp [runS] at hwk
      have eS : ((y :: x :: st).reverse.map Sy.d).map AV.d = ((st.reverse.map Sy.d).map AV.d ++ [.d x.d]) ++ [.d y.d]:=by simp
      have eS2 : ((y :: x :: st).reverse.map Sy.d).map AV.d = ((st.reverse.map Sy.d).map AV.d ++ [.d x.d]) ++ [.d y.d]:=eS
      simp only [Ta.d]
      rw [eS]
      walk_at "a1"
      simp only [hE2,if_false]
      refine q_pop rfl om2_l ?_
      rw [om2_pl]
      refine q_pop rfl om2_l ?_
      rw [om2_pl]
      simp only [List.set_cons_zero,List.set_cons_succ]
      have hl : ((st.reverse.map Sy.d).map AV.d).length < sizeLine:=lt_big (by simp at hst ⊢;omega)
      have fin:=kN [some (AV.d (csD n q.fst q.snd)),some (AV.d u.d),some (AV.d v.d),some (AV.d (D.lst (List.map Sy.d L))),some (AV.r (V.ref lw)),some (AV.r (V.ref ld)),some (AV.d (Ta.nd hh ws a b).d),some (.d y.d),some (.d x.d)] _ ⟨.jn (!hh) x y :: st,W,_,_,_,rfl,rfl,by simp at hst ⊢;omega,by simpa [runS] using hwk⟩
      cases hh
      · walk_at "a1"
        refine ⟨⟨_,om2_l⟩,V.str (Str.ofString "and"),by kernel_rfl,D.str (Str.ofString "and"),rfl,_,om2_l,hl,?_⟩
        rw [om2_pl]
        simpa [Sy.d,Ta.d] using fin
      · walk_at "a1"
        refine ⟨⟨_,om2_l⟩,V.str (Str.ofString "or"),by kernel_rfl,D.str (Str.ofString "or"),rfl,_,om2_l,hl,?_⟩
        rw [om2_pl]
        simpa [Sy.d,Ta.d] using fin
  · rintro ρ ω' ⟨st,W,v6,v7,v8,rfl,rfl,hst,hwk⟩
    rw [List.length_map,List.drop_length] at hwk
    simp only [runS,Option.some.injEq] at hwk
    subst hwk
    dsimp only
    walk_at "a1"
    rw [om2_l]
    refine ⟨_,rfl,_,rfl,_,rfl,?_⟩
    rw [om2,only_ex (((Ex.refl ω).new hlw).new (by rw [Om.put_ne hne];exact hld0))]
    exact k
end
section
theorem mean_ok {n : Nat} : ∀ (v : Ta) (q : WW),Ww n q→v.ok n→(meanT q v).ok n∧(meanT q v).dp = v.dp∧(meanT q v).lvs = v.lvs
  | .en i,q,hw,ho=>by
    refine ⟨⟨ho.1,ho.2,?_⟩,rfl,rfl⟩
    cases e : q.1 with
    | nil=>left;simp
    | cons y ys=>exact wl_bit (hw.1.2 y (by rw [e];exact List.mem_cons_self ..)) i.toNat
  | .nd h ws l r,q,hw,ho=>by
    obtain ⟨a1,a2,a3⟩:=mean_ok l _ hw.f ho.2.1
    obtain ⟨b1,b2,b3⟩:=mean_ok r _ hw.s ho.2.2
    exact ⟨⟨a1,b1⟩,by simp only [meanT,Sy.dp,Ta.dp,a2,b2],by simp only [meanT,Sy.lvs,Ta.lvs,a3,b3]⟩
theorem cut_size : ∀ (u : Ta) (q : WW),(cutT u q).size≤u.size
  | .en i,_=>Nat.le_refl _
  | .nd h ws a b,q=>by
    have h1:=cut_size a q
    have h2:=cut_size b q
    have h3:=cut_size a (goF h ws q)
    have h4:=cut_size b (goS h ws q)
    simp only [cutT,Ta.size]
    split
    · split
      · simp only [Ta.size];omega
      · omega
    · omega
end
section
variable {P : Program} {w : World} {K : PySem.W.Frag} {mg : Str→Option Value} {base : Heap} {t : Adr}
def sp_mean (r : Nat) : ASp:=fun xs ω Q=>∃ (n : Nat) (q : WW) (u : Ta),xs = [.d (.lst (q.1.map wdD)),.d (.lst (q.2.map wdD)),.d u.d]∧n≤5∧Ww n q∧has q = true∧u.ok n∧u.dp≤r∧Q (.d (meanT q (cutT u q)).d) ω
theorem mean_step (T : Txt K mg t) (r : Nat) (kk : Nat) (sp : ASp) (G_l_meaning : FnOk P w K mg base CX0 kk t.a_l_meaning t.d_l_meaning ["_law_yes","_law_no","_law_talk"] (lift sp))
    (hs : ∀ r',r = r' + 1→sp = sp_mean r') : FnOk P w K mg base CX0 (kk + 1) t.a_l_meaning t.d_l_meaning ["_law_yes","_law_no","_law_talk"] (lift (sp_mean r)):=by
  refine T.f_l_meaning.okD sc_l_meaning (fun xs ω Q h=>by obtain ⟨n,q,u,rfl,_⟩:=h;rfl) (fun cdv A outer s H E hr=>⟨_,_,(pss_cons (ps_if (pt_cmpR (op_eqD hr.u100) (pe_ix (ix_seqK K rfl) (pv 2) pe_int (fun _ _=>rfl)) pe_str (nomark _)) (pss_one (ps_ret (pe_tup (pa_consC pe_str (pa_cons (pe_ix (ix_seqK K rfl) (pv 2) pe_int (fun _ _=>rfl)) (pa_cons (pe_ix (ix_seqK K rfl) (pe_ix (ix_seqK K rfl) (pv 0) pe_int (fun _ _=>rfl)) (pe_ix (ix_seqK K rfl) (pv 2) pe_int (fun _ _=>rfl)) (fun _ _=>rfl)) pa_nil)))))) pss_nil)
      (pss_cons (ps_asg (pv 2) (pg_tupK K rfl (n:=4) rfl (pgs_cons (pg_name (i:=3) sc_l_meaning.nd rfl (Or.inl rfl)) (pgs_cons (pg_name (i:=4) sc_l_meaning.nd rfl (Or.inr rfl)) (pgs_cons (pg_name (i:=5) sc_l_meaning.nd rfl (Or.inl rfl)) (pgs_cons (pg_name (i:=6) sc_l_meaning.nd rfl (Or.inl rfl)) pgs_nil))))))
      (pss_cons (ps_set (i:=7) sc_l_meaning.nd rfl (Or.inl rfl) (pe_dget (hu_of hr) (pe_disp (pps_cons pe_str (pv 0) (pps_cons pe_str (pv 1) pps_nil)) rfl rfl (by simp) (by decide)) (pv 3) (fun _ _=>rfl)))
      (pss_cons (ps_setC (i:=8) sc_l_meaning.nd rfl (Or.inl rfl) (N:=(["_law_word","_law_says"] : List Str)) (src:=[none,some 4]) rfl (by show blkOk _ (defScope s_l_meaning) _ _ (["_law_yes","_law_no","_law_talk","_law_hand","_law_says","_law_first","_law_second","_law_words","_law_here","_law_there","_law_ways","_law_found"] : List Str) = true;decide +kernel) (by intro g' h;cases h) (pi_seq K rfl (pv 7)) (fun _ _ _ _ _ _=>(pg_name (i:=0) (show (["_law_word","_law_says"] : List Str).Nodup by decide +kernel) rfl (Or.inl rfl))) (fun _ _ _ _ _ _=>(pts_one (pt_cmpR (op_notInD hr.u100) (pv 0) (pv 1) (by with_unfolding_all rfl)))) (fun _ _ _ _ _ _=>(pl_last rfl rfl (pv 0))))
      (pss_cons (ps_setC (i:=9) sc_l_meaning.nd rfl (Or.inl rfl) (N:=(["_law_word","_law_says"] : List Str)) (src:=[none,some 4]) rfl (by show blkOk _ (defScope s_l_meaning) _ _ (["_law_yes","_law_no","_law_talk","_law_hand","_law_says","_law_first","_law_second","_law_words","_law_here","_law_there","_law_ways","_law_found"] : List Str) = true;decide +kernel) (by intro g' h;cases h) (pi_seq K rfl (pv 7)) (fun _ _ _ _ _ _=>(pg_name (i:=0) (show (["_law_word","_law_says"] : List Str).Nodup by decide +kernel) rfl (Or.inl rfl))) (fun _ _ _ _ _ _=>(pts_one (pt_cmpR (op_inD hr.u100) (pv 0) (pv 1) (by with_unfolding_all rfl)))) (fun _ _ _ _ _ _=>(pl_last rfl rfl (pv 0))))
      (pss_cons (ps_set (i:=10) sc_l_meaning.nd rfl (Or.inl rfl) (pe_lst (pa_consT (pe_tup (pa_cons (pv 8) (pa_cons (pv 1) (pa_cons (pv 5) pa_nil)))) (pa_consT (pe_tup (pa_cons (pv 9) (pa_cons (pv 1) (pa_cons (pv 6) pa_nil)))) pa_nil))))
      (pss_cons (ps_if (pt_cmpR (op_eqD hr.u100) (pv 3) pe_str (nomark _)) (pss_one (ps_set (i:=10) sc_l_meaning.nd rfl (Or.inl rfl) (pe_lst (pa_consT (pe_tup (pa_cons (pv 0) (pa_cons (pv 8) (pa_cons (pv 5) pa_nil)))) (pa_consT (pe_tup (pa_cons (pv 0) (pa_cons (pv 9) (pa_cons (pv 6) pa_nil)))) pa_nil))))) pss_nil)
      (pss_cons (ps_if (pt_cmpR (op_eqD hr.u100) (pv 8) (pe_lst pa_nil) (nomark _)) (pss_one (ps_ret (pe_call G_l_meaning (hr.mono (by omega)) (by rfl) T.m_l_meaning T.k_l_meaning T.p_l_meaning .nil pass0 (pa_cons (pe_ix (ix_seqK K rfl) (pe_ix (ix_seqK K rfl) (pv 10) pe_int (fun _ _=>rfl)) pe_int (fun _ _=>rfl)) (pa_cons (pe_ix (ix_seqK K rfl) (pe_ix (ix_seqK K rfl) (pv 10) pe_int (fun _ _=>rfl)) pe_int (fun _ _=>rfl)) (pa_cons (pv 6) pa_nil)))))) pss_nil)
      (pss_cons (ps_if (pt_cmpR (op_eqD hr.u100) (pv 9) (pe_lst pa_nil) (nomark _)) (pss_one (ps_ret (pe_call G_l_meaning (hr.mono (by omega)) (by rfl) T.m_l_meaning T.k_l_meaning T.p_l_meaning .nil pass0 (pa_cons (pe_ix (ix_seqK K rfl) (pe_ix (ix_seqK K rfl) (pv 10) pe_int (fun _ _=>rfl)) pe_int (fun _ _=>rfl)) (pa_cons (pe_ix (ix_seqK K rfl) (pe_ix (ix_seqK K rfl) (pv 10) pe_int (fun _ _=>rfl)) pe_int (fun _ _=>rfl)) (pa_cons (pv 5) pa_nil)))))) pss_nil)
      (pss_cons (ps_setC (i:=11) sc_l_meaning.nd rfl (Or.inl rfl) (N:=(["_law_one","_law_other","_law_inner"] : List Str)) (src:=[none,none,none]) rfl (by show blkOk _ (defScope s_l_meaning) _ _ (["_law_yes","_law_no","_law_talk","_law_hand","_law_says","_law_first","_law_second","_law_words","_law_here","_law_there","_law_ways","_law_found"] : List Str) = true;decide +kernel) (by intro g' h;cases h) (pi_seq K rfl (pv 10)) (fun _ _ _ _ _ _=>(pg_tupK K rfl (n:=3) rfl (pgs_cons (pg_name (i:=0) (show (["_law_one","_law_other","_law_inner"] : List Str).Nodup by decide +kernel) rfl (Or.inl rfl)) (pgs_cons (pg_name (i:=1) (show (["_law_one","_law_other","_law_inner"] : List Str).Nodup by decide +kernel) rfl (Or.inl rfl)) (pgs_cons (pg_name (i:=2) (show (["_law_one","_law_other","_law_inner"] : List Str).Nodup by decide +kernel) rfl (Or.inl rfl)) pgs_nil))))) (fun _ _ _ _ _ _=>pts_nil) (fun _ _ _ _ _ _=>(pl_last rfl rfl (pe_call G_l_meaning (hr.mono (by omega)) (by rfl) T.m_l_meaning T.k_l_meaning T.p_l_meaning .nil pass0 (pa_cons (pv 0) (pa_cons (pv 1) (pa_cons (pv 2) pa_nil)))))))
      (pss_one (ps_ret (pe_tup (pa_cons (pe_dget (hu_of hr) (pe_disp (pps_cons pe_str pe_str (pps_cons pe_str pe_str pps_nil)) rfl rfl (by simp) (by decide)) (pv 3) (fun _ _=>rfl)) (pa_cons (pe_ix (ix_seqK K rfl) (pv 11) pe_int (fun _ _=>rfl)) (pa_cons (pe_ix (ix_seqK K rfl) (pv 11) pe_int (fun _ _=>rfl)) pa_nil)))))))))))))))),(s_seq (s_if (t_test (e_op o_eqD (e_op o_ix e_var e_int) e_str)) (s_ret (e_tup (a_cons e_str (a_cons (e_op o_ix e_var e_int) (a_cons (e_op o_ix (e_op o_ix e_var e_int) (e_op o_ix e_var e_int)) a_nil))))) s_next)
      (s_seq (s_asg e_var (g_tup (g_cons g_name (g_cons g_name (g_cons g_name (g_cons g_name g_nil))))))
      (s_seq (s_asg (e_dget (e_disp (RefPs.cons e_var (RefPs.cons e_var RefPs.nil))) e_var) g_name)
      (s_seq (s_asg (e_comp (i_seq e_var) g_name (t_test (e_op o_in e_var e_var)) (l_last e_var)) g_name)
      (s_seq (s_asg (e_comp (i_seq e_var) g_name (t_test (e_op o_in e_var e_var)) (l_last e_var)) g_name)
      (s_seq (s_asg (e_lst (a_cons (e_tup (a_cons e_var (a_cons e_var (a_cons e_var a_nil)))) (a_cons (e_tup (a_cons e_var (a_cons e_var (a_cons e_var a_nil)))) a_nil))) g_name)
      (s_seq (s_if (t_test (e_op o_eqD e_var e_str)) (s_asg (e_lst (a_cons (e_tup (a_cons e_var (a_cons e_var (a_cons e_var a_nil)))) (a_cons (e_tup (a_cons e_var (a_cons e_var (a_cons e_var a_nil)))) a_nil))) g_name) s_next)
      (s_seq (s_if (t_test (e_op o_eqD e_var (e_lst a_nil))) (s_ret (e_call (a_cons (e_op o_ix (e_op o_ix e_var e_int) e_int) (a_cons (e_op o_ix (e_op o_ix e_var e_int) e_int) (a_cons e_var a_nil))))) s_next)
      (s_seq (s_if (t_test (e_op o_eqD e_var (e_lst a_nil))) (s_ret (e_call (a_cons (e_op o_ix (e_op o_ix e_var e_int) e_int) (a_cons (e_op o_ix (e_op o_ix e_var e_int) e_int) (a_cons e_var a_nil))))) s_next)
      (s_seq (s_asg (e_comp (i_seq e_var) (g_tup (g_cons g_name (g_cons g_name (g_cons g_name g_nil)))) t_no (l_last (e_call (a_cons e_var (a_cons e_var (a_cons e_var a_nil)))))) g_name)
      (s_ret (e_tup (a_cons (e_dget (e_disp (RefPs.cons e_str (RefPs.cons e_str RefPs.nil))) e_var) (a_cons (e_op o_ix e_var e_int) (a_cons (e_op o_ix e_var e_int) a_nil))))))))))))))),fun xs ω Q h=>?_⟩)
  obtain ⟨n,q,u,rfl,hn,hq,hh,hu,hd,k⟩:=h
  have hyl:=hq.1.le hn
  have hzl:=hq.2.le hn
  obtain ⟨h1,h2⟩:=has_iff.mp hh
  cases u with
  | en i =>
    obtain ⟨y0,yr,ey⟩:=List.exists_cons_of_ne_nil h1
    obtain ⟨i0,i1⟩:=hu
    have hyn : y0.length = n:=(wl_mem (hq.1.2 y0 (by rw [ey];exact List.mem_cons_self ..))).1
    obtain ⟨z,mz,hz',ez⟩:=map_nth (f:=AV.d ∘ D.int) (xs:=y0) i0 (by omega)
    rw [← List.map_map] at ez
    have ev : y0.getD i.toNat 0 = z:=by rw [List.getD_eq_getElem?_getD,hz'];rfl
    simp only [cutT,meanT,ey,List.headD_cons,ev] at k
    simp only [Ta.d]
    walk_at "s1"
    refine ⟨.d (wdD y0),atI_of 0 rfl (by rw [ey];rfl),_,.inr rfl,_,ez,_,rfl,?_⟩
    rw [only_self]
    exact k
  | nd h ws l rr =>
    have hE2 : ¬ (if h then ("yes" : Str) else ("no" : Str)) = "end":=by cases h<;>decide +kernel
    obtain ⟨hws,hl,hr⟩:=hu
    have hwsl:=hws.le hn
    simp only [Ta.dp] at hd
    obtain ⟨r',rfl⟩ : ∃ r',r = r' + 1:=⟨r - 1,by omega⟩
    cases hs r' rfl
    simp only [Ta.d]
    walk_at "s1"
    rw [if_neg hE2]
    walk_at "s1"
    walk_at "s1"
    refine ⟨yn_nd,fun pd hpd=>⟨_,rfl,.d (.lst ((if h then q.1 else q.2).map wdD)),by cases h;exact yn_val.2;exact yn_val.1,?_⟩⟩
    have hex : Ex ω (ω.put pd (OC.dic ([Str.ofString "yes",Str.ofString "no"].zip [AV.d (D.lst (q.1.map wdD)),AV.d (D.lst (q.2.map wdD))]))):=(Ex.refl _).new hpd
    generalize ω.put pd (OC.dic ([Str.ofString "yes",Str.ofString "no"].zip [AV.d (D.lst (q.1.map wdD)),AV.d (D.lst (q.2.map wdD))])) = ω1 at *
    have hol : (if h then q.1 else q.2).length≤32:=by cases h<;>simp<;>omega
    have hds : deps (ws.map wdD)≤90:=by have:=deps_wds ws;omega
    walk_at "s1"
    refine comp_ft wdD (fun v=>!decide (v∈ws)) wdD (Nat.le_of_lt (small1000 (by omega))) (fun v hv Q1 q1=>?_) (fun v hv _ Q1 q1=>?_) (fun ρ=>⟨_,und_map _,?_⟩)
    · walk_at "a1"
      refine ⟨hds,?_⟩
      rw [inD_wd]
      exact q1
    · walk_at "a1"
      exact q1
    walk_at "s1"
    refine comp_ft wdD (fun v=>decide (v∈ws)) wdD (Nat.le_of_lt (small1000 (by omega))) (fun v hv Q1 q1=>?_) (fun v hv _ Q1 q1=>?_) (fun ρ=>⟨_,und_map _,?_⟩)
    · walk_at "a1"
      refine ⟨hds,?_⟩
      rw [inD_wd]
      exact q1
    · walk_at "a1"
      exact q1
    walk_at "s1"
    refine seq_cut (fun ρ' ω'=>ω' = ω1∧ρ' = [some (AV.d (D.lst (q.1.map wdD))),some (AV.d (D.lst (q.2.map wdD))),some (AV.d (D.tup [D.str (if h then "yes" else "no"),D.tup (ws.map wdD),l.d,rr.d])),some (AV.d (D.str (if h then "yes" else "no"))),some (AV.d (D.tup (ws.map wdD))),some (AV.d l.d),some (AV.d rr.d),some (.d (.lst ((if h then q.1 else q.2).map wdD))),some (.d (.lst (((if h then q.1 else q.2).filter fun v=>!decide (v∈ws)).map wdD))),some (.d (.lst (((if h then q.1 else q.2).filter fun v=>decide (v∈ws)).map wdD))),some (.d (.lst [.tup [.lst ((goF h ws q).1.map wdD),.lst ((goF h ws q).2.map wdD),l.d],.tup [.lst ((goS h ws q).1.map wdD),.lst ((goS h ws q).2.map wdD),rr.d]])),none]) (fun M kM=>?_) ?_
    · cases h
      · walk_at "a1"
        exact kM _ _ ⟨rfl,rfl⟩
      · walk_at "a1"
        exact kM _ _ ⟨rfl,rfl⟩
    rintro ρ ω' ⟨rfl,rfl⟩
    have eqnil : ∀ ws : List (List Int),eqD (D.lst (ws.map wdD)) (D.lst []) = ws.isEmpty:=fun ws=>by cases ws<;>rfl
    have dw : ∀ ws : List (List Int),dep (D.lst (ws.map wdD))≤100:=fun ws=>by simp only [dep];have:=deps_wds ws;omega
    have n1 : q.1.isEmpty = false:=by cases e : q.1 with
      | nil=>exact absurd e h1
      | cons _ _=>rfl
    have n2 : q.2.isEmpty = false:=by cases e : q.2 with
      | nil=>exact absurd e h2
      | cons _ _=>rfl
    have eF : has (goF h ws q) = !((if h then q.1 else q.2).filter fun v=>!decide (v∈ws)).isEmpty:=by
      cases h<;>simp [goF,has,n1,n2]
    have eS : has (goS h ws q) = !((if h then q.1 else q.2).filter fun v=>decide (v∈ws)).isEmpty:=by
      cases h<;>simp [goS,has,n1,n2]
    simp only [cutT] at k
    walk_at "s1"
    refine ⟨dw _,?_⟩
    rw [eqnil]
    refine ite2 (fun a1=>?_) (fun a1=>?_)
    · have hF : has (goF h ws q) = false:=by rw [eF,a1];rfl
      have hSq:=goS_of hh hF
      rw [hF,if_neg (by decide)] at k
      rw [hSq]
      refine ⟨n,q,rr,rfl,hn,hq,hh,hr,by omega,_,rfl,?_⟩
      rw [only_ex hex]
      exact k
    have hF : has (goF h ws q) = true:=by rw [eF];simpa using a1
    rw [hF,if_pos rfl] at k
    walk_at "s1"
    refine ⟨dw _,?_⟩
    rw [eqnil]
    refine ite2 (fun a2=>?_) (fun a2=>?_)
    · have hS : has (goS h ws q) = false:=by rw [eS,a2];rfl
      have hFq:=goF_of hh hS
      rw [hS,if_neg (by decide)] at k
      rw [hFq]
      refine ⟨n,q,l,rfl,hn,hq,hh,hl,by omega,_,rfl,?_⟩
      rw [only_ex hex]
      exact k
    have hS : has (goS h ws q) = true:=by rw [eS];simpa using a2
    rw [hS,if_pos rfl] at k
    simp only [meanT] at k
    walk_at "s1"
    walk_at "ab"
    refine ⟨n,goF h ws q,l,rfl,hn,hq.f,hF,hl,by omega,by decide,n,goS h ws q,rr,rfl,hn,hq.s,hS,hr,by omega,by decide,_,rfl,yn_nd,fun p2 hp2=>⟨_,rfl,.d (.str (if !h then "and" else "or")),by cases h;exact yn_val.2;exact yn_val.1,_,rfl,_,rfl,_,rfl,?_⟩⟩
    rw [only_ex (hex.new hp2)]
    exact k
theorem ok_mean (T : Txt K mg t) : ∀ r,FnOk P w K mg base CX0 (r + 1) t.a_l_meaning t.d_l_meaning ["_law_yes","_law_no","_law_talk"] (lift (sp_mean r))
  | 0=>mean_step T 0 0 noSp fn_no (fun r' h=>by omega)
  | r + 1=>mean_step T (r + 1) (r + 1) _ (ok_mean T r) (fun r' h=>by cases h;rfl)
end
section
variable {P : Program} {w : World} {K : PySem.W.Frag} {mg : Str→Option Value} {base : Heap} {t : Adr}
def sp_sw : ASp:=fun xs ω Q=>∃ (p : Addr) (n : Nat),xs = [.r (.ref p),.d (.int n)]∧PlAt ω p∧1≤n∧n≤5∧∀ (ys zs : List (List Int)) (u : Ta) (c : Pl),Two n ys zs→u.ok n→GdT ys zs u→u.lvs≤40→Q (.d (.lst [caL n ys zs,Ta.dL u])) (ω.put p (plO c))
theorem pw5 (q : Nat) : (1 * 2 ^ q : Int) = ((2 ^ q : Nat) : Int):=by rw [Int.one_mul,Int.natCast_pow];rfl
theorem ok_small (T : Txt K mg t) : FnOk P w K mg base CX0 12 t.a_l_small t.d_l_small ["_law_state","_law_places"] (lift sp_sw):=by
  have G_l_next_of : FnOk P w K mg base CX0 1 t.a_l_next_of t.d_l_next_of ["_law_state","_law_many"] (lift sp_draw):=ok_draw T
  have G_l_all : FnOk P w K mg base CX0 1 t.a_l_all t.d_l_all ["_law_places"] (lift sp_all):=ok_all T
  have G_l_dealt : FnOk P w K mg base CX0 2 t.a_l_dealt t.d_l_dealt ["_law_state","_law_words","_law_many"] (lift sp_dealt):=ok_dealt T
  have G_l_parted : FnOk P w K mg base CX0 11 t.a_l_parted t.d_l_parted ["_law_state","_law_places","_law_yes","_law_no"] (lift (sp_ptd 8)):=ok_ptd T 8
  refine T.f_l_small.okD sc_l_small (fun xs ω Q h=>by obtain ⟨p,n,rfl,_⟩:=h;rfl) (fun cdv A outer s H E hr=>⟨_,_,(pss_cons (ps_set (i:=2) sc_l_small.nd rfl (Or.inl rfl) (pe_call G_l_dealt (hr.mono (by omega)) (by rfl) T.m_l_dealt T.k_l_dealt T.p_l_dealt .nil pass0 (pa_cons (pv 0) (pa_cons (pe_call G_l_all (hr.mono (by omega)) (by rfl) T.m_l_all T.k_l_all T.p_l_all .nil pass0 (pa_cons (pv 1) pa_nil)) (pa_cons (pe_callB (call_min2 rfl) (by rfl) T.b_min (by kernel_rfl) (pa_cons (pe_op op_shl pe_int (pv 1)) (pa_cons (pe_op (op_alt op_add (op_alt op_cat3 op_cat)) pe_int (pe_call G_l_next_of (hr.mono (by omega)) (by rfl) T.m_l_next_of T.k_l_next_of T.p_l_next_of .nil pass0 (pa_cons (pv 0) (pa_consC pe_int pa_nil)))) pa_nil))) pa_nil)))))
      (pss_cons (ps_set (i:=3) sc_l_small.nd rfl (Or.inr rfl) (pe_call G_l_dealt (hr.mono (by omega)) (by rfl) T.m_l_dealt T.k_l_dealt T.p_l_dealt .nil pass0 (pa_cons (pv 0) (pa_cons (pv 2) (pa_cons (pe_callB (call_max2 rfl) (by rfl) T.b_max (by kernel_rfl) (pa_consC pe_int (pa_cons (pe_callB (call_min3 rfl) (by rfl) T.b_min (by kernel_rfl) (pa_consC pe_int (pa_cons (pe_op op_sub (pe_callB (call_lenK K rfl) (by rfl) T.b_len (by kernel_rfl) (pa_cons (pv 2) pa_nil)) pe_int) (pa_cons (pe_op (op_alt op_add (op_alt op_cat3 op_cat)) pe_int (pe_call G_l_next_of (hr.mono (by omega)) (by rfl) T.m_l_next_of T.k_l_next_of T.p_l_next_of .nil pass0 (pa_cons (pv 0) (pa_cons (pe_callB (call_lenK K rfl) (by rfl) T.b_len (by kernel_rfl) (pa_cons (pv 2) pa_nil)) pa_nil)))) pa_nil)))) pa_nil))) pa_nil)))))
      (pss_cons (ps_set (i:=4) sc_l_small.nd rfl (Or.inl rfl) (pe_slice (sl_any K rfl) (pe_comp (N:=(["_law_word","_law_yes"] : List Str)) (src:=[none,some 3]) rfl (by show blkOk _ (defScope s_l_small) _ _ (["_law_state","_law_places","_law_words","_law_yes","_law_no"] : List Str) = true;decide +kernel) (by intro g' h;cases h) (pi_seq K rfl (pv 2)) (fun _ _ _ _ _ _=>(pg_name (i:=0) (show (["_law_word","_law_yes"] : List Str).Nodup by decide +kernel) rfl (Or.inl rfl))) (fun _ _ _ _ _ _=>(pts_one (pt_cmpR (op_notInD hr.u100) (pv 0) (pv 1) (by with_unfolding_all rfl)))) (fun _ _ _ _ _ _=>(pl_last rfl rfl (pv 0)))) po_none (po_some pe_int)))
      (pss_one (ps_ret (pe_lst (pa_consT (pe_tup (pa_cons (pv 1) (pa_cons (pv 3) (pa_cons (pv 4) pa_nil)))) (pa_cons (pe_call G_l_parted (hr.mono (by omega)) (by rfl) T.m_l_parted T.k_l_parted T.p_l_parted .nil pass0 (pa_cons (pv 0) (pa_cons (pv 1) (pa_cons (pv 3) (pa_cons (pv 4) pa_nil))))) pa_nil)))))))),(s_seq (s_asg (e_call (a_cons e_var (a_cons (e_call (a_cons e_var a_nil)) (a_cons (e_cb c_F2 (a_cons (e_op o_Ii e_int e_var) (a_cons (e_op o_add e_int (e_call (a_cons e_var (a_cons e_int a_nil)))) a_nil))) a_nil)))) g_name)
      (s_seq (s_asg (e_call (a_cons e_var (a_cons e_var (a_cons (e_cb c_F2 (a_cons e_int (a_cons (e_cb c_min3 (a_cons e_int (a_cons (e_op o_I0i (e_cb c_len (a_cons e_var a_nil)) e_int) (a_cons (e_op o_add e_int (e_call (a_cons e_var (a_cons (e_cb c_len (a_cons e_var a_nil)) a_nil)))) a_nil)))) a_nil))) a_nil)))) g_name)
      (s_seq (s_asg (e_sl (e_comp (i_seq e_var) g_name (t_test (e_op o_in e_var e_var)) (l_last e_var)) n_none (n_some e_int)) g_name)
      (s_ret (e_lst (a_cons (e_tup (a_cons e_var (a_cons e_var (a_cons e_var a_nil)))) (a_cons (e_call (a_cons e_var (a_cons e_var (a_cons e_var (a_cons e_var a_nil))))) a_nil))))))),fun xs ω Q h=>?_⟩)
  obtain ⟨p,n,rfl,hp,hn1,hn,k⟩:=h
  have hwl:=wl_le hn
  have hw2:=wl_two hn1
  have hwp:=wl_len n
  walk_at "s1"
  refine ⟨n,rfl,hn,⟨by omega,by omega,by decide⟩,p,9,rfl,hp,by decide,by decide,fun j c j0 j1=>⟨j,rfl,?_⟩⟩
  rw [pw5,← hwp]
  obtain ⟨m,hm,hm2⟩ : ∃ m : Nat,(if 2 + j < ((wl n).length : Int) then 2 + j else ((wl n).length : Int)) = (m : Int)∧2≤m∧m≤10:=by
    by_cases h : 2 + j < ((wl n).length : Int)
    · exact ⟨(2 + j).toNat,by rw [if_pos h];omega,by omega⟩
    · exact ⟨(wl n).length,by rw [if_neg h],by omega⟩
  rw [hm]
  refine ⟨p,wl n,m,rfl,plAt_put,hwl,fun W c hW hWl=>?_⟩
  rw [Om.put_put]
  have hW2 : 2≤W.length:=by omega
  have hWd : Wds n W:=Wds.sub hW hn
  walk_at "s1"
  refine ⟨p,W.length,rfl,plAt_put,by omega,by omega,fun r c r0 r1=>⟨r,rfl,?_⟩⟩
  rw [Om.put_put]
  obtain ⟨g,hg,hg1,hg2⟩ : ∃ g : Nat,(if min 6 (min ((W.length : Int) - 1) (1 + r)) > 1 then min 6 (min ((W.length : Int) - 1) (1 + r)) else 1) = (g : Int)∧1≤g∧g≤W.length - 1∧g≤6:=by
    refine ⟨(if min 6 (min ((W.length : Int) - 1) (1 + r)) > 1 then min 6 (min ((W.length : Int) - 1) (1 + r)) else 1).toNat,?_,?_,?_,?_⟩<;>split<;>omega
  rw [hg]
  refine ⟨p,W,g,rfl,plAt_put,by omega,fun Y c hY hYl=>?_⟩
  rw [Om.put_put]
  have hYl2 : Y.length = g:=by omega
  obtain ⟨s1,s2⟩:=split_sum hWd hY
  walk_at "s1"
  refine comp_ft wdD (fun v=>decide (v∈Y) == false) wdD (Nat.le_of_lt (small1000 (by omega))) (fun v hv Q q=>?_) (fun v hv _ Q q=>?_) (fun ρ=>⟨_,und_map _,?_⟩)
  · walk_at "a1"
    refine ⟨by have:=deps_wds Y;omega,?_⟩
    rw [inD_wd,show (!decide (v∈Y)) = (decide (v∈Y) == false) from by cases decide (v∈Y)<;>rfl]
    exact q
  · walk_at "a1"
    exact q
  have hRw : (W.filter fun v=>decide (v∈Y) == false).Sublist W:=List.filter_sublist
  have hRm : ∀ v∈(W.filter fun v=>decide (v∈Y) == false),v ∉ Y:=fun v hv=>by simpa using (List.mem_filter.mp hv).2
  generalize (W.filter fun v=>decide (v∈Y) == false) = R at *
  have ec : cutL (R.map wdD) none (some (4 : Int)) = (R.take 4).map wdD:=by
    rw [cutL_map]
    congr 1
    unfold cutL
    have:=HT.sIx_nat R.length R.length 4
    rw [show ((4 : Nat) : Int) = 4 from rfl] at this
    rw [this,HT.sIx_none]
    simp
  rw [ec]
  have hz1 : R.take 4≠[]:=fun e=>by
    have:=congrArg List.length e
    rw [List.length_take,List.length_nil] at this
    omega
  have hzl : (R.take 4).length≤4:=by rw [List.length_take];omega
  have hzs : (R.take 4).Sublist R:=List.take_sublist 4 R
  generalize R.take 4 = Z at *
  have T2 : Two n Y Z:=⟨Wds.sub (hY.trans hW) hn,Wds.sub ((hzs.trans hRw).trans hW) hn,fun e=>by rw [e] at hYl2;simp at hYl2;omega,hz1,fun v hv hz=>hRm v (hzs.mem hz) hv⟩
  refine ⟨p,n,Y,Z,rfl,plAt_put,hn1,hn,T2,by omega,fun u c uo ul gu=>⟨_,rfl,?_⟩⟩
  rw [Om.put_put,only_pl hp]
  refine k Y Z u c T2 uo gu (Nat.le_trans ul (Nat.le_trans (Nat.mul_le_mul (by omega : Y.length≤6) hzl) (by decide)))
theorem wl_has0 : ∀ n : Fin 6,∀ i : Fin 5,i.val < n.val→((wl n.val).any fun v=>decide (v.getD i.val 0 = 1)) = true∧((wl n.val).any fun v=>decide (v.getD i.val 0 = 0)) = true:=by decide +kernel
def both (n : Nat) (x : Sy) : Prop:=(∃ v∈wl n,x.val v = true)∧∃ v∈wl n,x.val v = false
theorem leaf_both {n : Nat} {i : Int} (hn : n≤5) (h0 : 0≤i) (h1 : i < n) : both n (.is i 1):=by
  obtain ⟨a,b⟩:=wl_has0 ⟨n,by omega⟩ ⟨i.toNat,by omega⟩ (by show i.toNat < n;omega)
  rw [List.any_eq_true] at a b
  obtain ⟨v,hv,ev⟩:=a
  obtain ⟨w,hw,ew⟩:=b
  refine ⟨⟨v,hv,ev⟩,w,hw,?_⟩
  rw [decide_eq_true_eq] at ew
  simp only [Sy.val,decide_eq_false_iff_not]
  exact fun h=>absurd (ew.symm.trans h) (by decide)
theorem ok_wide (T : Txt K mg t) : FnOk P w K mg base CX0 103 t.a_l_wide t.d_l_wide ["_law_state","_law_places"] (lift sp_sw):=by
  have G_l_next_of : FnOk P w K mg base CX0 1 t.a_l_next_of t.d_l_next_of ["_law_state","_law_many"] (lift sp_draw):=ok_draw T
  have G_l_all : FnOk P w K mg base CX0 1 t.a_l_all t.d_l_all ["_law_places"] (lift sp_all):=ok_all T
  have G_l_any_saying : FnOk P w K mg base CX0 39 t.a_l_any_saying t.d_l_any_saying ["_law_state","_law_places","_law_many"] (lift (sp_any 37)):=ok_any T 37
  have G_l_holds : FnOk P w K mg base CX0 41 t.a_l_holds t.d_l_holds ["_law_saying","_law_word"] (lift (sp_holds 40)):=ok_holds T 40
  have G_l_spoken_for : FnOk P w K mg base CX0 102 t.a_l_spoken_for t.d_l_spoken_for ["_law_yes","_law_no","_law_saying"] (lift (sp_spf 40)):=ok_spf T 40
  refine T.f_l_wide.okD sc_l_wide (fun xs ω Q h=>by obtain ⟨p,n,rfl,_⟩:=h;rfl) (fun cdv A outer s H E hr=>⟨_,_,(pss_cons (ps_set (i:=2) sc_l_wide.nd rfl (Or.inr rfl) (pe_call G_l_any_saying (hr.mono (by omega)) (by rfl) T.m_l_any_saying T.k_l_any_saying T.p_l_any_saying .nil pass0 (pa_cons (pv 0) (pa_cons (pv 1) (pa_cons (pe_op (op_alt op_add (op_alt op_cat3 op_cat)) pe_int (pe_call G_l_next_of (hr.mono (by omega)) (by rfl) T.m_l_next_of T.k_l_next_of T.p_l_next_of .nil pass0 (pa_cons (pv 0) (pa_consC pe_int pa_nil)))) pa_nil)))))
      (pss_cons (ps_set (i:=3) sc_l_wide.nd rfl (Or.inr rfl) (pe_comp (N:=(["_law_word","_law_saying"] : List Str)) (src:=[none,some 2]) rfl (by show blkOk _ (defScope s_l_wide) _ _ (["_law_state","_law_places","_law_saying","_law_yes","_law_no"] : List Str) = true;decide +kernel) (by intro g' h;cases h) (pi_seq K rfl (pe_call G_l_all (hr.mono (by omega)) (by rfl) T.m_l_all T.k_l_all T.p_l_all .nil pass0 (pa_cons (pv 1) pa_nil))) (fun _ _ _ _ _ _=>(pg_name (i:=0) (show (["_law_word","_law_saying"] : List Str).Nodup by decide +kernel) rfl (Or.inl rfl))) (fun _ _ _ _ _ _=>(pts_one (pt_truthK K rfl (pe_call G_l_holds (hr.mono (by omega)) (by rfl) T.m_l_holds T.k_l_holds T.p_l_holds .nil pass0 (pa_cons (pv 1) (pa_cons (pv 0) pa_nil))) (fun _=>rfl)))) (fun _ _ _ _ _ _=>(pl_last rfl rfl (pv 0)))))
      (pss_cons (ps_if (pt_cmpR (op_inD hr.u100) (pe_callB (call_lenK K rfl) (by rfl) T.b_len (by kernel_rfl) (pa_cons (pv 3) pa_nil)) (pe_tup (pa_consC pe_int (pa_cons (pe_op op_shl pe_int (pv 1)) pa_nil))) (by with_unfolding_all rfl)) (pss_cons (ps_set (i:=2) sc_l_wide.nd rfl (Or.inr rfl) (pe_tup (pa_cons (pe_dget2 (hu_of hr) (pe_disp (pps_cons pe_int pe_str pps_nil) rfl rfl (by simp) (by decide)) (pe_callB (call_lenK K rfl) (by rfl) T.b_len (by kernel_rfl) (pa_cons (pv 3) pa_nil)) pe_str ⟨rfl,rfl,rfl,rfl⟩) (pa_consT (pe_tup (pa_consC pe_str (pa_cons (pe_op op_sub (pv 1) pe_int) (pa_consC pe_int pa_nil)))) (pa_cons (pv 2) pa_nil)))))
      (pss_one (ps_set (i:=3) sc_l_wide.nd rfl (Or.inr rfl) (pe_comp (N:=(["_law_word","_law_saying"] : List Str)) (src:=[none,some 2]) rfl (by show blkOk _ (defScope s_l_wide) _ _ (["_law_state","_law_places","_law_saying","_law_yes","_law_no"] : List Str) = true;decide +kernel) (by intro g' h;cases h) (pi_seq K rfl (pe_call G_l_all (hr.mono (by omega)) (by rfl) T.m_l_all T.k_l_all T.p_l_all .nil pass0 (pa_cons (pv 1) pa_nil))) (fun _ _ _ _ _ _=>(pg_name (i:=0) (show (["_law_word","_law_saying"] : List Str).Nodup by decide +kernel) rfl (Or.inl rfl))) (fun _ _ _ _ _ _=>(pts_one (pt_truthK K rfl (pe_call G_l_holds (hr.mono (by omega)) (by rfl) T.m_l_holds T.k_l_holds T.p_l_holds .nil pass0 (pa_cons (pv 1) (pa_cons (pv 0) pa_nil))) (fun _=>rfl)))) (fun _ _ _ _ _ _=>(pl_last rfl rfl (pv 0))))))) pss_nil)
      (pss_cons (ps_setC (i:=4) sc_l_wide.nd rfl (Or.inl rfl) (N:=(["_law_word","_law_yes"] : List Str)) (src:=[none,some 3]) rfl (by show blkOk _ (defScope s_l_wide) _ _ (["_law_state","_law_places","_law_saying","_law_yes","_law_no"] : List Str) = true;decide +kernel) (by intro g' h;cases h) (pi_seq K rfl (pe_call G_l_all (hr.mono (by omega)) (by rfl) T.m_l_all T.k_l_all T.p_l_all .nil pass0 (pa_cons (pv 1) pa_nil))) (fun _ _ _ _ _ _=>(pg_name (i:=0) (show (["_law_word","_law_yes"] : List Str).Nodup by decide +kernel) rfl (Or.inl rfl))) (fun _ _ _ _ _ _=>(pts_one (pt_cmpR (op_notInD hr.u100) (pv 0) (pv 1) (by with_unfolding_all rfl)))) (fun _ _ _ _ _ _=>(pl_last rfl rfl (pv 0))))
      (pss_one (ps_ret (pe_lst (pa_consT (pe_tup (pa_cons (pv 1) (pa_cons (pv 3) (pa_cons (pv 4) pa_nil)))) (pa_cons (pe_call G_l_spoken_for (hr.mono (by omega)) (by rfl) T.m_l_spoken_for T.k_l_spoken_for T.p_l_spoken_for .nil pass0 (pa_cons (pv 3) (pa_cons (pv 4) (pa_cons (pv 2) pa_nil)))) pa_nil))))))))),(s_seq (s_asg (e_call (a_cons e_var (a_cons e_var (a_cons (e_op o_add e_int (e_call (a_cons e_var (a_cons e_int a_nil)))) a_nil)))) g_name)
      (s_seq (s_asg (e_comp (i_seq (e_call (a_cons e_var a_nil))) g_name (t_tru (e_call (a_cons e_var (a_cons e_var a_nil)))) (l_last e_var)) g_name)
      (s_seq (s_if (t_test (e_op o_in (e_cb c_len (a_cons e_var a_nil)) (e_tup (a_cons e_int (a_cons (e_op o_Ii e_int e_var) a_nil))))) (s_seq (s_asg (e_tup (a_cons (e_getI (e_cb c_len (a_cons e_var a_nil))) (a_cons (e_tup (a_cons e_str (a_cons (e_op o_I0i e_var e_int) (a_cons e_int a_nil)))) (a_cons e_var a_nil)))) g_name)
      (s_asg (e_comp (i_seq (e_call (a_cons e_var a_nil))) g_name (t_tru (e_call (a_cons e_var (a_cons e_var a_nil)))) (l_last e_var)) g_name)) s_next)
      (s_seq (s_asg (e_comp (i_seq (e_call (a_cons e_var a_nil))) g_name (t_test (e_op o_in e_var e_var)) (l_last e_var)) g_name)
      (s_ret (e_lst (a_cons (e_tup (a_cons e_var (a_cons e_var (a_cons e_var a_nil)))) (a_cons (e_call (a_cons e_var (a_cons e_var (a_cons e_var a_nil)))) a_nil)))))))),fun xs ω Q h=>?_⟩)
  obtain ⟨p,n,rfl,hp,hn1,hn,k⟩:=h
  have hwl:=wl_le hn
  have hw2:=wl_two hn1
  have hwp:=wl_len n
  have yes : ∀ (x : Sy) (ω : Om),x.ok n→x.dp≤40→∀ {v0 : Option AV} {KK : List AV→SA→Om→Prop},(∀ ρ,KK ((((wl n).filter fun v=>x.val v).map wdD).map AV.d) ρ ω)→aLoop (agName 0) (aTru (aCall (sp_holds 40) (aCons (aVar 1) (aCons (aVar 0) aNil)))) (aLast (aVar 0)) (((wl n).map wdD).map AV.d) [] [v0,some (.d x.d)] ω KK:=fun x ω hx hd v0 KK hk=>by
    refine comp_ft wdD (fun v=>x.val v) wdD (Nat.le_of_lt (small1000 (by omega))) (fun v hv Q q=>?_) (fun v hv _ Q q=>?_) hk
    · walk_at "a1"
      exact ⟨x,v,rfl,by rw [(wl_mem hv).1];exact hx,hd,_,rfl,q⟩
    · walk_at "a1"
      exact q
  walk_at "s1"
  refine ⟨p,38,rfl,hp,by decide,by decide,fun j c j0 j1=>⟨j,rfl,?_⟩⟩
  obtain ⟨m,hm⟩ : ∃ m : Nat,1 + j = (m : Int):=⟨(1 + j).toNat,by omega⟩
  rw [hm]
  refine ⟨p,n,m,rfl,plAt_put,hn1,hn,by omega,by omega,by decide,fun x c hx hxd hxl=>?_⟩
  rw [Om.put_put]
  walk_at "s1"
  refine ⟨n,rfl,hn,?_⟩
  walk_at "a1"
  refine yes x _ hx (by omega) fun ρ=>⟨_,und_map _,?_⟩
  refine seq_cut (fun ρ' ω'=>∃ (x' : Sy),ω' = ω.put p (plO c)∧x'.ok n∧x'.dp≤40∧x'.lvs≤40∧both n x'∧ρ' = [some (AV.r (V.ref p)),some (AV.d (D.int n)),some (AV.d x'.d),some (.d (.lst (((wl n).filter fun v=>x'.val v).map wdD))),none]) (fun M kM=>?_) ?_
  · walk_at "a1"
    refine ⟨⟨by omega,by omega,by decide⟩,by simp [deps,dep],?_⟩
    rw [pw5,← hwp,show inD (D.int ↑(List.filter (fun v=>Sy.val v x) (wl n)).length) [D.int 0,D.int ((wl n).length : Nat)] = (decide ((List.filter (fun v=>Sy.val v x) (wl n)).length = 0) || decide ((List.filter (fun v=>Sy.val v x) (wl n)).length = (wl n).length)) from by
      simp only [inD,eqD_int,List.any_cons,List.any_nil,Bool.or_false]
      congr 1
      · rw [Bool.eq_iff_iff];simp only [beq_iff_eq,decide_eq_true_eq];omega
      · rw [Bool.eq_iff_iff];simp only [beq_iff_eq,decide_eq_true_eq];omega]
    refine ite2 (fun h=>?_) (fun h=>kM _ _ ⟨x,rfl,hx,by omega,by omega,?_,rfl⟩)
    · obtain ⟨e,he,e2⟩ : ∃ e : Bool,(∀ v∈wl n,x.val v = e)∧(if ((List.filter (fun v=>Sy.val v x) (wl n)).length : Int) = 0 then Str.ofString "or" else Str.ofString "and") = (if e then ("and" : Str) else ("or" : Str)):=by
        rw [Bool.or_eq_true,decide_eq_true_eq,decide_eq_true_eq] at h
        by_cases h0 : (List.filter (fun v=>Sy.val v x) (wl n)).length = 0
        · refine ⟨false,fun v hv=>?_,by rw [if_pos (by omega)];rfl⟩
          have:=List.filter_eq_nil_iff.mp (List.eq_nil_of_length_eq_zero h0) v hv
          simpa using this
        · refine ⟨true,fun v hv=>?_,by rw [if_neg (by omega)];rfl⟩
          exact List.length_filter_eq_length_iff.mp (h.resolve_left h0) v hv
      walk_at "s1"
      rw [e2]
      obtain ⟨⟨v1,m1,e1⟩,⟨v2,m2,e2⟩⟩:=leaf_both (n:=n) (i:=(n : Int) - 1) hn (by omega) (by omega)
      refine ⟨_,rfl,?_⟩
      have hok : (Sy.jn e (.is ((n : Int) - 1) 1) x).ok n:=⟨⟨by omega,by omega,.inr rfl⟩,hx⟩
      have hdp : (Sy.jn e (.is ((n : Int) - 1) 1) x).dp≤40:=by simp only [Sy.dp];omega
      refine ⟨hn,_,rfl,?_⟩
      refine yes (.jn e (.is ((n : Int) - 1) 1) x) _ hok hdp fun ρ=>⟨_,und_map _,?_⟩
      refine kM _ _ ⟨.jn e (.is ((n : Int) - 1) 1) x,rfl,hok,hdp,by simp only [Sy.lvs];omega,⟨⟨v1,m1,?_⟩,v2,m2,?_⟩,rfl⟩
      · have:=he v1 m1
        cases e<;>simp_all [Sy.val]
      · have:=he v2 m2
        cases e<;>simp_all [Sy.val]
    · simp only [Bool.or_eq_true,decide_eq_true_eq,not_or] at h
      obtain ⟨h1,h2⟩:=h
      refine ⟨?_,?_⟩
      · obtain ⟨v,hv⟩:=List.exists_mem_of_length_pos (Nat.pos_of_ne_zero h1)
        exact ⟨v,(List.mem_filter.mp hv).1,(List.mem_filter.mp hv).2⟩
      · by_cases q : ∀ v∈wl n,x.val v = true
        · exact absurd (List.length_filter_eq_length_iff.mpr q) h2
        · obtain ⟨v,hv⟩:=Classical.not_forall.mp q
          obtain ⟨hv,e⟩:=Classical.not_imp.mp hv
          exact ⟨v,hv,by simpa using e⟩
  rintro ρ ω' ⟨x',rfl,ho,hdp,hlv,⟨⟨y1,my1,ey1⟩,z1,mz1,ez1⟩,rfl⟩
  walk_at "s1"
  refine ⟨n,rfl,hn,?_⟩
  walk_at "a1"
  refine comp_ft wdD (fun v=>!x'.val v) wdD (Nat.le_of_lt (small1000 (by omega))) (fun v hv Q q=>?_) (fun v hv _ Q q=>?_) (fun ρ=>⟨_,und_map _,?_⟩)
  · walk_at "a1"
    refine ⟨by have:=deps_wds ((wl n).filter fun v=>x'.val v);omega,?_⟩
    rw [inD_wd,show decide (v∈(wl n).filter fun v=>x'.val v) = x'.val v from by rw [Bool.eq_iff_iff];simp [hv]]
    exact q
  · walk_at "a1"
    exact q
  have sy : ((wl n).filter fun v=>x'.val v).Sublist (wl n):=List.filter_sublist
  have sz : ((wl n).filter fun v=>!x'.val v).Sublist (wl n):=List.filter_sublist
  have hy1 : y1∈(wl n).filter fun v=>x'.val v:=List.mem_filter.mpr ⟨my1,ey1⟩
  have hz1 : z1∈(wl n).filter fun v=>!x'.val v:=List.mem_filter.mpr ⟨mz1,by rw [ez1];rfl⟩
  have vy : ∀ v∈(wl n).filter fun v=>x'.val v,x'.val v = true:=fun v hv=>(List.mem_filter.mp hv).2
  have vz : ∀ v∈(wl n).filter fun v=>!x'.val v,x'.val v = false:=fun v hv=>by simpa using (List.mem_filter.mp hv).2
  generalize ((wl n).filter fun v=>x'.val v) = Y at *
  generalize ((wl n).filter fun v=>!x'.val v) = Z at *
  have hY:=Wds.sub sy hn
  have hZ:=Wds.sub sz hn
  have T2 : Two n Y Z:=⟨hY,hZ,List.ne_nil_of_mem hy1,List.ne_nil_of_mem hz1,fun v hv hz=>by have:=vy v hv;rw [vz v hz] at this;cases this⟩
  refine ⟨n,Y,Z,x',rfl,hn,hY,hZ,ho,hdp,by decide,_,rfl,?_⟩
  rw [only_pl hp]
  obtain ⟨o1,o2,o3⟩:=talkOf_ok hY hZ ho
  have o4:=Ta.size_lvs (talkOf Y Z x')
  exact k Y Z _ c T2 o1 (fun y hy z hz=>(talkOf_fin hy hz (hZ.2 z hz) ho (vy y hy) (vz z hz)).1) (by omega)
end
section
variable {P : Program} {w : World} {K : PySem.W.Frag} {mg : Str→Option Value} {base : Heap} {t : Adr}
theorem Sy.rep {n : Nat} (hn : n≤5) : ∀ {x : Sy},x.ok n→wt x.d≤200 * x.lvs - 100∧fit x.d = true∧dep x.d≤x.dp + 2∧1≤x.lvs
  | .is i b,⟨i0,i1,hb⟩=>by
    have hl:=log2_le i0 (by omega)
    have hl2:=log2_le (i:=b) (by omega) (by omega)
    have hr : (reprText ("is" : Str)).length = 4:=by decide +kernel
    simp only [Sy.d,wt,wts,fit,fits,dep,deps,Sy.dp,Sy.lvs,hr,Bool.and_true,Bool.true_and,Bool.and_eq_true,decide_eq_true_eq]
    omega
  | .jn a l r,⟨hl,hr⟩=>by
    obtain ⟨a1,a2,a3,a4⟩:=Sy.rep hn hl
    obtain ⟨b1,b2,b3,b4⟩:=Sy.rep hn hr
    have hr : (reprText (if a then "and" else "or" : Str)).length≤5:=by cases a<;>decide +kernel
    simp only [Sy.d,wt,wts,fit,fits,dep,deps,Sy.dp,Sy.lvs,a2,b2,Bool.and_true,true_and]
    omega
def itD (n : Nat) (ys zs : List (List Int)) (u : Ta) : D:=.tup [csD n ys zs,u.d,(meanT (ys,zs) (cutT u (ys,zs))).d]
def ItP (d : D) : Prop:=∃ n ys zs u,d = itD n ys zs u∧n≤5∧Two n ys zs∧u.ok n∧GdT ys zs u∧u.size≤87
theorem gd_lets {ys zs : List (List Int)} {u : Ta} (h : GdT ys zs u) : ((prl ys zs).find? (fau false u)).isNone = true:=by
  rw [Option.isNone_iff_eq_none,List.find?_eq_none]
  rintro ⟨y,z⟩ hm
  obtain ⟨my,mz⟩:=mem_prl.mp hm
  have:=h y my z mz
  simpa [fau,ppB] using this
theorem ok_law (T : Txt K mg t) : FnOk P t.wo K mg base CX0 200 t.a_law t.d_law ["_law_script"] (sp_law K):=by
  have G_l_begun : FnOk P t.wo K mg base CX0 1 t.a_l_begun t.d_l_begun ["_law_script"] (lift (sp_pen K)):=ok_pen T
  have G_l_next_of : FnOk P t.wo K mg base CX0 1 t.a_l_next_of t.d_l_next_of ["_law_state","_law_many"] (lift sp_draw):=ok_draw T
  have G_l_small : FnOk P t.wo K mg base CX0 12 t.a_l_small t.d_l_small ["_law_state","_law_places"] (lift sp_sw):=ok_small T
  have G_l_wide : FnOk P t.wo K mg base CX0 103 t.a_l_wide t.d_l_wide ["_law_state","_law_places"] (lift sp_sw):=ok_wide T
  have G_l_wrapped : FnOk P t.wo K mg base CX0 93 t.a_l_wrapped t.d_l_wrapped ["_law_state","_law_case","_law_talk"] (lift (sp_wrap 90)):=ok_wrap T 90
  have G_l_strewn : FnOk P t.wo K mg base CX0 92 t.a_l_strewn t.d_l_strewn ["_law_state","_law_case","_law_talk"] (lift (sp_strewn 90)):=ok_strewn T 90
  have G_l_meaning : FnOk P t.wo K mg base CX0 91 t.a_l_meaning t.d_l_meaning ["_law_yes","_law_no","_law_talk"] (lift (sp_mean 90)):=ok_mean T 90
  have G_saying_of : FnOk P t.wo K mg base CX0 4 t.a_saying_of t.d_saying_of ["case","talk"] (lift sp_syof):=ok_syof T
  refine T.f_law.okA sc_law (fun xs ω Q h=>by obtain ⟨a,ns,rfl,_⟩:=h;rfl) (fun cdv A outer s H E hr=>⟨_,_,(pss_cons (ps_set (i:=1) sc_law.nd rfl (Or.inl rfl) (pe_call G_l_begun (hr.mono (by omega)) (by rfl) T.m_l_begun T.k_l_begun T.p_l_begun .nil pass0 (pa_cons (pv 0) pa_nil)))
      (pss_cons (ps_set (i:=2) sc_law.nd rfl (Or.inl rfl) (pe_lst pa_nil))
      (pss_cons (ps_for PassesOwn.never rfl (pi_range1 rfl T.b_range (pa_consC pe_int pa_nil)) (pg_name (i:=3) sc_law.nd rfl (Or.inl rfl)) (pss_cons (ps_set (i:=4) sc_law.nd rfl (Or.inl rfl) (pe_op (op_alt op_add (op_alt op_cat3 op_cat)) pe_int (pe_call G_l_next_of (hr.mono (by omega)) (by rfl) T.m_l_next_of T.k_l_next_of T.p_l_next_of .nil pass0 (pa_cons (pv 1) (pa_consC pe_int pa_nil)))))
      (pss_cons (ps_if (pt_cmpR (op_eqD hr.u100) (pe_call G_l_next_of (hr.mono (by omega)) (by rfl) T.m_l_next_of T.k_l_next_of T.p_l_next_of .nil pass0 (pa_cons (pv 1) (pa_consC pe_int pa_nil))) pe_int (nomark _)) (pss_one (ps_asg (pe_call G_l_small (hr.mono (by omega)) (by rfl) T.m_l_small T.k_l_small T.p_l_small .nil pass0 (pa_cons (pv 1) (pa_cons (pv 4) pa_nil))) (pg_any K rfl (n:=2) rfl (pgs_cons (pg_name (i:=5) sc_law.nd rfl (Or.inl rfl)) (pgs_cons (pg_name (i:=6) sc_law.nd rfl (Or.inl rfl)) pgs_nil))))) (pss_one (ps_asg (pe_call G_l_wide (hr.mono (by omega)) (by rfl) T.m_l_wide T.k_l_wide T.p_l_wide .nil pass0 (pa_cons (pv 1) (pa_cons (pv 4) pa_nil))) (pg_any K rfl (n:=2) rfl (pgs_cons (pg_name (i:=5) sc_law.nd rfl (Or.inl rfl)) (pgs_cons (pg_name (i:=6) sc_law.nd rfl (Or.inl rfl)) pgs_nil))))))
      (pss_cons (ps_for PassesOwn.never rfl (pi_range1 rfl T.b_range (pa_cons (pe_call G_l_next_of (hr.mono (by omega)) (by rfl) T.m_l_next_of T.k_l_next_of T.p_l_next_of .nil pass0 (pa_cons (pv 1) (pa_consC pe_int pa_nil))) pa_nil)) (pg_name (i:=7) sc_law.nd rfl (Or.inl rfl)) (pss_one (ps_set (i:=6) sc_law.nd rfl (Or.inl rfl) (pe_call G_l_wrapped (hr.mono (by omega)) (by rfl) T.m_l_wrapped T.k_l_wrapped T.p_l_wrapped .nil pass0 (pa_cons (pv 1) (pa_cons (pv 5) (pa_cons (pv 6) pa_nil)))))))
      (pss_cons (ps_set (i:=6) sc_law.nd rfl (Or.inl rfl) (pe_call G_l_strewn (hr.mono (by omega)) (by rfl) T.m_l_strewn T.k_l_strewn T.p_l_strewn .nil pass0 (pa_cons (pv 1) (pa_cons (pv 5) (pa_cons (pv 6) pa_nil)))))
      (pss_cons (ps_set (i:=8) sc_law.nd rfl (Or.inl rfl) (pe_call G_l_meaning (hr.mono (by omega)) (by rfl) T.m_l_meaning T.k_l_meaning T.p_l_meaning .nil pass0 (pa_cons (pe_ix (ix_seqK K rfl) (pv 5) pe_int (fun _ _=>rfl)) (pa_cons (pe_ix (ix_seqK K rfl) (pv 5) pe_int (fun _ _=>rfl)) (pa_cons (pv 6) pa_nil)))))
      (pss_one (ps_expr (pe_bm PySem.F.plainAttrs_list PySem.F.slot_list_append PySem.F.type_list_append mt_append (pv 2) (pa_consT (pe_tup (pa_consT (pe_tup (pa_cons (pv 4) (pa_cons (pe_callTy (call_tuple_ofK K rfl) (by rfl) T.b_tuple (by kernel_rfl) (pa_cons (pe_ix (ix_seqK K rfl) (pv 5) pe_int (fun _ _=>rfl)) pa_nil)) (pa_cons (pe_callTy (call_tuple_ofK K rfl) (by rfl) T.b_tuple (by kernel_rfl) (pa_cons (pe_ix (ix_seqK K rfl) (pv 5) pe_int (fun _ _=>rfl)) pa_nil)) pa_nil)))) (pa_cons (pv 6) (pa_cons (pv 8) pa_nil)))) pa_nil))))))))))
      (pss_cons (ps_for PassesOwn.never rfl (pi_seq K rfl (pe_op (op_alt op_add (op_alt op_cat3 op_cat)) (pv 2) (pv 2))) (pg_tupK K rfl (n:=3) rfl (pgs_cons (pg_name (i:=5) sc_law.nd rfl (Or.inl rfl)) (pgs_cons (pg_name (i:=6) sc_law.nd rfl (Or.inl rfl)) (pgs_cons (pg_name (i:=8) sc_law.nd rfl (Or.inl rfl)) pgs_nil)))) (pss_one (ps_if (pt_cmpR (op_neD hr.u100) (pe_callB (call_reprX hr.gd hr.u100) (by rfl) T.b_repr (by kernel_rfl) (pa_cons (pe_call G_saying_of (hr.mono (by omega)) (by rfl) T.m_saying_of T.k_saying_of T.p_saying_of .nil pass0 (pa_cons (pv 5) (pa_cons (pv 6) pa_nil))) pa_nil)) (pe_callB (call_reprX hr.gd hr.u100) (by rfl) T.b_repr (by kernel_rfl) (pa_cons (pv 8) pa_nil)) (nomark _)) (pss_one (ps_ret pe_bl)) pss_nil)))
      (pss_one (ps_ret pe_bl)))))),(s_seq (s_asg (e_call (a_cons e_var a_nil)) g_name)
      (s_seq (s_asg (e_lstO a_nil) g_name)
      (s_seq (s_for (i_rng1 (a_cons e_int a_nil)) g_name (s_seq (s_asg (e_op o_add e_int (e_call (a_cons e_var (a_cons e_int a_nil)))) g_name)
      (s_seq (s_if (t_test (e_op o_eqD (e_call (a_cons e_var (a_cons e_int a_nil))) e_int)) (s_asg (e_call (a_cons e_var (a_cons e_var a_nil))) (g_any (g_cons g_name (g_cons g_name g_nil)))) (s_asg (e_call (a_cons e_var (a_cons e_var a_nil))) (g_any (g_cons g_name (g_cons g_name g_nil)))))
      (s_seq (s_for (i_rng1 (a_cons (e_call (a_cons e_var (a_cons e_int a_nil))) a_nil)) g_name (s_asg (e_call (a_cons e_var (a_cons e_var (a_cons e_var a_nil)))) g_name))
      (s_seq (s_asg (e_call (a_cons e_var (a_cons e_var (a_cons e_var a_nil)))) g_name)
      (s_seq (s_asg (e_call (a_cons (e_op o_ix e_var e_int) (a_cons (e_op o_ix e_var e_int) (a_cons e_var a_nil)))) g_name)
      (s_drop (e_append e_var (a_cons (e_tup (a_cons (e_tup (a_cons e_var (a_cons (e_cb c_tuple (a_cons (e_op o_ix e_var e_int) a_nil)) (a_cons (e_cb c_tuple (a_cons (e_op o_ix e_var e_int) a_nil)) a_nil)))) (a_cons e_var (a_cons e_var a_nil)))) a_nil)))))))))
      (s_seq (s_for (i_seq (e_op o_add e_var e_var)) (g_tup (g_cons g_name (g_cons g_name (g_cons g_name g_nil)))) (s_if (t_test (e_op o_eqD (e_cb c_reprX (a_cons (e_call (a_cons e_var (a_cons e_var a_nil))) a_nil)) (e_cb c_reprX (a_cons e_var a_nil)))) (s_ret e_bl) s_next))
      (s_ret e_bl))))),fun xs ω Q h=>?_⟩)
  obtain ⟨a,ns,rfl,hl,rfl,k⟩:=h
  walk_at "s1"
  refine ⟨a,ns,rfl,hl,fun p c hp0=>?_⟩
  walk_at "s1"
  intro l hl0
  obtain ⟨nlp,hl0⟩:=put_free hl0
  show aSeq _ _ _ _ (om2 (fun _=>none) p l (plO c) (.own []))
  walk_at "s1"
  refine ⟨by decide,by decide,for_rng (fun i ρ ω'=>∃ (ds : List D) (c : Pl) (v3 v4 v5 v6 v7 v8 : Option AV),ω' = om2 (fun _=>none) p l (plO c) (.own (ds.map AV.d))∧ds.length = i∧(∀ d∈ds,ItP d)∧ρ = [some (scrL K a ns),some (AV.r (V.ref p)),some (AV.r (V.ref l)),v3,v4,v5,v6,v7,v8]) ⟨[],c,_,_,_,_,_,_,rfl,rfl,fun d hd=>absurd hd (by simp),rfl⟩ ?_ ?_⟩
  · rintro i ρ ω' N hi ⟨ds,c,v3,v4,v5,v6,v7,v8,rfl,hdl,hds,rfl⟩ kN
    walk_at "s1"
    refine ⟨p,5,rfl,⟨c,om2_p nlp.symm⟩,by decide,by decide,fun r c r0 r1=>⟨_,rfl,?_⟩⟩
    rw [om2_pp nlp.symm]
    obtain ⟨n,hn⟩ : ∃ n : Nat,1 + r = (n : Int):=⟨(1 + r).toNat,by omega⟩
    have hn1 : 1≤n:=by omega
    have hn5 : n≤5:=by omega
    rw [hn]
    refine seq_cut (fun ρ' ω'=>∃ (ys zs : List (List Int)) (u : Ta) (c : Pl),ω' = om2 (fun _=>none) p l (plO c) (.own (ds.map AV.d))∧Two n ys zs∧u.ok n∧GdT ys zs u∧u.lvs≤40∧ρ' = [some (scrL K a ns),some (AV.r (V.ref p)),some (AV.r (V.ref l)),some (AV.d (D.int (0 + (i : Nat)))),some (AV.d (D.int n)),some (.d (caL n ys zs)),some (.d (Ta.dL u)),v7,v8]) (fun M kM=>?_) ?_
    · walk_at "a1"
      refine ⟨p,2,rfl,⟨c,om2_p nlp.symm⟩,by decide,by decide,fun b c b0 b1=>⟨_,rfl,by simp [dep],?_⟩⟩
      rw [om2_pp nlp.symm]
      refine ite2 (fun h1=>?_) (fun h1=>?_)
      · refine ⟨p,n,rfl,⟨c,om2_p nlp.symm⟩,hn1,hn5,fun ys zs u c T2 uo gu ul=>?_⟩
        rw [om2_pp nlp.symm]
        refine ⟨_,.inr rfl,rfl,?_⟩
        walk_at "a1"
        exact kM _ _ ⟨ys,zs,u,c,rfl,T2,uo,gu,ul,rfl⟩
      · refine ⟨p,n,rfl,⟨c,om2_p nlp.symm⟩,hn1,hn5,fun ys zs u c T2 uo gu ul=>?_⟩
        rw [om2_pp nlp.symm]
        refine ⟨_,.inr rfl,rfl,?_⟩
        walk_at "a1"
        exact kM _ _ ⟨ys,zs,u,c,rfl,T2,uo,gu,ul,rfl⟩
    rintro ρ ω' ⟨ys,zs,u,c,rfl,T2,uo,gu,ul,rfl⟩
    have usz:=Ta.size_lvs u
    refine seq_cut (fun ρ' ω'=>∃ (v : Ta) (c : Pl) (v7 : Option AV),ω' = om2 (fun _=>none) p l (plO c) (.own (ds.map AV.d))∧v.ok n∧GdT ys zs v∧v.size≤87∧ρ' = [some (scrL K a ns),some (AV.r (V.ref p)),some (AV.r (V.ref l)),some (AV.d (D.int (0 + (i : Nat)))),some (AV.d (D.int n)),some (.d (caL n ys zs)),some (.d (Ta.dL v)),v7,v8]) (fun M kM=>?_) ?_
    · walk_at "a1"
      refine ⟨p,3,rfl,⟨c,om2_p nlp.symm⟩,by decide,by decide,fun b c b0 b1=>⟨_,rfl,?_⟩⟩
      rw [om2_pp nlp.symm]
      refine ⟨by omega,by omega,for_rng (fun j ρ ω'=>∃ (v : Ta) (c : Pl) (v7 : Option AV),ω' = om2 (fun _=>none) p l (plO c) (.own (ds.map AV.d))∧v.ok n∧GdT ys zs v∧v.size≤79 + 4 * j∧ρ = [some (scrL K a ns),some (AV.r (V.ref p)),some (AV.r (V.ref l)),some (AV.d (D.int (0 + (i : Nat)))),some (AV.d (D.int n)),some (.d (caL n ys zs)),some (.d (Ta.dL v)),v7,v8]) ⟨u,c,_,rfl,uo,gu,by omega,rfl⟩ ?_ ?_⟩
      · rintro j ρ ω' N hj ⟨v,c,v7,rfl,vo,gv,vs,rfl⟩ kN
        have vdp:=ta_dp v
        walk_at "a1"
        refine ⟨p,n,ys,zs,v,rfl,⟨c,om2_p nlp.symm⟩,hn1,hn5,T2,vo,by omega,fun v2 c vo2 vs2 sm=>?_⟩
        rw [om2_pp nlp.symm]
        exact kN _ _ ⟨v2,c,_,rfl,vo2,fun y hy z hz=>by rw [sm y hy z hz];exact gv y hy z hz,by omega,rfl⟩
      · rintro ρ ω' ⟨v,c,v7,rfl,vo,gv,vs,rfl⟩
        exact kM _ _ ⟨v,c,_,rfl,vo,gv,by omega,rfl⟩
    rintro ρ ω' ⟨v,c,v7,rfl,vo,gv,vs,rfl⟩
    have vdp:=ta_dp v
    walk_at "s1"
    refine ⟨p,n,ys,zs,v,rfl,⟨c,om2_p nlp.symm⟩,hn1,hn5,T2,vo,by omega,fun v2 c vo2 vs2 vd2 sm=>?_⟩
    rw [om2_pp nlp.symm]
    have gv2 : GdT ys zs v2:=fun y hy z hz=>by rw [sm y hy z hz];exact gv y hy z hz
    simp only [caL]
    walk_at "s1"
    refine ⟨n,(ys,zs),v2,rfl,hn5,⟨T2.y,T2.z⟩,has_iff.mpr ⟨T2.y1,T2.z1⟩,vo2,by omega,?_⟩
    walk_at "a1"
    refine ⟨⟨_,om2_l⟩,_,om2_l,by rw [List.length_map];exact Nat.lt_of_le_of_lt (by omega : ds.length≤2) (by simp [sizeLine]),?_⟩
    rw [om2_pl]
    refine kN _ _ ⟨ds ++ [itD n ys zs v2],c,_,_,_,_,_,_,by rw [List.map_append];rfl,by simp [hdl],fun d hd=>?_,rfl⟩
    rcases List.mem_append.mp hd with h | h
    · exact hds d h
    · rw [List.mem_singleton.mp h]
      exact ⟨n,ys,zs,v2,rfl,hn5,T2,vo2,gv2,by omega⟩
  rintro ρ ω' ⟨ds,c,v3,v4,v5,v6,v7,v8,rfl,hdl,hds,rfl⟩
  dsimp only
  walk_at "s1"
  rw [om2_l]
  dsimp only
  rw [und_map]
  refine ⟨ds,rfl,ds,rfl,Nat.le_of_lt (small1000 (by omega)),?_⟩
  refine for_D (fun i ρ ω'=>∃ v3 v4 v5 v6 v7 v8 : Option AV,ρ = [some (scrL K a ns),some (AV.r (V.ref p)),some (AV.r (V.ref l)),v3,v4,v5,v6,v7,v8]) ⟨_,_,_,_,_,_,rfl⟩ ?_ ?_
  · rintro i d ρ ω' N hd ⟨v3,v4,v5,v6,v7,v8,rfl⟩ kN
    have hm : ItP d:=by
      rcases List.mem_append.mp (List.mem_of_getElem? hd) with h | h<;>exact hds d h
    obtain ⟨n,ys,zs,u,rfl,hn5,T2,uo,gu,us⟩:=hm
    have hw : Ww n (ys,zs):=⟨T2.y,T2.z⟩
    obtain ⟨co,cd,cs⟩:=cutT_ok (ys,zs) uo
    obtain ⟨m1,m2,m3⟩:=mean_ok _ _ hw co
    obtain ⟨r1,r2,r3,r4⟩:=Sy.rep hn5 m1
    have sd:=ta_dp u
    have sl:=Ta.size_lvs (cutT u (ys,zs))
    have sz:=cut_size u (ys,zs)
    simp only [itD]
    walk_at "a1"
    have hs : notS (meanT (ys,zs) (cutT u (ys,zs))).d = true:=by cases (meanT (ys,zs) (cutT u (ys,zs)))<;>rfl
    refine ⟨n,(ys,zs),u,rfl,hn5,hw,has_iff.mpr ⟨T2.y1,T2.z1⟩,uo,by omega,gd_lets gu,?_⟩
    refine ⟨_,rfl,hs,by omega,r2,by omega,hs,by omega,r2,by omega,?_⟩
    rw [if_neg (by simp)]
    exact kN _ _ ⟨_,_,_,_,_,_,rfl⟩
  · rintro ρ ω' ⟨v3,v4,v5,v6,v7,v8,rfl⟩
    walk_at "a1"
    exact k _
end
theorem ok_lawW {P : Program} {w : World} {K : PySem.W.Frag} {mg : Str→Option Value} {base : Heap} {t : Adr} (hw : t.wo = w) (T : Txt K mg t) : FnOk P w K mg base CX0 200 t.a_law t.d_law ["_law_script"] (sp_law K):=by
  subst hw;exact ok_law T
theorem txt_mk (w : World) {K : PySem.W.Frag} {h : Heap} {mg : Str→Option Value} (X : K.In h) (G : h.Ns mainGlobals mg)
    {a_went_on : Addr} {od_went_on an_went_on : Option Addr} {sl_went_on : Array (Option Value)} {oc_went_on kV_went_on dc_went_on pm_went_on cd_went_on ct_went_on : Value}
    {a_ends_of : Addr} {od_ends_of an_ends_of : Option Addr} {sl_ends_of : Array (Option Value)} {oc_ends_of kV_ends_of dc_ends_of pm_ends_of cd_ends_of ct_ends_of : Value}
    {a_has_pairs : Addr} {od_has_pairs an_has_pairs : Option Addr} {sl_has_pairs : Array (Option Value)} {oc_has_pairs kV_has_pairs dc_has_pairs pm_has_pairs cd_has_pairs ct_has_pairs : Value}
    {a_kept_upward : Addr} {od_kept_upward an_kept_upward : Option Addr} {sl_kept_upward : Array (Option Value)} {oc_kept_upward kV_kept_upward dc_kept_upward pm_kept_upward cd_kept_upward ct_kept_upward : Value}
    {a_cut : Addr} {od_cut an_cut : Option Addr} {sl_cut : Array (Option Value)} {oc_cut kV_cut dc_cut pm_cut cd_cut ct_cut : Value}
    {a_upward : Addr} {od_upward an_upward : Option Addr} {sl_upward : Array (Option Value)} {oc_upward kV_upward dc_upward pm_upward cd_upward ct_upward : Value}
    {a_pairs_in : Addr} {od_pairs_in an_pairs_in : Option Addr} {sl_pairs_in : Array (Option Value)} {oc_pairs_in kV_pairs_in dc_pairs_in pm_pairs_in cd_pairs_in ct_pairs_in : Value}
    {a_spoken : Addr} {od_spoken an_spoken : Option Addr} {sl_spoken : Array (Option Value)} {oc_spoken kV_spoken dc_spoken pm_spoken cd_spoken ct_spoken : Value}
    {a_parts_pair : Addr} {od_parts_pair an_parts_pair : Option Addr} {sl_parts_pair : Array (Option Value)} {oc_parts_pair kV_parts_pair dc_parts_pair pm_parts_pair cd_parts_pair ct_parts_pair : Value}
    {a_fault : Addr} {od_fault an_fault : Option Addr} {sl_fault : Array (Option Value)} {oc_fault kV_fault dc_fault pm_fault cd_fault ct_fault : Value}
    {a_lets_by : Addr} {od_lets_by an_lets_by : Option Addr} {sl_lets_by : Array (Option Value)} {oc_lets_by kV_lets_by dc_lets_by pm_lets_by cd_lets_by ct_lets_by : Value}
    {a_saying_of : Addr} {od_saying_of an_saying_of : Option Addr} {sl_saying_of : Array (Option Value)} {oc_saying_of kV_saying_of dc_saying_of pm_saying_of cd_saying_of ct_saying_of : Value}
    {a_l_begun : Addr} {od_l_begun an_l_begun : Option Addr} {sl_l_begun : Array (Option Value)} {oc_l_begun kV_l_begun dc_l_begun pm_l_begun cd_l_begun ct_l_begun : Value}
    {a_l_next_of : Addr} {od_l_next_of an_l_next_of : Option Addr} {sl_l_next_of : Array (Option Value)} {oc_l_next_of kV_l_next_of dc_l_next_of pm_l_next_of cd_l_next_of ct_l_next_of : Value}
    {a_l_all : Addr} {od_l_all an_l_all : Option Addr} {sl_l_all : Array (Option Value)} {oc_l_all kV_l_all dc_l_all pm_l_all cd_l_all ct_l_all : Value}
    {a_l_dealt : Addr} {od_l_dealt an_l_dealt : Option Addr} {sl_l_dealt : Array (Option Value)} {oc_l_dealt kV_l_dealt dc_l_dealt pm_l_dealt cd_l_dealt ct_l_dealt : Value}
    {a_l_shared : Addr} {od_l_shared an_l_shared : Option Addr} {sl_l_shared : Array (Option Value)} {oc_l_shared kV_l_shared dc_l_shared pm_l_shared cd_l_shared ct_l_shared : Value}
    {a_l_parted : Addr} {od_l_parted an_l_parted : Option Addr} {sl_l_parted : Array (Option Value)} {oc_l_parted kV_l_parted dc_l_parted pm_l_parted cd_l_parted ct_l_parted : Value}
    {a_l_any_saying : Addr} {od_l_any_saying an_l_any_saying : Option Addr} {sl_l_any_saying : Array (Option Value)} {oc_l_any_saying kV_l_any_saying dc_l_any_saying pm_l_any_saying cd_l_any_saying ct_l_any_saying : Value}
    {a_l_holds : Addr} {od_l_holds an_l_holds : Option Addr} {sl_l_holds : Array (Option Value)} {oc_l_holds kV_l_holds dc_l_holds pm_l_holds cd_l_holds ct_l_holds : Value}
    {a_l_spoken_for : Addr} {od_l_spoken_for an_l_spoken_for : Option Addr} {sl_l_spoken_for : Array (Option Value)} {oc_l_spoken_for kV_l_spoken_for dc_l_spoken_for pm_l_spoken_for cd_l_spoken_for ct_l_spoken_for : Value}
    {a_l_wrapped : Addr} {od_l_wrapped an_l_wrapped : Option Addr} {sl_l_wrapped : Array (Option Value)} {oc_l_wrapped kV_l_wrapped dc_l_wrapped pm_l_wrapped cd_l_wrapped ct_l_wrapped : Value}
    {a_l_strewn : Addr} {od_l_strewn an_l_strewn : Option Addr} {sl_l_strewn : Array (Option Value)} {oc_l_strewn kV_l_strewn dc_l_strewn pm_l_strewn cd_l_strewn ct_l_strewn : Value}
    {a_l_meaning : Addr} {od_l_meaning an_l_meaning : Option Addr} {sl_l_meaning : Array (Option Value)} {oc_l_meaning kV_l_meaning dc_l_meaning pm_l_meaning cd_l_meaning ct_l_meaning : Value}
    {a_l_small : Addr} {od_l_small an_l_small : Option Addr} {sl_l_small : Array (Option Value)} {oc_l_small kV_l_small dc_l_small pm_l_small cd_l_small ct_l_small : Value}
    {a_l_wide : Addr} {od_l_wide an_l_wide : Option Addr} {sl_l_wide : Array (Option Value)} {oc_l_wide kV_l_wide dc_l_wide pm_l_wide cd_l_wide ct_l_wide : Value}
    {a_law : Addr} {od_law an_law : Option Addr} {sl_law : Array (Option Value)} {oc_law kV_law dc_law pm_law cd_law ct_law : Value}
    {a_JOIN_OF_HAND : Addr} {ep_JOIN_OF_HAND : Nat} {u_JOIN_OF_HAND_0 v_JOIN_OF_HAND_0 u_JOIN_OF_HAND_1 v_JOIN_OF_HAND_1 : Tok}
    (g_went_on : PySem.W.nsIn K mainGlobals "went_on" = some (some (.ref a_went_on))) (l_went_on : K.lookup a_went_on = some ⟨oc_went_on,od_went_on,.func (PySem.W.fnOf "went_on" "went_on" (defArgs s_went_on) (defBody s_went_on) (defScope s_went_on) .none kV_went_on dc_went_on pm_went_on an_went_on cd_went_on ct_went_on),sl_went_on⟩) (c_went_on : PySem.W.codeIn K cd_went_on "went_on" = true) (e_went_on : PySem.W.keepIn K (.ref a_went_on) = true)
    (g_ends_of : PySem.W.nsIn K mainGlobals "ends_of" = some (some (.ref a_ends_of))) (l_ends_of : K.lookup a_ends_of = some ⟨oc_ends_of,od_ends_of,.func (PySem.W.fnOf "ends_of" "ends_of" (defArgs s_ends_of) (defBody s_ends_of) (defScope s_ends_of) .none kV_ends_of dc_ends_of pm_ends_of an_ends_of cd_ends_of ct_ends_of),sl_ends_of⟩) (c_ends_of : PySem.W.codeIn K cd_ends_of "ends_of" = true) (e_ends_of : PySem.W.keepIn K (.ref a_ends_of) = true)
    (g_has_pairs : PySem.W.nsIn K mainGlobals "has_pairs" = some (some (.ref a_has_pairs))) (l_has_pairs : K.lookup a_has_pairs = some ⟨oc_has_pairs,od_has_pairs,.func (PySem.W.fnOf "has_pairs" "has_pairs" (defArgs s_has_pairs) (defBody s_has_pairs) (defScope s_has_pairs) .none kV_has_pairs dc_has_pairs pm_has_pairs an_has_pairs cd_has_pairs ct_has_pairs),sl_has_pairs⟩) (c_has_pairs : PySem.W.codeIn K cd_has_pairs "has_pairs" = true) (e_has_pairs : PySem.W.keepIn K (.ref a_has_pairs) = true)
    (g_kept_upward : PySem.W.nsIn K mainGlobals "kept_upward" = some (some (.ref a_kept_upward))) (l_kept_upward : K.lookup a_kept_upward = some ⟨oc_kept_upward,od_kept_upward,.func (PySem.W.fnOf "kept_upward" "kept_upward" (defArgs s_kept_upward) (defBody s_kept_upward) (defScope s_kept_upward) .none kV_kept_upward dc_kept_upward pm_kept_upward an_kept_upward cd_kept_upward ct_kept_upward),sl_kept_upward⟩) (c_kept_upward : PySem.W.codeIn K cd_kept_upward "kept_upward" = true) (e_kept_upward : PySem.W.keepIn K (.ref a_kept_upward) = true)
    (g_cut : PySem.W.nsIn K mainGlobals "cut" = some (some (.ref a_cut))) (l_cut : K.lookup a_cut = some ⟨oc_cut,od_cut,.func (PySem.W.fnOf "cut" "cut" (defArgs s_cut) (defBody s_cut) (defScope s_cut) .none kV_cut dc_cut pm_cut an_cut cd_cut ct_cut),sl_cut⟩) (c_cut : PySem.W.codeIn K cd_cut "cut" = true) (e_cut : PySem.W.keepIn K (.ref a_cut) = true)
    (g_upward : PySem.W.nsIn K mainGlobals "upward" = some (some (.ref a_upward))) (l_upward : K.lookup a_upward = some ⟨oc_upward,od_upward,.func (PySem.W.fnOf "upward" "upward" (defArgs s_upward) (defBody s_upward) (defScope s_upward) .none kV_upward dc_upward pm_upward an_upward cd_upward ct_upward),sl_upward⟩) (c_upward : PySem.W.codeIn K cd_upward "upward" = true) (e_upward : PySem.W.keepIn K (.ref a_upward) = true)
    (g_pairs_in : PySem.W.nsIn K mainGlobals "pairs_in" = some (some (.ref a_pairs_in))) (l_pairs_in : K.lookup a_pairs_in = some ⟨oc_pairs_in,od_pairs_in,.func (PySem.W.fnOf "pairs_in" "pairs_in" (defArgs s_pairs_in) (defBody s_pairs_in) (defScope s_pairs_in) .none kV_pairs_in dc_pairs_in pm_pairs_in an_pairs_in cd_pairs_in ct_pairs_in),sl_pairs_in⟩) (c_pairs_in : PySem.W.codeIn K cd_pairs_in "pairs_in" = true) (e_pairs_in : PySem.W.keepIn K (.ref a_pairs_in) = true)
    (g_spoken : PySem.W.nsIn K mainGlobals "spoken" = some (some (.ref a_spoken))) (l_spoken : K.lookup a_spoken = some ⟨oc_spoken,od_spoken,.func (PySem.W.fnOf "spoken" "spoken" (defArgs s_spoken) (defBody s_spoken) (defScope s_spoken) .none kV_spoken dc_spoken pm_spoken an_spoken cd_spoken ct_spoken),sl_spoken⟩) (c_spoken : PySem.W.codeIn K cd_spoken "spoken" = true) (e_spoken : PySem.W.keepIn K (.ref a_spoken) = true)
    (g_parts_pair : PySem.W.nsIn K mainGlobals "parts_pair" = some (some (.ref a_parts_pair))) (l_parts_pair : K.lookup a_parts_pair = some ⟨oc_parts_pair,od_parts_pair,.func (PySem.W.fnOf "parts_pair" "parts_pair" (defArgs s_parts_pair) (defBody s_parts_pair) (defScope s_parts_pair) .none kV_parts_pair dc_parts_pair pm_parts_pair an_parts_pair cd_parts_pair ct_parts_pair),sl_parts_pair⟩) (c_parts_pair : PySem.W.codeIn K cd_parts_pair "parts_pair" = true) (e_parts_pair : PySem.W.keepIn K (.ref a_parts_pair) = true)
    (g_fault : PySem.W.nsIn K mainGlobals "fault" = some (some (.ref a_fault))) (l_fault : K.lookup a_fault = some ⟨oc_fault,od_fault,.func (PySem.W.fnOf "fault" "fault" (defArgs s_fault) (defBody s_fault) (defScope s_fault) .none kV_fault dc_fault pm_fault an_fault cd_fault ct_fault),sl_fault⟩) (c_fault : PySem.W.codeIn K cd_fault "fault" = true) (e_fault : PySem.W.keepIn K (.ref a_fault) = true)
    (g_lets_by : PySem.W.nsIn K mainGlobals "lets_by" = some (some (.ref a_lets_by))) (l_lets_by : K.lookup a_lets_by = some ⟨oc_lets_by,od_lets_by,.func (PySem.W.fnOf "lets_by" "lets_by" (defArgs s_lets_by) (defBody s_lets_by) (defScope s_lets_by) .none kV_lets_by dc_lets_by pm_lets_by an_lets_by cd_lets_by ct_lets_by),sl_lets_by⟩) (c_lets_by : PySem.W.codeIn K cd_lets_by "lets_by" = true) (e_lets_by : PySem.W.keepIn K (.ref a_lets_by) = true)
    (g_saying_of : PySem.W.nsIn K mainGlobals "saying_of" = some (some (.ref a_saying_of))) (l_saying_of : K.lookup a_saying_of = some ⟨oc_saying_of,od_saying_of,.func (PySem.W.fnOf "saying_of" "saying_of" (defArgs s_saying_of) (defBody s_saying_of) (defScope s_saying_of) .none kV_saying_of dc_saying_of pm_saying_of an_saying_of cd_saying_of ct_saying_of),sl_saying_of⟩) (c_saying_of : PySem.W.codeIn K cd_saying_of "saying_of" = true) (e_saying_of : PySem.W.keepIn K (.ref a_saying_of) = true)
    (g_l_begun : PySem.W.nsIn K mainGlobals "_law_begun" = some (some (.ref a_l_begun))) (l_l_begun : K.lookup a_l_begun = some ⟨oc_l_begun,od_l_begun,.func (PySem.W.fnOf "_law_begun" "_law_begun" (defArgs s_l_begun) (defBody s_l_begun) (defScope s_l_begun) .none kV_l_begun dc_l_begun pm_l_begun an_l_begun cd_l_begun ct_l_begun),sl_l_begun⟩) (c_l_begun : PySem.W.codeIn K cd_l_begun "_law_begun" = true) (e_l_begun : PySem.W.keepIn K (.ref a_l_begun) = true)
    (g_l_next_of : PySem.W.nsIn K mainGlobals "_law_next_of" = some (some (.ref a_l_next_of))) (l_l_next_of : K.lookup a_l_next_of = some ⟨oc_l_next_of,od_l_next_of,.func (PySem.W.fnOf "_law_next_of" "_law_next_of" (defArgs s_l_next_of) (defBody s_l_next_of) (defScope s_l_next_of) .none kV_l_next_of dc_l_next_of pm_l_next_of an_l_next_of cd_l_next_of ct_l_next_of),sl_l_next_of⟩) (c_l_next_of : PySem.W.codeIn K cd_l_next_of "_law_next_of" = true) (e_l_next_of : PySem.W.keepIn K (.ref a_l_next_of) = true)
    (g_l_all : PySem.W.nsIn K mainGlobals "_law_all" = some (some (.ref a_l_all))) (l_l_all : K.lookup a_l_all = some ⟨oc_l_all,od_l_all,.func (PySem.W.fnOf "_law_all" "_law_all" (defArgs s_l_all) (defBody s_l_all) (defScope s_l_all) .none kV_l_all dc_l_all pm_l_all an_l_all cd_l_all ct_l_all),sl_l_all⟩) (c_l_all : PySem.W.codeIn K cd_l_all "_law_all" = true) (e_l_all : PySem.W.keepIn K (.ref a_l_all) = true)
    (g_l_dealt : PySem.W.nsIn K mainGlobals "_law_dealt" = some (some (.ref a_l_dealt))) (l_l_dealt : K.lookup a_l_dealt = some ⟨oc_l_dealt,od_l_dealt,.func (PySem.W.fnOf "_law_dealt" "_law_dealt" (defArgs s_l_dealt) (defBody s_l_dealt) (defScope s_l_dealt) .none kV_l_dealt dc_l_dealt pm_l_dealt an_l_dealt cd_l_dealt ct_l_dealt),sl_l_dealt⟩) (c_l_dealt : PySem.W.codeIn K cd_l_dealt "_law_dealt" = true) (e_l_dealt : PySem.W.keepIn K (.ref a_l_dealt) = true)
    (g_l_shared : PySem.W.nsIn K mainGlobals "_law_shared" = some (some (.ref a_l_shared))) (l_l_shared : K.lookup a_l_shared = some ⟨oc_l_shared,od_l_shared,.func (PySem.W.fnOf "_law_shared" "_law_shared" (defArgs s_l_shared) (defBody s_l_shared) (defScope s_l_shared) .none kV_l_shared dc_l_shared pm_l_shared an_l_shared cd_l_shared ct_l_shared),sl_l_shared⟩) (c_l_shared : PySem.W.codeIn K cd_l_shared "_law_shared" = true) (e_l_shared : PySem.W.keepIn K (.ref a_l_shared) = true)
    (g_l_parted : PySem.W.nsIn K mainGlobals "_law_parted" = some (some (.ref a_l_parted))) (l_l_parted : K.lookup a_l_parted = some ⟨oc_l_parted,od_l_parted,.func (PySem.W.fnOf "_law_parted" "_law_parted" (defArgs s_l_parted) (defBody s_l_parted) (defScope s_l_parted) .none kV_l_parted dc_l_parted pm_l_parted an_l_parted cd_l_parted ct_l_parted),sl_l_parted⟩) (c_l_parted : PySem.W.codeIn K cd_l_parted "_law_parted" = true) (e_l_parted : PySem.W.keepIn K (.ref a_l_parted) = true)
    (g_l_any_saying : PySem.W.nsIn K mainGlobals "_law_any_saying" = some (some (.ref a_l_any_saying))) (l_l_any_saying : K.lookup a_l_any_saying = some ⟨oc_l_any_saying,od_l_any_saying,.func (PySem.W.fnOf "_law_any_saying" "_law_any_saying" (defArgs s_l_any_saying) (defBody s_l_any_saying) (defScope s_l_any_saying) .none kV_l_any_saying dc_l_any_saying pm_l_any_saying an_l_any_saying cd_l_any_saying ct_l_any_saying),sl_l_any_saying⟩) (c_l_any_saying : PySem.W.codeIn K cd_l_any_saying "_law_any_saying" = true) (e_l_any_saying : PySem.W.keepIn K (.ref a_l_any_saying) = true)
    (g_l_holds : PySem.W.nsIn K mainGlobals "_law_holds" = some (some (.ref a_l_holds))) (l_l_holds : K.lookup a_l_holds = some ⟨oc_l_holds,od_l_holds,.func (PySem.W.fnOf "_law_holds" "_law_holds" (defArgs s_l_holds) (defBody s_l_holds) (defScope s_l_holds) .none kV_l_holds dc_l_holds pm_l_holds an_l_holds cd_l_holds ct_l_holds),sl_l_holds⟩) (c_l_holds : PySem.W.codeIn K cd_l_holds "_law_holds" = true) (e_l_holds : PySem.W.keepIn K (.ref a_l_holds) = true)
    (g_l_spoken_for : PySem.W.nsIn K mainGlobals "_law_spoken_for" = some (some (.ref a_l_spoken_for))) (l_l_spoken_for : K.lookup a_l_spoken_for = some ⟨oc_l_spoken_for,od_l_spoken_for,.func (PySem.W.fnOf "_law_spoken_for" "_law_spoken_for" (defArgs s_l_spoken_for) (defBody s_l_spoken_for) (defScope s_l_spoken_for) .none kV_l_spoken_for dc_l_spoken_for pm_l_spoken_for an_l_spoken_for cd_l_spoken_for ct_l_spoken_for),sl_l_spoken_for⟩) (c_l_spoken_for : PySem.W.codeIn K cd_l_spoken_for "_law_spoken_for" = true) (e_l_spoken_for : PySem.W.keepIn K (.ref a_l_spoken_for) = true)
    (g_l_wrapped : PySem.W.nsIn K mainGlobals "_law_wrapped" = some (some (.ref a_l_wrapped))) (l_l_wrapped : K.lookup a_l_wrapped = some ⟨oc_l_wrapped,od_l_wrapped,.func (PySem.W.fnOf "_law_wrapped" "_law_wrapped" (defArgs s_l_wrapped) (defBody s_l_wrapped) (defScope s_l_wrapped) .none kV_l_wrapped dc_l_wrapped pm_l_wrapped an_l_wrapped cd_l_wrapped ct_l_wrapped),sl_l_wrapped⟩) (c_l_wrapped : PySem.W.codeIn K cd_l_wrapped "_law_wrapped" = true) (e_l_wrapped : PySem.W.keepIn K (.ref a_l_wrapped) = true)
    (g_l_strewn : PySem.W.nsIn K mainGlobals "_law_strewn" = some (some (.ref a_l_strewn))) (l_l_strewn : K.lookup a_l_strewn = some ⟨oc_l_strewn,od_l_strewn,.func (PySem.W.fnOf "_law_strewn" "_law_strewn" (defArgs s_l_strewn) (defBody s_l_strewn) (defScope s_l_strewn) .none kV_l_strewn dc_l_strewn pm_l_strewn an_l_strewn cd_l_strewn ct_l_strewn),sl_l_strewn⟩) (c_l_strewn : PySem.W.codeIn K cd_l_strewn "_law_strewn" = true) (e_l_strewn : PySem.W.keepIn K (.ref a_l_strewn) = true)
    (g_l_meaning : PySem.W.nsIn K mainGlobals "_law_meaning" = some (some (.ref a_l_meaning))) (l_l_meaning : K.lookup a_l_meaning = some ⟨oc_l_meaning,od_l_meaning,.func (PySem.W.fnOf "_law_meaning" "_law_meaning" (defArgs s_l_meaning) (defBody s_l_meaning) (defScope s_l_meaning) .none kV_l_meaning dc_l_meaning pm_l_meaning an_l_meaning cd_l_meaning ct_l_meaning),sl_l_meaning⟩) (c_l_meaning : PySem.W.codeIn K cd_l_meaning "_law_meaning" = true) (e_l_meaning : PySem.W.keepIn K (.ref a_l_meaning) = true)
    (g_l_small : PySem.W.nsIn K mainGlobals "_law_small" = some (some (.ref a_l_small))) (l_l_small : K.lookup a_l_small = some ⟨oc_l_small,od_l_small,.func (PySem.W.fnOf "_law_small" "_law_small" (defArgs s_l_small) (defBody s_l_small) (defScope s_l_small) .none kV_l_small dc_l_small pm_l_small an_l_small cd_l_small ct_l_small),sl_l_small⟩) (c_l_small : PySem.W.codeIn K cd_l_small "_law_small" = true) (e_l_small : PySem.W.keepIn K (.ref a_l_small) = true)
    (g_l_wide : PySem.W.nsIn K mainGlobals "_law_wide" = some (some (.ref a_l_wide))) (l_l_wide : K.lookup a_l_wide = some ⟨oc_l_wide,od_l_wide,.func (PySem.W.fnOf "_law_wide" "_law_wide" (defArgs s_l_wide) (defBody s_l_wide) (defScope s_l_wide) .none kV_l_wide dc_l_wide pm_l_wide an_l_wide cd_l_wide ct_l_wide),sl_l_wide⟩) (c_l_wide : PySem.W.codeIn K cd_l_wide "_law_wide" = true) (e_l_wide : PySem.W.keepIn K (.ref a_l_wide) = true)
    (g_law : PySem.W.nsIn K mainGlobals "law" = some (some (.ref a_law))) (l_law : K.lookup a_law = some ⟨oc_law,od_law,.func (PySem.W.fnOf "law" "law" (defArgs s_law) (defBody s_law) (defScope s_law) .none kV_law dc_law pm_law an_law cd_law ct_law),sl_law⟩) (c_law : PySem.W.codeIn K cd_law "law" = true) (e_law : PySem.W.keepIn K (.ref a_law) = true)
    (g_JOIN_OF_HAND : PySem.W.nsIn K mainGlobals "JOIN_OF_HAND" = some (some (.ref a_JOIN_OF_HAND))) (l_JOIN_OF_HAND : K.lookup a_JOIN_OF_HAND = some { cls:=.type "dict",data:=.dict #[⟨PyData.keyHash w.params "yes",.str "yes" u_JOIN_OF_HAND_0,.str "or" v_JOIN_OF_HAND_0⟩,⟨PyData.keyHash w.params "no",.str "no" u_JOIN_OF_HAND_1,.str "and" v_JOIN_OF_HAND_1⟩] ep_JOIN_OF_HAND })
    (z_abs : PySem.W.nsIn K mainGlobals "abs" = some none)
    (z_len : PySem.W.nsIn K mainGlobals "len" = some none)
    (z_list : PySem.W.nsIn K mainGlobals "list" = some none)
    (z_max : PySem.W.nsIn K mainGlobals "max" = some none)
    (z_min : PySem.W.nsIn K mainGlobals "min" = some none)
    (z_range : PySem.W.nsIn K mainGlobals "range" = some none)
    (z_repr : PySem.W.nsIn K mainGlobals "repr" = some none)
    (z_sorted : PySem.W.nsIn K mainGlobals "sorted" = some none)
    (z_tuple : PySem.W.nsIn K mainGlobals "tuple" = some none) : ∃ t,t.wo = w∧Txt K mg t:=by
  have F_went_on:=fun_mk (st:=s_went_on) l_went_on c_went_on e_went_on
  have F_ends_of:=fun_mk (st:=s_ends_of) l_ends_of c_ends_of e_ends_of
  have F_has_pairs:=fun_mk (st:=s_has_pairs) l_has_pairs c_has_pairs e_has_pairs
  have F_kept_upward:=fun_mk (st:=s_kept_upward) l_kept_upward c_kept_upward e_kept_upward
  have F_cut:=fun_mk (st:=s_cut) l_cut c_cut e_cut
  have F_upward:=fun_mk (st:=s_upward) l_upward c_upward e_upward
  have F_pairs_in:=fun_mk (st:=s_pairs_in) l_pairs_in c_pairs_in e_pairs_in
  have F_spoken:=fun_mk (st:=s_spoken) l_spoken c_spoken e_spoken
  have F_parts_pair:=fun_mk (st:=s_parts_pair) l_parts_pair c_parts_pair e_parts_pair
  have F_fault:=fun_mk (st:=s_fault) l_fault c_fault e_fault
  have F_lets_by:=fun_mk (st:=s_lets_by) l_lets_by c_lets_by e_lets_by
  have F_saying_of:=fun_mk (st:=s_saying_of) l_saying_of c_saying_of e_saying_of
  have F_l_begun:=fun_mk (st:=s_l_begun) l_l_begun c_l_begun e_l_begun
  have F_l_next_of:=fun_mk (st:=s_l_next_of) l_l_next_of c_l_next_of e_l_next_of
  have F_l_all:=fun_mk (st:=s_l_all) l_l_all c_l_all e_l_all
  have F_l_dealt:=fun_mk (st:=s_l_dealt) l_l_dealt c_l_dealt e_l_dealt
  have F_l_shared:=fun_mk (st:=s_l_shared) l_l_shared c_l_shared e_l_shared
  have F_l_parted:=fun_mk (st:=s_l_parted) l_l_parted c_l_parted e_l_parted
  have F_l_any_saying:=fun_mk (st:=s_l_any_saying) l_l_any_saying c_l_any_saying e_l_any_saying
  have F_l_holds:=fun_mk (st:=s_l_holds) l_l_holds c_l_holds e_l_holds
  have F_l_spoken_for:=fun_mk (st:=s_l_spoken_for) l_l_spoken_for c_l_spoken_for e_l_spoken_for
  have F_l_wrapped:=fun_mk (st:=s_l_wrapped) l_l_wrapped c_l_wrapped e_l_wrapped
  have F_l_strewn:=fun_mk (st:=s_l_strewn) l_l_strewn c_l_strewn e_l_strewn
  have F_l_meaning:=fun_mk (st:=s_l_meaning) l_l_meaning c_l_meaning e_l_meaning
  have F_l_small:=fun_mk (st:=s_l_small) l_l_small c_l_small e_l_small
  have F_l_wide:=fun_mk (st:=s_l_wide) l_l_wide c_l_wide e_l_wide
  have F_law:=fun_mk (st:=s_law) l_law c_law e_law
  exact ⟨⟨a_went_on,_,a_ends_of,_,a_has_pairs,_,a_kept_upward,_,a_cut,_,a_upward,_,a_pairs_in,_,a_spoken,_,a_parts_pair,_,a_fault,_,a_lets_by,_,a_saying_of,_,a_l_begun,_,a_l_next_of,_,a_l_all,_,a_l_dealt,_,a_l_shared,_,a_l_parted,_,a_l_any_saying,_,a_l_holds,_,a_l_spoken_for,_,a_l_wrapped,_,a_l_strewn,_,a_l_meaning,_,a_l_small,_,a_l_wide,_,a_law,_,w,a_JOIN_OF_HAND⟩,rfl,⟨PySem.W.mg_of X G g_went_on,F_went_on,e_went_on,F_went_on.binds3 (p0:="turn") (p1:="yes") (p2:="no") fun _ _ _ _ _ _ _ _ _=>rfl,
    PySem.W.mg_of X G g_ends_of,F_ends_of,e_ends_of,F_ends_of.binds2 (p0:="case") (p1:="talk") fun _ _ _ _ _ _ _ _=>rfl,
    PySem.W.mg_of X G g_has_pairs,F_has_pairs,e_has_pairs,F_has_pairs.binds1 (p0:="words") fun _ _ _ _ _ _ _=>rfl,
    PySem.W.mg_of X G g_kept_upward,F_kept_upward,e_kept_upward,F_kept_upward.binds2 (p0:="case") (p1:="talk") fun _ _ _ _ _ _ _ _=>rfl,
    PySem.W.mg_of X G g_cut,F_cut,e_cut,F_cut.binds2 (p0:="case") (p1:="talk") fun _ _ _ _ _ _ _ _=>rfl,
    PySem.W.mg_of X G g_upward,F_upward,e_upward,F_upward.binds2 (p0:="tree") (p1:="leaf") fun _ _ _ _ _ _ _ _=>rfl,
    PySem.W.mg_of X G g_pairs_in,F_pairs_in,e_pairs_in,F_pairs_in.binds1 (p0:="case") fun _ _ _ _ _ _ _=>rfl,
    PySem.W.mg_of X G g_spoken,F_spoken,e_spoken,F_spoken.binds3 (p0:="talk") (p1:="yes") (p2:="no") fun _ _ _ _ _ _ _ _ _=>rfl,
    PySem.W.mg_of X G g_parts_pair,F_parts_pair,e_parts_pair,F_parts_pair.binds4 (p0:="rule") (p1:="place") (p2:="yes") (p3:="no") fun _ _ _ _ _ _ _ _ _ _=>rfl,
    PySem.W.mg_of X G g_fault,F_fault,e_fault,F_fault.binds3 (p0:="case") (p1:="rule") (p2:="talk") fun _ _ _ _ _ _ _ _ _=>rfl,
    PySem.W.mg_of X G g_lets_by,F_lets_by,e_lets_by,F_lets_by.binds3 (p0:="case") (p1:="rule") (p2:="talk") fun _ _ _ _ _ _ _ _ _=>rfl,
    PySem.W.mg_of X G g_saying_of,F_saying_of,e_saying_of,F_saying_of.binds2 (p0:="case") (p1:="talk") fun _ _ _ _ _ _ _ _=>rfl,
    PySem.W.mg_of X G g_l_begun,F_l_begun,e_l_begun,F_l_begun.binds1 (p0:="_law_script") fun _ _ _ _ _ _ _=>rfl,
    PySem.W.mg_of X G g_l_next_of,F_l_next_of,e_l_next_of,F_l_next_of.binds2 (p0:="_law_state") (p1:="_law_many") fun _ _ _ _ _ _ _ _=>rfl,
    PySem.W.mg_of X G g_l_all,F_l_all,e_l_all,F_l_all.binds1 (p0:="_law_places") fun _ _ _ _ _ _ _=>rfl,
    PySem.W.mg_of X G g_l_dealt,F_l_dealt,e_l_dealt,F_l_dealt.binds3 (p0:="_law_state") (p1:="_law_words") (p2:="_law_many") fun _ _ _ _ _ _ _ _ _=>rfl,
    PySem.W.mg_of X G g_l_shared,F_l_shared,e_l_shared,F_l_shared.binds3 (p0:="_law_places") (p1:="_law_yes") (p2:="_law_no") fun _ _ _ _ _ _ _ _ _=>rfl,
    PySem.W.mg_of X G g_l_parted,F_l_parted,e_l_parted,F_l_parted.binds4 (p0:="_law_state") (p1:="_law_places") (p2:="_law_yes") (p3:="_law_no") fun _ _ _ _ _ _ _ _ _ _=>rfl,
    PySem.W.mg_of X G g_l_any_saying,F_l_any_saying,e_l_any_saying,F_l_any_saying.binds3 (p0:="_law_state") (p1:="_law_places") (p2:="_law_many") fun _ _ _ _ _ _ _ _ _=>rfl,
    PySem.W.mg_of X G g_l_holds,F_l_holds,e_l_holds,F_l_holds.binds2 (p0:="_law_saying") (p1:="_law_word") fun _ _ _ _ _ _ _ _=>rfl,
    PySem.W.mg_of X G g_l_spoken_for,F_l_spoken_for,e_l_spoken_for,F_l_spoken_for.binds3 (p0:="_law_yes") (p1:="_law_no") (p2:="_law_saying") fun _ _ _ _ _ _ _ _ _=>rfl,
    PySem.W.mg_of X G g_l_wrapped,F_l_wrapped,e_l_wrapped,F_l_wrapped.binds3 (p0:="_law_state") (p1:="_law_case") (p2:="_law_talk") fun _ _ _ _ _ _ _ _ _=>rfl,
    PySem.W.mg_of X G g_l_strewn,F_l_strewn,e_l_strewn,F_l_strewn.binds3 (p0:="_law_state") (p1:="_law_case") (p2:="_law_talk") fun _ _ _ _ _ _ _ _ _=>rfl,
    PySem.W.mg_of X G g_l_meaning,F_l_meaning,e_l_meaning,F_l_meaning.binds3 (p0:="_law_yes") (p1:="_law_no") (p2:="_law_talk") fun _ _ _ _ _ _ _ _ _=>rfl,
    PySem.W.mg_of X G g_l_small,F_l_small,e_l_small,F_l_small.binds2 (p0:="_law_state") (p1:="_law_places") fun _ _ _ _ _ _ _ _=>rfl,
    PySem.W.mg_of X G g_l_wide,F_l_wide,e_l_wide,F_l_wide.binds2 (p0:="_law_state") (p1:="_law_places") fun _ _ _ _ _ _ _ _=>rfl,
    PySem.W.mg_of X G g_law,F_law,e_law,F_law.binds1 (p0:="_law_script") fun _ _ _ _ _ _ _=>rfl,
    fun s v=>.of_eq rfl,
    PySem.W.mg_none_of X G z_abs,
    PySem.W.mg_none_of X G z_len,
    PySem.W.mg_none_of X G z_list,
    PySem.W.mg_none_of X G z_max,
    PySem.W.mg_none_of X G z_min,
    PySem.W.mg_none_of X G z_range,
    PySem.W.mg_none_of X G z_repr,
    PySem.W.mg_none_of X G z_sorted,
    PySem.W.mg_none_of X G z_tuple,
    PySem.W.mg_of X G g_JOIN_OF_HAND,
    ⟨_,_,ep_JOIN_OF_HAND,l_JOIN_OF_HAND,⟨rfl,rfl,rfl⟩,rfl,(.cons ⟨rfl,⟨_,rfl⟩,⟨_,rfl⟩⟩ (.cons ⟨rfl,⟨_,rfl⟩,⟨_,rfl⟩⟩ PySem.Paired.nil))⟩⟩⟩
def inCls (s : PySem.Stmt) (j : Nat) : PySem.Stmt:=match s with
  | .ClassDef _ _ _ b _ _ _ _ _ _ _=>b.getD j (.Pass ⟨0,0,0,0⟩)
  | _=>s
def KK : PySem.Params→PySem.W.Frag:=fun P =>
  (nat_lit 2,⟨.none,.none,.dict #[] 0,#[]⟩) ::
  (nat_lit 3,⟨.type "dict",.none,.dict #[⟨PySem.PyData.keyHash P "__name__",.str "__name__" 165,.str "law_unlikeplace_k22_sayings_of_talks" 363⟩,⟨PySem.PyData.keyHash P "__doc__",.str "__doc__" 166,.none⟩,⟨PySem.PyData.keyHash P "__package__",.str "__package__" 167,.none⟩,⟨PySem.PyData.keyHash P "__loader__",.str "__loader__" 168,.builtin "__main__.__loader__#opaque"⟩,⟨PySem.PyData.keyHash P "__spec__",.str "__spec__" 169,.none⟩,⟨PySem.PyData.keyHash P "__annotations__",.str "__annotations__" 170,.ref 6⟩,⟨PySem.PyData.keyHash P "__builtins__",.str "__builtins__" 171,.ref 4⟩,⟨PySem.PyData.keyHash P "__file__",.str "__file__" 173,.str "/claim/cut.py" 172⟩,⟨PySem.PyData.keyHash P "__cached__",.str "__cached__" 174,.none⟩,⟨PySem.PyData.keyHash P "went_on",.str "went_on" 194,.ref 19⟩,⟨PySem.PyData.keyHash P "ends_of",.str "ends_of" 210,.ref 26⟩,⟨PySem.PyData.keyHash P "has_pairs",.str "has_pairs" 217,.ref 33⟩,⟨PySem.PyData.keyHash P "kept_upward",.str "kept_upward" 232,.ref 40⟩,⟨PySem.PyData.keyHash P "cut",.str "cut" 244,.ref 47⟩,⟨PySem.PyData.keyHash P "TalkError",.str "TalkError" 264,.ref 57⟩,⟨PySem.PyData.keyHash P "NoTalk",.str "NoTalk" 280,.ref 70⟩,⟨PySem.PyData.keyHash P "upward",.str "upward" 293,.ref 79⟩,⟨PySem.PyData.keyHash P "pairs_in",.str "pairs_in" 301,.ref 84⟩,⟨PySem.PyData.keyHash P "spoken",.str "spoken" 316,.ref 91⟩,⟨PySem.PyData.keyHash P "parts_pair",.str "parts_pair" 326,.ref 98⟩,⟨PySem.PyData.keyHash P "fault",.str "fault" 338,.ref 105⟩,⟨PySem.PyData.keyHash P "lets_by",.str "lets_by" 347,.ref 112⟩,⟨PySem.PyData.keyHash P "JOIN_OF_HAND",.str "JOIN_OF_HAND" 356,.ref 113⟩,⟨PySem.PyData.keyHash P "saying_of",.str "saying_of" 362,.ref 118⟩,⟨PySem.PyData.keyHash P "_law_begun",.str "_law_begun" 371,.ref 125⟩,⟨PySem.PyData.keyHash P "_law_next_of",.str "_law_next_of" 383,.ref 132⟩,⟨PySem.PyData.keyHash P "_law_all",.str "_law_all" 394,.ref 139⟩,⟨PySem.PyData.keyHash P "_law_dealt",.str "_law_dealt" 404,.ref 146⟩,⟨PySem.PyData.keyHash P "_law_shared",.str "_law_shared" 410,.ref 151⟩,⟨PySem.PyData.keyHash P "_law_parted",.str "_law_parted" 416,.ref 156⟩,⟨PySem.PyData.keyHash P "_law_any_saying",.str "_law_any_saying" 428,.ref 163⟩,⟨PySem.PyData.keyHash P "_law_holds",.str "_law_holds" 436,.ref 170⟩,⟨PySem.PyData.keyHash P "_law_spoken_for",.str "_law_spoken_for" 442,.ref 175⟩,⟨PySem.PyData.keyHash P "_law_wrapped",.str "_law_wrapped" 458,.ref 182⟩,⟨PySem.PyData.keyHash P "_law_strewn",.str "_law_strewn" 464,.ref 187⟩,⟨PySem.PyData.keyHash P "_law_meaning",.str "_law_meaning" 470,.ref 192⟩,⟨PySem.PyData.keyHash P "_law_small",.str "_law_small" 476,.ref 197⟩,⟨PySem.PyData.keyHash P "_law_wide",.str "_law_wide" 482,.ref 202⟩,⟨PySem.PyData.keyHash P "law",.str "law" 497,.ref 209⟩] 39,#[]⟩) ::
  (nat_lit 15,⟨.type "tuple",.none,.seq #[] 0,#[]⟩) ::
  (nat_lit 18,⟨.type "code",.none,.fields #[.str "went_on" 189,.str "went_on" 190,.str "/claim/cut.py" 191,.int (2) 0,.int (3) 0,.int (0) 0,.int (0) 0,.int (3) 0,.ref 15,.bool true,.int (181) 0,.ref 16,.none,.none,.none,.ref 17,.int (192) 0,.int (2) 0,.str "/claim/cut.py" 193],#[]⟩) ::
  (nat_lit 19,⟨.type "function",.none,.func (PySem.W.fnOf "went_on" "went_on" (L2.defArgs (top 1)) (L2.defBody (top 1)) (L2.defScope (top 1)) (.none) (.none) (.none) (.str "unlikeplace.ends" 187) .none (.ref 18) (.none)),#[]⟩) ::
  (nat_lit 20,⟨.type "tuple",.none,.seq #[] 0,#[]⟩) ::
  (nat_lit 22,⟨.type "tuple",.none,.seq #[.str "case" 198,.str "talk" 199,.str "ends" 200,.str "waiting" 201,.str "bits" 202,.str "part" 203,.str "yes" 204,.str "no" 205,.str "at_first" 206,.str "at_second" 207] 0,#[]⟩) ::
  (nat_lit 23,⟨.type "tuple",.none,.seq #[] 0,#[]⟩) ::
  (nat_lit 25,⟨.type "code",.none,.fields #[.str "ends_of" 195,.str "ends_of" 196,.str "/claim/cut.py" 197,.int (9) 0,.int (2) 0,.int (0) 0,.int (0) 0,.int (3) 0,.ref 20,.bool true,.int (181) 0,.ref 21,.none,.ref 22,.ref 23,.ref 24,.int (208) 0,.int (9) 0,.str "/claim/cut.py" 209],#[]⟩) ::
  (nat_lit 26,⟨.type "function",.none,.func (PySem.W.fnOf "ends_of" "ends_of" (L2.defArgs (top 2)) (L2.defBody (top 2)) (L2.defScope (top 2)) (.none) (.none) (.none) (.str "unlikeplace.ends" 187) .none (.ref 25) (.none)),#[]⟩) ::
  (nat_lit 27,⟨.type "tuple",.none,.seq #[] 0,#[]⟩) ::
  (nat_lit 29,⟨.type "tuple",.none,.seq #[.str "words" 214] 0,#[]⟩) ::
  (nat_lit 30,⟨.type "tuple",.none,.seq #[] 0,#[]⟩) ::
  (nat_lit 32,⟨.type "code",.none,.fields #[.str "has_pairs" 211,.str "has_pairs" 212,.str "/claim/cut.py" 213,.int (21) 0,.int (1) 0,.int (0) 0,.int (0) 0,.int (3) 0,.ref 27,.bool true,.int (181) 0,.ref 28,.none,.ref 29,.ref 30,.ref 31,.int (215) 0,.int (21) 0,.str "/claim/cut.py" 216],#[]⟩) ::
  (nat_lit 33,⟨.type "function",.none,.func (PySem.W.fnOf "has_pairs" "has_pairs" (L2.defArgs (top 3)) (L2.defBody (top 3)) (L2.defScope (top 3)) (.none) (.none) (.none) (.str "unlikeplace.ends" 187) .none (.ref 32) (.none)),#[]⟩) ::
  (nat_lit 34,⟨.type "tuple",.none,.seq #[] 0,#[]⟩) ::
  (nat_lit 36,⟨.type "tuple",.none,.seq #[.str "case" 221,.str "talk" 222,.str "downward" 223,.str "waiting" 224,.str "part" 225,.str "yes" 226,.str "no" 227,.str "at_first" 228,.str "at_second" 229] 0,#[]⟩) ::
  (nat_lit 37,⟨.type "tuple",.none,.seq #[] 0,#[]⟩) ::
  (nat_lit 39,⟨.type "code",.none,.fields #[.str "kept_upward" 218,.str "kept_upward" 219,.str "/claim/cut.py" 220,.int (23) 0,.int (2) 0,.int (0) 0,.int (0) 0,.int (3) 0,.ref 34,.bool true,.int (181) 0,.ref 35,.none,.ref 36,.ref 37,.ref 38,.int (230) 0,.int (23) 0,.str "/claim/cut.py" 231],#[]⟩) ::
  (nat_lit 40,⟨.type "function",.none,.func (PySem.W.fnOf "kept_upward" "kept_upward" (L2.defArgs (top 4)) (L2.defBody (top 4)) (L2.defScope (top 4)) (.none) (.none) (.none) (.str "unlikeplace.ends" 187) .none (.ref 39) (.none)),#[]⟩) ::
  (nat_lit 41,⟨.type "tuple",.none,.seq #[] 0,#[]⟩) ::
  (nat_lit 43,⟨.type "tuple",.none,.seq #[.str "case" 236,.str "talk" 237,.str "done" 238,.str "part" 239,.str "second" 240,.str "first" 241] 0,#[]⟩) ::
  (nat_lit 44,⟨.type "tuple",.none,.seq #[] 0,#[]⟩) ::
  (nat_lit 46,⟨.type "code",.none,.fields #[.str "cut" 233,.str "cut" 234,.str "/claim/cut.py" 235,.int (41) 0,.int (2) 0,.int (0) 0,.int (0) 0,.int (3) 0,.ref 41,.bool true,.int (181) 0,.ref 42,.none,.ref 43,.ref 44,.ref 45,.int (242) 0,.int (41) 0,.str "/claim/cut.py" 243],#[]⟩) ::
  (nat_lit 47,⟨.type "function",.none,.func (PySem.W.fnOf "cut" "cut" (L2.defArgs (top 5)) (L2.defBody (top 5)) (L2.defScope (top 5)) (.none) (.none) (.none) (.str "unlikeplace.ends" 187) .none (.ref 46) (.none)),#[]⟩) ::
  (nat_lit 48,⟨.type "tuple",.none,.seq #[.type "ValueError"] 0,#[]⟩) ::
  (nat_lit 55,⟨.type "tuple",.none,.seq #[] 0,#[]⟩) ::
  (nat_lit 56,⟨.type "dict",.none,.dict #[⟨PySem.PyData.keyHash P "__module__",.str "__module__" 254,.str "unlikeplace.errors" 245⟩,⟨PySem.PyData.keyHash P "__firstlineno__",.str "__firstlineno__" 258,.int (52) 257⟩,⟨PySem.PyData.keyHash P "__static_attributes__",.str "__static_attributes__" 259,.ref 55⟩,⟨PySem.PyData.keyHash P "__weakref__",.str "__weakref__" 261,.ref 58⟩,⟨PySem.PyData.keyHash P "__doc__",.str "__doc__" 262,.none⟩] 3,#[]⟩) ::
  (nat_lit 57,⟨.type "type",.none,.cls ⟨"TalkError",[.type "ValueError"],[.ref 57,.type "ValueError",.type "Exception",.type "BaseException",.type "object"],56,"TalkError",true,[],[.ref 70],false,.none,false⟩,#[(.some (.ref 48)),.none,(.some (.str "TalkError" 247)),(.some (.str "TalkError" 255)),(.some (.builtin "ValueError.__new__")),(.some (.bool true))]⟩) ::
  (nat_lit 58,⟨.type "getset_descriptor",.none,.fields #[.str "__weakref__" 260,.ref 57,.builtin "ExceptionGroup.__weakref__",.none],#[]⟩) ::
  (nat_lit 61,⟨.type "tuple",.none,.seq #[.ref 57] 0,#[]⟩) ::
  (nat_lit 68,⟨.type "tuple",.none,.seq #[] 0,#[]⟩) ::
  (nat_lit 69,⟨.type "dict",.none,.dict #[⟨PySem.PyData.keyHash P "__module__",.str "__module__" 272,.str "unlikeplace.errors" 245⟩,⟨PySem.PyData.keyHash P "__firstlineno__",.str "__firstlineno__" 276,.int (54) 275⟩,⟨PySem.PyData.keyHash P "__static_attributes__",.str "__static_attributes__" 277,.ref 68⟩,⟨PySem.PyData.keyHash P "__doc__",.str "__doc__" 278,.none⟩] 2,#[]⟩) ::
  (nat_lit 70,⟨.type "type",.none,.cls ⟨"NoTalk",[.ref 57],[.ref 70,.ref 57,.type "ValueError",.type "Exception",.type "BaseException",.type "object"],69,"NoTalk",true,[],[],false,.none,false⟩,#[(.some (.ref 61)),.none,(.some (.str "NoTalk" 265)),(.some (.str "NoTalk" 273)),(.some (.builtin "ValueError.__new__")),(.some (.bool true))]⟩) ::
  (nat_lit 73,⟨.type "tuple",.none,.seq #[] 0,#[]⟩) ::
  (nat_lit 75,⟨.type "tuple",.none,.seq #[.str "tree" 286,.str "leaf" 287,.str "waiting" 288,.str "downward" 289,.str "part" 290] 0,#[]⟩) ::
  (nat_lit 76,⟨.type "tuple",.none,.seq #[] 0,#[]⟩) ::
  (nat_lit 78,⟨.type "code",.none,.fields #[.str "upward" 283,.str "upward" 284,.str "/claim/cut.py" 285,.int (57) 0,.int (2) 0,.int (0) 0,.int (0) 0,.int (3) 0,.ref 73,.bool true,.int (181) 0,.ref 74,.none,.ref 75,.ref 76,.ref 77,.int (291) 0,.int (57) 0,.str "/claim/cut.py" 292],#[]⟩) ::
  (nat_lit 79,⟨.type "function",.none,.func (PySem.W.fnOf "upward" "upward" (L2.defArgs (top 10)) (L2.defBody (top 10)) (L2.defScope (top 10)) (.none) (.none) (.none) (.str "unlikeplace.trees" 281) .none (.ref 78) (.none)),#[]⟩) ::
  (nat_lit 80,⟨.type "tuple",.none,.seq #[] 0,#[]⟩) ::
  (nat_lit 83,⟨.type "code",.none,.fields #[.str "pairs_in" 296,.str "pairs_in" 297,.str "/claim/cut.py" 298,.int (68) 0,.int (1) 0,.int (0) 0,.int (0) 0,.int (3) 0,.ref 80,.bool true,.int (181) 0,.ref 81,.none,.none,.none,.ref 82,.int (299) 0,.int (68) 0,.str "/claim/cut.py" 300],#[]⟩) ::
  (nat_lit 84,⟨.type "function",.none,.func (PySem.W.fnOf "pairs_in" "pairs_in" (L2.defArgs (top 12)) (L2.defBody (top 12)) (L2.defScope (top 12)) (.none) (.none) (.none) (.str "unlikeplace.cases" 294) .none (.ref 83) (.none)),#[]⟩) ::
  (nat_lit 85,⟨.type "tuple",.none,.seq #[] 0,#[]⟩) ::
  (nat_lit 87,⟨.type "tuple",.none,.seq #[.str "talk" 307,.str "yes" 308,.str "no" 309,.str "bits" 310,.str "part" 311,.str "own" 312,.str "bit" 313] 0,#[]⟩) ::
  (nat_lit 88,⟨.type "tuple",.none,.seq #[] 0,#[]⟩) ::
  (nat_lit 90,⟨.type "code",.none,.fields #[.str "spoken" 304,.str "spoken" 305,.str "/claim/cut.py" 306,.int (71) 0,.int (3) 0,.int (0) 0,.int (0) 0,.int (3) 0,.ref 85,.bool true,.int (181) 0,.ref 86,.none,.ref 87,.ref 88,.ref 89,.int (314) 0,.int (71) 0,.str "/claim/cut.py" 315],#[]⟩) ::
  (nat_lit 91,⟨.type "function",.none,.func (PySem.W.fnOf "spoken" "spoken" (L2.defArgs (top 14)) (L2.defBody (top 14)) (L2.defScope (top 14)) (.none) (.none) (.none) (.str "unlikeplace.talks" 302) .none (.ref 90) (.none)),#[]⟩) ::
  (nat_lit 92,⟨.type "tuple",.none,.seq #[] 0,#[]⟩) ::
  (nat_lit 94,⟨.type "tuple",.none,.seq #[.str "rule" 320,.str "place" 321,.str "yes" 322,.str "no" 323] 0,#[]⟩) ::
  (nat_lit 95,⟨.type "tuple",.none,.seq #[] 0,#[]⟩) ::
  (nat_lit 97,⟨.type "code",.none,.fields #[.str "parts_pair" 317,.str "parts_pair" 318,.str "/claim/cut.py" 319,.int (80) 0,.int (4) 0,.int (0) 0,.int (0) 0,.int (3) 0,.ref 92,.bool true,.int (181) 0,.ref 93,.none,.ref 94,.ref 95,.ref 96,.int (324) 0,.int (80) 0,.str "/claim/cut.py" 325],#[]⟩) ::
  (nat_lit 98,⟨.type "function",.none,.func (PySem.W.fnOf "parts_pair" "parts_pair" (L2.defArgs (top 15)) (L2.defBody (top 15)) (L2.defScope (top 15)) (.none) (.none) (.none) (.str "unlikeplace.talks" 302) .none (.ref 97) (.none)),#[]⟩) ::
  (nat_lit 99,⟨.type "tuple",.none,.seq #[] 0,#[]⟩) ::
  (nat_lit 101,⟨.type "tuple",.none,.seq #[.str "case" 330,.str "rule" 331,.str "talk" 332,.str "yes" 333,.str "no" 334,.str "place" 335] 0,#[]⟩) ::
  (nat_lit 102,⟨.type "tuple",.none,.seq #[] 0,#[]⟩) ::
  (nat_lit 104,⟨.type "code",.none,.fields #[.str "fault" 327,.str "fault" 328,.str "/claim/cut.py" 329,.int (84) 0,.int (3) 0,.int (0) 0,.int (0) 0,.int (3) 0,.ref 99,.bool true,.int (181) 0,.ref 100,.none,.ref 101,.ref 102,.ref 103,.int (336) 0,.int (84) 0,.str "/claim/cut.py" 337],#[]⟩) ::
  (nat_lit 105,⟨.type "function",.none,.func (PySem.W.fnOf "fault" "fault" (L2.defArgs (top 16)) (L2.defBody (top 16)) (L2.defScope (top 16)) (.none) (.none) (.none) (.str "unlikeplace.talks" 302) .none (.ref 104) (.none)),#[]⟩) ::
  (nat_lit 106,⟨.type "tuple",.none,.seq #[] 0,#[]⟩) ::
  (nat_lit 108,⟨.type "tuple",.none,.seq #[.str "case" 342,.str "rule" 343,.str "talk" 344] 0,#[]⟩) ::
  (nat_lit 109,⟨.type "tuple",.none,.seq #[] 0,#[]⟩) ::
  (nat_lit 111,⟨.type "code",.none,.fields #[.str "lets_by" 339,.str "lets_by" 340,.str "/claim/cut.py" 341,.int (90) 0,.int (3) 0,.int (0) 0,.int (0) 0,.int (3) 0,.ref 106,.bool true,.int (181) 0,.ref 107,.none,.ref 108,.ref 109,.ref 110,.int (345) 0,.int (90) 0,.str "/claim/cut.py" 346],#[]⟩) ::
  (nat_lit 112,⟨.type "function",.none,.func (PySem.W.fnOf "lets_by" "lets_by" (L2.defArgs (top 17)) (L2.defBody (top 17)) (L2.defScope (top 17)) (.none) (.none) (.none) (.str "unlikeplace.talks" 302) .none (.ref 111) (.none)),#[]⟩) ::
  (nat_lit 113,⟨.type "dict",.none,.dict #[⟨PySem.PyData.keyHash P "yes",.str "yes" 350,.str "or" 351⟩,⟨PySem.PyData.keyHash P "no",.str "no" 352,.str "and" 353⟩] 2,#[]⟩) ::
  (nat_lit 114,⟨.type "tuple",.none,.seq #[] 0,#[]⟩) ::
  (nat_lit 117,⟨.type "code",.none,.fields #[.str "saying_of" 357,.str "saying_of" 358,.str "/claim/cut.py" 359,.int (94) 0,.int (2) 0,.int (0) 0,.int (0) 0,.int (3) 0,.ref 114,.bool true,.int (181) 0,.ref 115,.none,.none,.none,.ref 116,.int (360) 0,.int (94) 0,.str "/claim/cut.py" 361],#[]⟩) ::
  (nat_lit 118,⟨.type "function",.none,.func (PySem.W.fnOf "saying_of" "saying_of" (L2.defArgs (top 20)) (L2.defBody (top 20)) (L2.defScope (top 20)) (.none) (.none) (.none) (.str "unlikeplace.leads" 348) .none (.ref 117) (.none)),#[]⟩) ::
  (nat_lit 119,⟨.type "tuple",.none,.seq #[] 0,#[]⟩) ::
  (nat_lit 121,⟨.type "tuple",.none,.seq #[.str "_law_script" 368] 0,#[]⟩) ::
  (nat_lit 122,⟨.type "tuple",.none,.seq #[] 0,#[]⟩) ::
  (nat_lit 124,⟨.type "code",.none,.fields #[.str "_law_begun" 365,.str "_law_begun" 366,.str "/claim/cut.py" 367,.int (110) 0,.int (1) 0,.int (0) 0,.int (0) 0,.int (3) 0,.ref 119,.bool true,.int (181) 0,.ref 120,.none,.ref 121,.ref 122,.ref 123,.int (369) 0,.int (110) 0,.str "/claim/cut.py" 370],#[]⟩) ::
  (nat_lit 125,⟨.type "function",.none,.func (PySem.W.fnOf "_law_begun" "_law_begun" (L2.defArgs (top 22)) (L2.defBody (top 22)) (L2.defScope (top 22)) (.none) (.none) (.none) (.str "law_unlikeplace_k22_sayings_of_talks" 363) .none (.ref 124) (.none)),#[]⟩) ::
  (nat_lit 126,⟨.type "tuple",.none,.seq #[] 0,#[]⟩) ::
  (nat_lit 128,⟨.type "tuple",.none,.seq #[.str "_law_state" 375,.str "_law_many" 376,.str "_law_drawn" 377,.str "_law_spot" 378,.str "_law_cell" 379,.str "_law_seed" 380] 0,#[]⟩) ::
  (nat_lit 129,⟨.type "tuple",.none,.seq #[] 0,#[]⟩) ::
  (nat_lit 131,⟨.type "code",.none,.fields #[.str "_law_next_of" 372,.str "_law_next_of" 373,.str "/claim/cut.py" 374,.int (112) 0,.int (2) 0,.int (0) 0,.int (0) 0,.int (3) 0,.ref 126,.bool true,.int (181) 0,.ref 127,.none,.ref 128,.ref 129,.ref 130,.int (381) 0,.int (112) 0,.str "/claim/cut.py" 382],#[]⟩) ::
  (nat_lit 132,⟨.type "function",.none,.func (PySem.W.fnOf "_law_next_of" "_law_next_of" (L2.defArgs (top 23)) (L2.defBody (top 23)) (L2.defScope (top 23)) (.none) (.none) (.none) (.str "law_unlikeplace_k22_sayings_of_talks" 363) .none (.ref 131) (.none)),#[]⟩) ::
  (nat_lit 133,⟨.type "tuple",.none,.seq #[] 0,#[]⟩) ::
  (nat_lit 135,⟨.type "tuple",.none,.seq #[.str "_law_places" 387,.str "_law_found" 388,.str "_law_k" 389,.str "_law_longer" 390,.str "_law_word" 391] 0,#[]⟩) ::
  (nat_lit 136,⟨.type "tuple",.none,.seq #[] 0,#[]⟩) ::
  (nat_lit 138,⟨.type "code",.none,.fields #[.str "_law_all" 384,.str "_law_all" 385,.str "/claim/cut.py" 386,.int (130) 0,.int (1) 0,.int (0) 0,.int (0) 0,.int (3) 0,.ref 133,.bool true,.int (181) 0,.ref 134,.none,.ref 135,.ref 136,.ref 137,.int (392) 0,.int (130) 0,.str "/claim/cut.py" 393],#[]⟩) ::
  (nat_lit 139,⟨.type "function",.none,.func (PySem.W.fnOf "_law_all" "_law_all" (L2.defArgs (top 24)) (L2.defBody (top 24)) (L2.defScope (top 24)) (.none) (.none) (.none) (.str "law_unlikeplace_k22_sayings_of_talks" 363) .none (.ref 138) (.none)),#[]⟩) ::
  (nat_lit 140,⟨.type "tuple",.none,.seq #[] 0,#[]⟩) ::
  (nat_lit 142,⟨.type "tuple",.none,.seq #[.str "_law_state" 398,.str "_law_words" 399,.str "_law_many" 400,.str "_law_left" 401] 0,#[]⟩) ::
  (nat_lit 143,⟨.type "tuple",.none,.seq #[] 0,#[]⟩) ::
  (nat_lit 145,⟨.type "code",.none,.fields #[.str "_law_dealt" 395,.str "_law_dealt" 396,.str "/claim/cut.py" 397,.int (138) 0,.int (3) 0,.int (0) 0,.int (0) 0,.int (3) 0,.ref 140,.bool true,.int (181) 0,.ref 141,.none,.ref 142,.ref 143,.ref 144,.int (402) 0,.int (138) 0,.str "/claim/cut.py" 403],#[]⟩) ::
  (nat_lit 146,⟨.type "function",.none,.func (PySem.W.fnOf "_law_dealt" "_law_dealt" (L2.defArgs (top 25)) (L2.defBody (top 25)) (L2.defScope (top 25)) (.none) (.none) (.none) (.str "law_unlikeplace_k22_sayings_of_talks" 363) .none (.ref 145) (.none)),#[]⟩) ::
  (nat_lit 147,⟨.type "tuple",.none,.seq #[] 0,#[]⟩) ::
  (nat_lit 150,⟨.type "code",.none,.fields #[.str "_law_shared" 405,.str "_law_shared" 406,.str "/claim/cut.py" 407,.int (143) 0,.int (3) 0,.int (0) 0,.int (0) 0,.int (3) 0,.ref 147,.bool true,.int (181) 0,.ref 148,.none,.none,.none,.ref 149,.int (408) 0,.int (143) 0,.str "/claim/cut.py" 409],#[]⟩) ::
  (nat_lit 151,⟨.type "function",.none,.func (PySem.W.fnOf "_law_shared" "_law_shared" (L2.defArgs (top 26)) (L2.defBody (top 26)) (L2.defScope (top 26)) (.none) (.none) (.none) (.str "law_unlikeplace_k22_sayings_of_talks" 363) .none (.ref 150) (.none)),#[]⟩) ::
  (nat_lit 152,⟨.type "tuple",.none,.seq #[] 0,#[]⟩) ::
  (nat_lit 155,⟨.type "code",.none,.fields #[.str "_law_parted" 411,.str "_law_parted" 412,.str "/claim/cut.py" 413,.int (150) 0,.int (4) 0,.int (0) 0,.int (0) 0,.int (3) 0,.ref 152,.bool true,.int (181) 0,.ref 153,.none,.none,.none,.ref 154,.int (414) 0,.int (150) 0,.str "/claim/cut.py" 415],#[]⟩) ::
  (nat_lit 156,⟨.type "function",.none,.func (PySem.W.fnOf "_law_parted" "_law_parted" (L2.defArgs (top 27)) (L2.defBody (top 27)) (L2.defScope (top 27)) (.none) (.none) (.none) (.str "law_unlikeplace_k22_sayings_of_talks" 363) .none (.ref 155) (.none)),#[]⟩) ::
  (nat_lit 157,⟨.type "tuple",.none,.seq #[] 0,#[]⟩) ::
  (nat_lit 159,⟨.type "tuple",.none,.seq #[.str "_law_state" 420,.str "_law_places" 421,.str "_law_many" 422,.str "_law_here" 423,.str "_law_one" 424,.str "_law_other" 425] 0,#[]⟩) ::
  (nat_lit 160,⟨.type "tuple",.none,.seq #[] 0,#[]⟩) ::
  (nat_lit 162,⟨.type "code",.none,.fields #[.str "_law_any_saying" 417,.str "_law_any_saying" 418,.str "/claim/cut.py" 419,.int (165) 0,.int (3) 0,.int (0) 0,.int (0) 0,.int (3) 0,.ref 157,.bool true,.int (181) 0,.ref 158,.none,.ref 159,.ref 160,.ref 161,.int (426) 0,.int (165) 0,.str "/claim/cut.py" 427],#[]⟩) ::
  (nat_lit 163,⟨.type "function",.none,.func (PySem.W.fnOf "_law_any_saying" "_law_any_saying" (L2.defArgs (top 28)) (L2.defBody (top 28)) (L2.defScope (top 28)) (.none) (.none) (.none) (.str "law_unlikeplace_k22_sayings_of_talks" 363) .none (.ref 162) (.none)),#[]⟩) ::
  (nat_lit 164,⟨.type "tuple",.none,.seq #[] 0,#[]⟩) ::
  (nat_lit 166,⟨.type "tuple",.none,.seq #[.str "_law_saying" 432,.str "_law_word" 433] 0,#[]⟩) ::
  (nat_lit 167,⟨.type "tuple",.none,.seq #[] 0,#[]⟩) ::
  (nat_lit 169,⟨.type "code",.none,.fields #[.str "_law_holds" 429,.str "_law_holds" 430,.str "/claim/cut.py" 431,.int (172) 0,.int (2) 0,.int (0) 0,.int (0) 0,.int (3) 0,.ref 164,.bool true,.int (181) 0,.ref 165,.none,.ref 166,.ref 167,.ref 168,.int (434) 0,.int (172) 0,.str "/claim/cut.py" 435],#[]⟩) ::
  (nat_lit 170,⟨.type "function",.none,.func (PySem.W.fnOf "_law_holds" "_law_holds" (L2.defArgs (top 29)) (L2.defBody (top 29)) (L2.defScope (top 29)) (.none) (.none) (.none) (.str "law_unlikeplace_k22_sayings_of_talks" 363) .none (.ref 169) (.none)),#[]⟩) ::
  (nat_lit 171,⟨.type "tuple",.none,.seq #[] 0,#[]⟩) ::
  (nat_lit 174,⟨.type "code",.none,.fields #[.str "_law_spoken_for" 437,.str "_law_spoken_for" 438,.str "/claim/cut.py" 439,.int (178) 0,.int (3) 0,.int (0) 0,.int (0) 0,.int (3) 0,.ref 171,.bool true,.int (181) 0,.ref 172,.none,.none,.none,.ref 173,.int (440) 0,.int (178) 0,.str "/claim/cut.py" 441],#[]⟩) ::
  (nat_lit 175,⟨.type "function",.none,.func (PySem.W.fnOf "_law_spoken_for" "_law_spoken_for" (L2.defArgs (top 30)) (L2.defBody (top 30)) (L2.defScope (top 30)) (.none) (.none) (.none) (.str "law_unlikeplace_k22_sayings_of_talks" 363) .none (.ref 174) (.none)),#[]⟩) ::
  (nat_lit 176,⟨.type "tuple",.none,.seq #[] 0,#[]⟩) ::
  (nat_lit 178,⟨.type "tuple",.none,.seq #[.str "_law_state" 446,.str "_law_case" 447,.str "_law_talk" 448,.str "_law_at" 449,.str "_law_places" 450,.str "_law_yes" 451,.str "_law_no" 452,.str "_law_hand" 453,.str "_law_spare" 454,.str "_law_way" 455] 0,#[]⟩) ::
  (nat_lit 179,⟨.type "tuple",.none,.seq #[] 0,#[]⟩) ::
  (nat_lit 181,⟨.type "code",.none,.fields #[.str "_law_wrapped" 443,.str "_law_wrapped" 444,.str "/claim/cut.py" 445,.int (186) 0,.int (3) 0,.int (0) 0,.int (0) 0,.int (3) 0,.ref 176,.bool true,.int (181) 0,.ref 177,.none,.ref 178,.ref 179,.ref 180,.int (456) 0,.int (186) 0,.str "/claim/cut.py" 457],#[]⟩) ::
  (nat_lit 182,⟨.type "function",.none,.func (PySem.W.fnOf "_law_wrapped" "_law_wrapped" (L2.defArgs (top 31)) (L2.defBody (top 31)) (L2.defScope (top 31)) (.none) (.none) (.none) (.str "law_unlikeplace_k22_sayings_of_talks" 363) .none (.ref 181) (.none)),#[]⟩) ::
  (nat_lit 183,⟨.type "tuple",.none,.seq #[] 0,#[]⟩) ::
  (nat_lit 186,⟨.type "code",.none,.fields #[.str "_law_strewn" 459,.str "_law_strewn" 460,.str "/claim/cut.py" 461,.int (201) 0,.int (3) 0,.int (0) 0,.int (0) 0,.int (3) 0,.ref 183,.bool true,.int (181) 0,.ref 184,.none,.none,.none,.ref 185,.int (462) 0,.int (201) 0,.str "/claim/cut.py" 463],#[]⟩) ::
  (nat_lit 187,⟨.type "function",.none,.func (PySem.W.fnOf "_law_strewn" "_law_strewn" (L2.defArgs (top 32)) (L2.defBody (top 32)) (L2.defScope (top 32)) (.none) (.none) (.none) (.str "law_unlikeplace_k22_sayings_of_talks" 363) .none (.ref 186) (.none)),#[]⟩) ::
  (nat_lit 188,⟨.type "tuple",.none,.seq #[] 0,#[]⟩) ::
  (nat_lit 191,⟨.type "code",.none,.fields #[.str "_law_meaning" 465,.str "_law_meaning" 466,.str "/claim/cut.py" 467,.int (209) 0,.int (3) 0,.int (0) 0,.int (0) 0,.int (3) 0,.ref 188,.bool true,.int (181) 0,.ref 189,.none,.none,.none,.ref 190,.int (468) 0,.int (209) 0,.str "/claim/cut.py" 469],#[]⟩) ::
  (nat_lit 192,⟨.type "function",.none,.func (PySem.W.fnOf "_law_meaning" "_law_meaning" (L2.defArgs (top 33)) (L2.defBody (top 33)) (L2.defScope (top 33)) (.none) (.none) (.none) (.str "law_unlikeplace_k22_sayings_of_talks" 363) .none (.ref 191) (.none)),#[]⟩) ::
  (nat_lit 193,⟨.type "tuple",.none,.seq #[] 0,#[]⟩) ::
  (nat_lit 196,⟨.type "code",.none,.fields #[.str "_law_small" 471,.str "_law_small" 472,.str "/claim/cut.py" 473,.int (225) 0,.int (2) 0,.int (0) 0,.int (0) 0,.int (3) 0,.ref 193,.bool true,.int (181) 0,.ref 194,.none,.none,.none,.ref 195,.int (474) 0,.int (225) 0,.str "/claim/cut.py" 475],#[]⟩) ::
  (nat_lit 197,⟨.type "function",.none,.func (PySem.W.fnOf "_law_small" "_law_small" (L2.defArgs (top 34)) (L2.defBody (top 34)) (L2.defScope (top 34)) (.none) (.none) (.none) (.str "law_unlikeplace_k22_sayings_of_talks" 363) .none (.ref 196) (.none)),#[]⟩) ::
  (nat_lit 198,⟨.type "tuple",.none,.seq #[] 0,#[]⟩) ::
  (nat_lit 201,⟨.type "code",.none,.fields #[.str "_law_wide" 477,.str "_law_wide" 478,.str "/claim/cut.py" 479,.int (230) 0,.int (2) 0,.int (0) 0,.int (0) 0,.int (3) 0,.ref 198,.bool true,.int (181) 0,.ref 199,.none,.none,.none,.ref 200,.int (480) 0,.int (230) 0,.str "/claim/cut.py" 481],#[]⟩) ::
  (nat_lit 202,⟨.type "function",.none,.func (PySem.W.fnOf "_law_wide" "_law_wide" (L2.defArgs (top 35)) (L2.defBody (top 35)) (L2.defScope (top 35)) (.none) (.none) (.none) (.str "law_unlikeplace_k22_sayings_of_talks" 363) .none (.ref 201) (.none)),#[]⟩) ::
  (nat_lit 203,⟨.type "tuple",.none,.seq #[] 0,#[]⟩) ::
  (nat_lit 205,⟨.type "tuple",.none,.seq #[.str "_law_script" 486,.str "_law_state" 487,.str "_law_asked" 488,.str "_law_turn" 489,.str "_law_places" 490,.str "_law_case" 491,.str "_law_talk" 492,.str "_law_k" 493,.str "_law_due" 494] 0,#[]⟩) ::
  (nat_lit 206,⟨.type "tuple",.none,.seq #[] 0,#[]⟩) ::
  (nat_lit 208,⟨.type "code",.none,.fields #[.str "law" 483,.str "law" 484,.str "/claim/cut.py" 485,.int (238) 0,.int (1) 0,.int (0) 0,.int (0) 0,.int (3) 0,.ref 203,.bool true,.int (181) 0,.ref 204,.none,.ref 205,.ref 206,.ref 207,.int (495) 0,.int (238) 0,.str "/claim/cut.py" 496],#[]⟩) ::
  (nat_lit 209,⟨.type "function",.none,.func (PySem.W.fnOf "law" "law" (L2.defArgs (top 36)) (L2.defBody (top 36)) (L2.defScope (top 36)) (.none) (.none) (.none) (.str "law_unlikeplace_k22_sayings_of_talks" 363) .none (.ref 208) (.none)),#[]⟩) :: []
end My
def PySem.W.Fast.tw6894247980046229166 : PySem.Params→PySem.W.Frag:=My.KK
theorem PySem.W.Fast.te6894247980046229166 : My.KK = PySem.W.Fast.tw6894247980046229166:=rfl
def PySem.W.Fast.tw1142801626333713601 : PySem.Program:=PySem.Challenge.pw_unlikeplace_k22_sayings_of_talks
theorem PySem.W.Fast.te1142801626333713601 : PySem.Challenge.pw_unlikeplace_k22_sayings_of_talks = PySem.W.Fast.tw1142801626333713601:=rfl
namespace PySem.W.Fast
theorem te9084794555185606816 : True:=⟨⟩
theorem te15192141537069705472 : True:=⟨⟩
theorem te17173057094672610784 : True:=⟨⟩
theorem te10068109198279306752 : True:=⟨⟩
theorem te13690270672590981088 : True:=⟨⟩
theorem te12828297805781430305 : True:=⟨⟩
theorem te18374340803587114049 : True:=⟨⟩
theorem te14079157739647127617 : True:=⟨⟩
def My.sts_49 : List PySem.Stmt:=[My.top 0,My.top 1,My.top 2,My.top 3,My.top 4,My.top 5,My.top 6,My.top 7]
def tw14077207156405662977 : List PySem.Stmt:=My.sts_49
theorem te14077207156405662977 : My.sts_49 = tw14077207156405662977:=rfl
theorem te15337060195957932321 : True:=⟨⟩
theorem te7390468013337516417 : True:=⟨⟩
theorem te10384451039334322785 : True:=⟨⟩
theorem te6738387287786175265 : True:=⟨⟩
theorem te15889150532758147106 : True:=⟨⟩
theorem te6294455466911055362 : True:=⟨⟩
theorem te17514546921929907970 : True:=⟨⟩
theorem te8789426072093089859 : True:=⟨⟩
theorem te10667945147710104995 : True:=⟨⟩
theorem te10294713545010209475 : True:=⟨⟩
theorem te10442520966866518979 : True:=⟨⟩
theorem te3650601074575071364 : True:=⟨⟩
theorem te199727281498536324 : True:=⟨⟩
theorem te10354679729091175876 : True:=⟨⟩
theorem te11867642745835644548 : True:=⟨⟩
theorem te12355379335370670756 : True:=⟨⟩
theorem te10772374446433801956 : True:=⟨⟩
theorem te3727623113434289956 : True:=⟨⟩
theorem te9448939083214903108 : True:=⟨⟩
theorem te4220986353373272964 : True:=⟨⟩
theorem te4137626644733537317 : True:=⟨⟩
theorem te12836972609110632741 : True:=⟨⟩
theorem te5407055504758253989 : True:=⟨⟩
theorem te7177385835638428357 : True:=⟨⟩
theorem te14231050775578583749 : True:=⟨⟩
theorem te17851669596559259461 : True:=⟨⟩
theorem te395390507569016677 : True:=⟨⟩
theorem te10926080101175949189 : True:=⟨⟩
theorem te1188208224650564485 : True:=⟨⟩
theorem te6304595569841517670 : True:=⟨⟩
theorem te3156937682428132550 : True:=⟨⟩
theorem te4078517530628180486 : True:=⟨⟩
theorem te8968866812048055046 : True:=⟨⟩
theorem te17268063830748618598 : True:=⟨⟩
theorem te4910450859202731335 : True:=⟨⟩
theorem te17785918262605838759 : True:=⟨⟩
theorem te4900973014717785735 : True:=⟨⟩
theorem te16201569012936037031 : True:=⟨⟩
theorem te14540958913349477191 : True:=⟨⟩
theorem te7273333659187270471 : True:=⟨⟩
theorem te9619303105056003943 : True:=⟨⟩
theorem te16117447062635215880 : True:=⟨⟩
theorem te13516165370721441064 : True:=⟨⟩
theorem te9041964154745616712 : True:=⟨⟩
theorem te2101470485034257832 : True:=⟨⟩
theorem te12669672361830901192 : True:=⟨⟩
theorem te13929503626720621160 : True:=⟨⟩
theorem te6080702115573734312 : True:=⟨⟩
theorem te5525189401101289384 : True:=⟨⟩
theorem te16830099948311727016 : True:=⟨⟩
theorem te13168368543837500425 : True:=⟨⟩
theorem te17491346196858575241 : True:=⟨⟩
theorem te5700469271545181769 : True:=⟨⟩
theorem te1264376595255176905 : True:=⟨⟩
theorem te538004789608076650 : True:=⟨⟩
theorem te7387999330003439018 : True:=⟨⟩
theorem te13550320075331711434 : True:=⟨⟩
theorem te1766144501294398090 : True:=⟨⟩
theorem te18169430890379193002 : True:=⟨⟩
theorem te574552086989655850 : True:=⟨⟩
theorem te6562856684853695338 : True:=⟨⟩
theorem te10813024000465724330 : True:=⟨⟩
theorem te16163667982315646987 : True:=⟨⟩
theorem te263529866640855179 : True:=⟨⟩
theorem te15914581526458974411 : True:=⟨⟩
theorem te9692689947034267083 : True:=⟨⟩
theorem te18017155550642705067 : True:=⟨⟩
theorem te960922086242130795 : True:=⟨⟩
theorem te6674878405795434379 : True:=⟨⟩
theorem te15772407391536819083 : True:=⟨⟩
theorem te7131481642991617963 : True:=⟨⟩
theorem te1984027986558000140 : True:=⟨⟩
theorem te13550492110776368396 : True:=⟨⟩
theorem te15761585042774036780 : True:=⟨⟩
theorem te13441545459885389420 : True:=⟨⟩
theorem te11711370856909660812 : True:=⟨⟩
theorem te6602706403024250604 : True:=⟨⟩
theorem te4322758253610506060 : True:=⟨⟩
theorem te7944053497814953868 : True:=⟨⟩
theorem te7820478942293103693 : True:=⟨⟩
theorem te1372894480292235405 : True:=⟨⟩
theorem te14277027469676210477 : True:=⟨⟩
theorem te9737721725068273133 : True:=⟨⟩
theorem te2594814725212863053 : True:=⟨⟩
theorem te12698109461382309549 : True:=⟨⟩
theorem te9740024191055208109 : True:=⟨⟩
theorem te6535471715728175885 : True:=⟨⟩
theorem te9738543660531096397 : True:=⟨⟩
theorem te1813446317437660109 : True:=⟨⟩
theorem te12035306560315083886 : True:=⟨⟩
theorem te15954643514301608430 : True:=⟨⟩
theorem te17293501276885274126 : True:=⟨⟩
theorem te17019393395082903086 : True:=⟨⟩
theorem te18032272953785946766 : True:=⟨⟩
theorem te16161049200781490862 : True:=⟨⟩
theorem te213269027549854510 : True:=⟨⟩
theorem te8096385344784603118 : True:=⟨⟩
theorem te1632888463450034255 : True:=⟨⟩
theorem te13109678809659893903 : True:=⟨⟩
theorem te16937141869162824143 : True:=⟨⟩
def My.sts_219 : List PySem.Stmt:=[My.top 31,My.top 32,My.top 33,My.top 34,My.top 35,My.top 36]
def tw9398429203669079567 : List PySem.Stmt:=My.sts_219
theorem te9398429203669079567 : My.sts_219 = tw9398429203669079567:=rfl
theorem te3043845220610231855 : True:=⟨⟩
theorem te12873046079712024239 : True:=⟨⟩
theorem te5457440453883563216 : True:=⟨⟩
theorem te17121588130784537808 : True:=⟨⟩
theorem te16368419163688173840 : True:=⟨⟩
theorem te8647661270321164720 : True:=⟨⟩
theorem te14114323192559734352 : True:=⟨⟩
theorem te13799307180506339952 : True:=⟨⟩
theorem te15418333089696783056 : True:=⟨⟩
theorem te4185041202682685232 : True:=⟨⟩
theorem te9489963061930250160 : True:=⟨⟩
theorem te16644034445199111185 : True:=⟨⟩
theorem te16766991226730797489 : True:=⟨⟩
theorem te12399578617902466737 : True:=⟨⟩
theorem te6788507639190777521 : True:=⟨⟩
theorem te9514517904983345905 : True:=⟨⟩
theorem te12271289087592593426 : True:=⟨⟩
theorem te18315096073426087090 : True:=⟨⟩
theorem te5430091853389328882 : True:=⟨⟩
def My.sts_145 : List PySem.Stmt:=[My.top 17,My.top 18,My.top 19,My.top 20,My.top 21,My.top 22,My.top 23,My.top 24,My.top 25,My.top 26,My.top 27,My.top 28,My.top 29,My.top 30]
def tw14409185668861016754 : List PySem.Stmt:=My.sts_145
theorem te14409185668861016754 : My.sts_145 = tw14409185668861016754:=rfl
theorem te12853563938844182354 : True:=⟨⟩
theorem te18101578533353295826 : True:=⟨⟩
theorem te2481550614741168147 : True:=⟨⟩
theorem te3289723923615918387 : True:=⟨⟩
theorem te17880802006070245171 : True:=⟨⟩
theorem te13474767709037152051 : True:=⟨⟩
theorem te17384610367938534291 : True:=⟨⟩
theorem te3047548157267450996 : True:=⟨⟩
theorem te15235737671350110388 : True:=⟨⟩
theorem te18039367331644892340 : True:=⟨⟩
theorem te11112419177273962836 : True:=⟨⟩
theorem te8656413611072826708 : True:=⟨⟩
theorem te12975712305067397588 : True:=⟨⟩
theorem te18015411505593771764 : True:=⟨⟩
theorem te1933620341552705364 : True:=⟨⟩
theorem te10127141590761249909 : True:=⟨⟩
theorem te8307199331500269781 : True:=⟨⟩
theorem te17785834489253781717 : True:=⟨⟩
theorem te3642368389195330805 : True:=⟨⟩
theorem te17643254905472284053 : True:=⟨⟩
theorem te2629327004535188917 : True:=⟨⟩
theorem te5055867615154417333 : True:=⟨⟩
theorem te17992252157721116437 : True:=⟨⟩
theorem te1817114310791794517 : True:=⟨⟩
theorem te8953063340216072214 : True:=⟨⟩
theorem te5679099826962469974 : True:=⟨⟩
theorem te2753842753092701270 : True:=⟨⟩
theorem te3202865180791468150 : True:=⟨⟩
theorem te3419055637007673526 : True:=⟨⟩
theorem te10438581562884286678 : True:=⟨⟩
theorem te2442335738537991478 : True:=⟨⟩
theorem te2973412360734674294 : True:=⟨⟩
theorem te17617900122591788438 : True:=⟨⟩
theorem te163236503888958038 : True:=⟨⟩
theorem te1068592235526033206 : True:=⟨⟩
theorem te2131002232723297238 : True:=⟨⟩
theorem te11329712408065672311 : True:=⟨⟩
theorem te6655086812896418519 : True:=⟨⟩
theorem te14227863664400658456 : True:=⟨⟩
theorem te8360026307546717304 : True:=⟨⟩
theorem te11485769441262608792 : True:=⟨⟩
theorem te3590410286937014936 : True:=⟨⟩
theorem te10254795000426352504 : True:=⟨⟩
theorem te2122327582305159128 : True:=⟨⟩
theorem te10703853689077541977 : True:=⟨⟩
theorem te9253211557659102745 : True:=⟨⟩
theorem te8396096910985417433 : True:=⟨⟩
theorem te15879485177113183450 : True:=⟨⟩
theorem te9116689172591793722 : True:=⟨⟩
theorem te2885394026036694746 : True:=⟨⟩
theorem te1534663571266166586 : True:=⟨⟩
theorem te17009225559166918458 : True:=⟨⟩
theorem te12544452703455271963 : True:=⟨⟩
theorem te3191878003488170235 : True:=⟨⟩
theorem te2993455963691931931 : True:=⟨⟩
theorem te13701876040409530715 : True:=⟨⟩
theorem te17059523009571278235 : True:=⟨⟩
theorem te16899809483993770587 : True:=⟨⟩
theorem te17287978901826261787 : True:=⟨⟩
theorem te5542583764513896347 : True:=⟨⟩
theorem te16324835468770320347 : True:=⟨⟩
theorem te11910967444722807196 : True:=⟨⟩
theorem te9531171237638822524 : True:=⟨⟩
theorem te4014166771324858012 : True:=⟨⟩
theorem te5396097033985634204 : True:=⟨⟩
def My.view_39 : PySem.Program:={ PySem.Challenge.pw_unlikeplace_k22_sayings_of_talks with main:={ PySem.Challenge.pw_unlikeplace_k22_sayings_of_talks.main with body:=[My.top 1,My.top 2,My.top 3,My.top 4,My.top 5,My.top 7,My.top 8,My.top 10,My.top 12,My.top 14,My.top 15,My.top 16,My.top 17,My.top 19,My.top 20,My.top 22,My.top 23,My.top 24,My.top 25,My.top 26,My.top 27,My.top 28,My.top 29,My.top 30,My.top 31,My.top 32,My.top 33,My.top 34,My.top 35,My.top 36] } }
def tw11835966877263777981 : PySem.Program:=My.view_39
theorem te11835966877263777981 : My.view_39 = tw11835966877263777981:=rfl
theorem te9087742068395988157 : True:=⟨⟩
theorem te4770134257963853405 : True:=⟨⟩
theorem te11616946964459181693 : True:=⟨⟩
theorem te3343418101982956509 : True:=⟨⟩
theorem te1876326977429680542 : True:=⟨⟩
theorem te9250691929098290654 : True:=⟨⟩
theorem te11266217064635415038 : True:=⟨⟩
def My.sts_97 : List PySem.Stmt:=[My.top 8,My.top 9,My.top 10,My.top 11,My.top 12,My.top 13,My.top 14,My.top 15,My.top 16]
def tw15168285070516675294 : List PySem.Stmt:=My.sts_97
theorem te15168285070516675294 : My.sts_97 = tw15168285070516675294:=rfl
theorem te7350398904994600031 : True:=⟨⟩
theorem te14646289065335372063 : True:=⟨⟩
theorem te602059550389651743 : True:=⟨⟩
theorem te8672256663625407871 : True:=⟨⟩
theorem te6548639143732824543 : True:=⟨⟩
theorem te5428294992228882943 : True:=⟨⟩
theorem te15415962073659290527 : True:=⟨⟩
theorem te8947804814987285439 : True:=⟨⟩
theorem te4016433423126495167 : True:=⟨⟩
end PySem.W.Fast
open PySem PySem.W PyProof.Rows
set_option maxRecDepth 100000 in
set_option maxHeartbeats 0 in
theorem PySem.Challenge.cw_unlikeplace_k22_sayings_of_talks_holds : PySem.Challenge.rw_unlikeplace_k22_sayings_of_talks.Holds := by
  w_on;o_law
  o_head (PySem.W.kHook My.KK [nat_lit 2,nat_lit 3,nat_lit 15,nat_lit 18,nat_lit 19,nat_lit 20,nat_lit 22,nat_lit 23,nat_lit 25,nat_lit 26,nat_lit 27,nat_lit 29,nat_lit 30,nat_lit 32,nat_lit 33,nat_lit 34,nat_lit 36,nat_lit 37,nat_lit 39,nat_lit 40,nat_lit 41,nat_lit 43,nat_lit 44,nat_lit 46,nat_lit 47,nat_lit 48,nat_lit 55,nat_lit 56,nat_lit 57,nat_lit 58,nat_lit 61,nat_lit 68,nat_lit 69,nat_lit 70,nat_lit 73,nat_lit 75,nat_lit 76,nat_lit 78,nat_lit 79,nat_lit 80,nat_lit 83,nat_lit 84,nat_lit 85,nat_lit 87,nat_lit 88,nat_lit 90,nat_lit 91,nat_lit 92,nat_lit 94,nat_lit 95,nat_lit 97,nat_lit 98,nat_lit 99,nat_lit 101,nat_lit 102,nat_lit 104,nat_lit 105,nat_lit 106,nat_lit 108,nat_lit 109,nat_lit 111,nat_lit 112,nat_lit 113,nat_lit 114,nat_lit 117,nat_lit 118,nat_lit 119,nat_lit 121,nat_lit 122,nat_lit 124,nat_lit 125,nat_lit 126,nat_lit 128,nat_lit 129,nat_lit 131,nat_lit 132,nat_lit 133,nat_lit 135,nat_lit 136,nat_lit 138,nat_lit 139,nat_lit 140,nat_lit 142,nat_lit 143,nat_lit 145,nat_lit 146,nat_lit 147,nat_lit 150,nat_lit 151,nat_lit 152,nat_lit 155,nat_lit 156,nat_lit 157,nat_lit 159,nat_lit 160,nat_lit 162,nat_lit 163,nat_lit 164,nat_lit 166,nat_lit 167,nat_lit 169,nat_lit 170,nat_lit 171,nat_lit 174,nat_lit 175,nat_lit 176,nat_lit 178,nat_lit 179,nat_lit 181,nat_lit 182,nat_lit 183,nat_lit 186,nat_lit 187,nat_lit 188,nat_lit 191,nat_lit 192,nat_lit 193,nat_lit 196,nat_lit 197,nat_lit 198,nat_lit 201,nat_lit 202,nat_lit 203,nat_lit 205,nat_lit 206,nat_lit 208,nat_lit 209] (fun _=>by kernel_rfl))
  (case hw=>w_witness2)
  k_fill
  refine L2.walk_ofT (l:=PySem.Challenge.rw_unlikeplace_k22_sayings_of_talks) (n:=63) (k:=200) (x:="_law_script") (CX:=L2.CX0) (sp:=My.sp_law) rfl (by decide) rfl ⟨rfl,by decide,by decide,rfl⟩ (fun w h Y=>by first | exact PySem.W.kIn_of Y | exact PySem.W.km_in_of Y) (fun w=>by kernel_rfl) ?F ?S ?C
  case F =>
    intro w mg fa h KX G hmg
    have T : ∃ t,t.wo = w∧My.Txt (L2.KOf KX) mg t:=by
      dsimp only [L2.KOf]
      refine' My.txt_mk w KX G ?g_went_on ?l_went_on ?c_went_on ?e_went_on ?g_ends_of ?l_ends_of ?c_ends_of ?e_ends_of ?g_has_pairs ?l_has_pairs ?c_has_pairs ?e_has_pairs ?g_kept_upward ?l_kept_upward ?c_kept_upward ?e_kept_upward ?g_cut ?l_cut ?c_cut ?e_cut ?g_upward ?l_upward ?c_upward ?e_upward ?g_pairs_in ?l_pairs_in ?c_pairs_in ?e_pairs_in ?g_spoken ?l_spoken ?c_spoken ?e_spoken ?g_parts_pair ?l_parts_pair ?c_parts_pair ?e_parts_pair ?g_fault ?l_fault ?c_fault ?e_fault ?g_lets_by ?l_lets_by ?c_lets_by ?e_lets_by ?g_saying_of ?l_saying_of ?c_saying_of ?e_saying_of ?g_l_begun ?l_l_begun ?c_l_begun ?e_l_begun ?g_l_next_of ?l_l_next_of ?c_l_next_of ?e_l_next_of ?g_l_all ?l_l_all ?c_l_all ?e_l_all ?g_l_dealt ?l_l_dealt ?c_l_dealt ?e_l_dealt ?g_l_shared ?l_l_shared ?c_l_shared ?e_l_shared ?g_l_parted ?l_l_parted ?c_l_parted ?e_l_parted ?g_l_any_saying ?l_l_any_saying ?c_l_any_saying ?e_l_any_saying ?g_l_holds ?l_l_holds ?c_l_holds ?e_l_holds ?g_l_spoken_for ?l_l_spoken_for ?c_l_spoken_for ?e_l_spoken_for ?g_l_wrapped ?l_l_wrapped ?c_l_wrapped ?e_l_wrapped ?g_l_strewn ?l_l_strewn ?c_l_strewn ?e_l_strewn ?g_l_meaning ?l_l_meaning ?c_l_meaning ?e_l_meaning ?g_l_small ?l_l_small ?c_l_small ?e_l_small ?g_l_wide ?l_l_wide ?c_l_wide ?e_l_wide ?g_law ?l_law ?c_law ?e_law ?g_JOIN_OF_HAND ?l_JOIN_OF_HAND ?z_abs ?z_len ?z_list ?z_max ?z_min ?z_range ?z_repr ?z_sorted ?z_tuple
      (case g_went_on=>k_is)
      (case l_went_on=>k_is)
      (case c_went_on=>k_is)
      (case e_went_on=>k_is)
      (case g_ends_of=>k_is)
      (case l_ends_of=>k_is)
      (case c_ends_of=>k_is)
      (case e_ends_of=>k_is)
      (case g_has_pairs=>k_is)
      (case l_has_pairs=>k_is)
      (case c_has_pairs=>k_is)
      (case e_has_pairs=>k_is)
      (case g_kept_upward=>k_is)
      (case l_kept_upward=>k_is)
      (case c_kept_upward=>k_is)
      (case e_kept_upward=>k_is)
      (case g_cut=>k_is)
      (case l_cut=>k_is)
      (case c_cut=>k_is)
      (case e_cut=>k_is)
      (case g_upward=>k_is)
      (case l_upward=>k_is)
      (case c_upward=>k_is)
      (case e_upward=>k_is)
      (case g_pairs_in=>k_is)
      (case l_pairs_in=>k_is)
      (case c_pairs_in=>k_is)
      (case e_pairs_in=>k_is)
      (case g_spoken=>k_is)
      (case l_spoken=>k_is)
      (case c_spoken=>k_is)
      (case e_spoken=>k_is)
      (case g_parts_pair=>k_is)
      (case l_parts_pair=>k_is)
      (case c_parts_pair=>k_is)
      (case e_parts_pair=>k_is)
      (case g_fault=>k_is)
      (case l_fault=>k_is)
      (case c_fault=>k_is)
      (case e_fault=>k_is)
      (case g_lets_by=>k_is)
      (case l_lets_by=>k_is)
      (case c_lets_by=>k_is)
      (case e_lets_by=>k_is)
      (case g_saying_of=>k_is)
      (case l_saying_of=>k_is)
      (case c_saying_of=>k_is)
      (case e_saying_of=>k_is)
      (case g_l_begun=>k_is)
      (case l_l_begun=>k_is)
      (case c_l_begun=>k_is)
      (case e_l_begun=>k_is)
      (case g_l_next_of=>k_is)
      (case l_l_next_of=>k_is)
      (case c_l_next_of=>k_is)
      (case e_l_next_of=>k_is)
      (case g_l_all=>k_is)
      (case l_l_all=>k_is)
      (case c_l_all=>k_is)
      (case e_l_all=>k_is)
      (case g_l_dealt=>k_is)
      (case l_l_dealt=>k_is)
      (case c_l_dealt=>k_is)
      (case e_l_dealt=>k_is)
      (case g_l_shared=>k_is)
      (case l_l_shared=>k_is)
      (case c_l_shared=>k_is)
      (case e_l_shared=>k_is)
      (case g_l_parted=>k_is)
      (case l_l_parted=>k_is)
      (case c_l_parted=>k_is)
      (case e_l_parted=>k_is)
      (case g_l_any_saying=>k_is)
      (case l_l_any_saying=>k_is)
      (case c_l_any_saying=>k_is)
      (case e_l_any_saying=>k_is)
      (case g_l_holds=>k_is)
      (case l_l_holds=>k_is)
      (case c_l_holds=>k_is)
      (case e_l_holds=>k_is)
      (case g_l_spoken_for=>k_is)
      (case l_l_spoken_for=>k_is)
      (case c_l_spoken_for=>k_is)
      (case e_l_spoken_for=>k_is)
      (case g_l_wrapped=>k_is)
      (case l_l_wrapped=>k_is)
      (case c_l_wrapped=>k_is)
      (case e_l_wrapped=>k_is)
      (case g_l_strewn=>k_is)
      (case l_l_strewn=>k_is)
      (case c_l_strewn=>k_is)
      (case e_l_strewn=>k_is)
      (case g_l_meaning=>k_is)
      (case l_l_meaning=>k_is)
      (case c_l_meaning=>k_is)
      (case e_l_meaning=>k_is)
      (case g_l_small=>k_is)
      (case l_l_small=>k_is)
      (case c_l_small=>k_is)
      (case e_l_small=>k_is)
      (case g_l_wide=>k_is)
      (case l_l_wide=>k_is)
      (case c_l_wide=>k_is)
      (case e_l_wide=>k_is)
      (case g_law=>k_is)
      (case l_law=>k_is)
      (case c_law=>k_is)
      (case e_law=>k_is)
      (case g_JOIN_OF_HAND=>k_is)
      (case l_JOIN_OF_HAND=>k_is)
      (case z_abs=>k_is)
      (case z_len=>k_is)
      (case z_list=>k_is)
      (case z_max=>k_is)
      (case z_min=>k_is)
      (case z_range=>k_is)
      (case z_repr=>k_is)
      (case z_sorted=>k_is)
      (case z_tuple=>k_is)
    obtain ⟨t,hw,T⟩:=T
    have e0:=hmg.symm.trans T.m_law
    cases e0
    exact ⟨_,T.bl_law,fun base=>My.ok_lawW hw T⟩
  case S=>exact fun K H a ns hl hO hS=>My.start_law hl hO hS
  case C=>exact fun _ _ _ _ h=>h
