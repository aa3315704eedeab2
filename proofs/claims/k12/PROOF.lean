import PyProof.Rows.All
import Wide.All
import OpenK.AllK
import Wide.FinOn
import Lean
import PyProof.EqAt
import PyProof.EqKinds
import PyProof.TupleCall
import PyProof.NeKinds
import PyProof.AutoIntG2
import PyProof.FactsAll.int_6
import PyProof.Rows.BootFacts.P1
import PyProof.ReprRoads
import PySem.Challenge.RW_unlikeplace_k12_sayings_by_words
-- CHANGE: your row's module here, as the last of these rows
set_option Elab.async false
set_option linter.all false
set_option maxRecDepth 100000
/-! THE HAND LAYER, for ints, bools, texts, own classes, LISTS and tuples (index, slices, in, append, pop ..), calls, loops. Paste it whole ahead of your own text; what your proof does not reach may be deleted. -/
namespace L2
open PySem PySem.Spec PyProof.Rows

/-- a key: an int or a str -/
abbrev Key := Sum Int Str
def keyIs : Key → Value → Bool
  | .inl k, v => Value.isInt k v
  | .inr x, v => Value.isStrOf x v
def keyH (w : World) : Key → Int
  | .inl k => hashInt k
  | .inr x => hashStr w x
theorem keyIs_shape : ∀ {k : Key} {v : Value}, keyIs k v = true → (∃ i t, k = Sum.inl i ∧ v = Value.int i t) ∨ (∃ x t, k = Sum.inr x ∧ v = Value.str x t)
  | .inl i, v, h => by
    obtain ⟨t, e⟩ := Value.isInt_shape (k := i) (v := v) h
    exact .inl ⟨i, t, rfl, e⟩
  | .inr x, v, h => by
    obtain ⟨t, e⟩ := Value.isStrOf_shape (x := x) (v := v) h
    exact .inr ⟨x, t, rfl, e⟩
theorem keyIs_int (i : Int) (t : Tok) : keyIs (.inl i) (.int i t) = true := by simp [keyIs, Value.isInt]
theorem keyIs_str (x : Str) (t : Tok) : keyIs (.inr x) (.str x t) = true := by simp [keyIs, Value.isStrOf]
theorem key_ll (a b : Int) : decide ((Sum.inl a : Key) = Sum.inl b) = (a == b) := by
  by_cases e : a = b
  · subst e; simp
  · have h : ¬ (Sum.inl a : Key) = Sum.inl b := fun q => e (Sum.inl.inj q)
    rw [decide_eq_false h]
    exact (beq_eq_false_iff_ne.mpr e).symm
theorem key_rr (a b : Str) : decide ((Sum.inr a : Key) = Sum.inr b) = decide (a = b) := by
  by_cases e : a = b
  · subst e; simp
  · have h : ¬ (Sum.inr a : Key) = Sum.inr b := fun q => e (Sum.inr.inj q)
    rw [decide_eq_false h, decide_eq_false e]
theorem key_lr (a : Int) (b : Str) : decide ((Sum.inl a : Key) = Sum.inr b) = false := decide_eq_false (fun q => nomatch q)
theorem key_rl (a : Str) (b : Int) : decide ((Sum.inr a : Key) = Sum.inl b) = false := decide_eq_false (fun q => nomatch q)

def mixKind (prog : Program) (w : World) : PySem.KeyKind prog w Key where
  is := keyIs
  hash := keyH w
  inj := fun v a b ha hb => by
    rcases keyIs_shape ha with ⟨i, t, rfl, rfl⟩ | ⟨x, t, rfl, rfl⟩
    · rcases keyIs_shape hb with ⟨j, u, rfl, e⟩ | ⟨y, u, rfl, e⟩
      · injection e with e1 _; rw [e1]
      · exact nomatch e
    · rcases keyIs_shape hb with ⟨j, u, rfl, e⟩ | ⟨y, u, rfl, e⟩
      · exact nomatch e
      · injection e with e1 _; rw [e1]
  byValue := fun k v h => by
    rcases keyIs_shape h with ⟨i, t, rfl, rfl⟩ | ⟨x, t, rfl, rfl⟩ <;> rfl
  pyHash := fun hv h => by
    rcases keyIs_shape hv with ⟨i, t, rfl, rfl⟩ | ⟨x, t, rfl, rfl⟩
    · exact wpAny_pyHash_int h
    · exact wpAny_pyHash_str h
  eqBool := fun hu hv h => by
    rcases keyIs_shape hu with ⟨i, t, rfl, rfl⟩ | ⟨x, t, rfl, rfl⟩
    · rcases keyIs_shape hv with ⟨j, u, rfl, rfl⟩ | ⟨y, u, rfl, rfl⟩
      · rw [key_ll] at h; exact wpAny_eqBool_int h
      · rw [key_lr] at h; exact SeqAt.EqAt.int_str i t y u _ _ _ _ h
    · rcases keyIs_shape hv with ⟨j, u, rfl, rfl⟩ | ⟨y, u, rfl, rfl⟩
      · rw [key_rl] at h; exact SeqAt.EqAt.str_int x t j u _ _ _ _ h
      · rw [key_rr] at h; exact wpAny_eqBool_str h
  «strs» := fun k x t v h => by
    rcases keyIs_shape h with ⟨i, u, rfl, e⟩ | ⟨y, u, rfl, e⟩
    · exact nomatch e
    · injection e with e1 _
      subst e1
      cases v <;> rfl

theorem mixKind_int (prog : Program) (w : World) (i : Int) (t : Tok) : (mixKind prog w).is (.inl i) (.int i t) = true := keyIs_int i t
theorem mixKind_str (prog : Program) (w : World) (x : Str) (t : Tok) : (mixKind prog w).is (.inr x) (.str x t) = true := keyIs_str x t
end L2

namespace L2
open PySem PySem.Spec PyProof.Rows

/-- a value, without the heap -/
inductive V where
  | non | bl (b : Bool) | int (i : Int) | str (x : Str) | byt (b : Array UInt8) | flt (b : UInt64) | ref (a : Addr) | ty (n : String)
  deriving DecidableEq

def RelV : V → Value → Prop
  | .non, u => u = Value.none
  | .bl b, u => u = Value.bool b
  | .int i, u => ∃ t, u = Value.int i t
  | .str x, u => ∃ t, u = Value.str x t
  | .byt b, u => ∃ t, u = Value.bytes b t
  | .flt b, u => ∃ t, u = Value.float b t
  | .ref a, u => u = Value.ref a
  | .ty n, u => u = Value.type n

abbrev Vals : List V → List Value → Prop := Paired RelV
theorem Vals.length {xs : List V} {us : List Value} (r : Vals xs us) : xs.length = us.length := Paired.length r
theorem Vals.get : ∀ {xs : List V} {us : List Value} {i : Nat} {x : V}, Vals xs us → xs[i]? = some x → ∃ u, us[i]? = some u ∧ RelV x u
  | _, _, _, _, .nil, e => by simp at e
  | _, _, 0, _, .cons r _, e => by simp at e; subst e; exact ⟨_, rfl, r⟩
  | _, _, i + 1, x, .cons _ t, e => by
    obtain ⟨u, h1, h2⟩ := Vals.get (i := i) (x := x) t (by simpa using e)
    exact ⟨u, by simpa using h1, h2⟩
theorem Vals.set {x : V} {u : Value} (r : RelV x u) : ∀ {xs : List V} {us : List Value} (i : Nat), Vals xs us → Vals (xs.set i x) (us.set i u)
  | _, _, _, .nil => .nil
  | _, _, 0, .cons _ t => .cons r t
  | _, _, i + 1, .cons q t => .cons q (Vals.set r i t)
theorem Vals.append : ∀ {xs ys : List V} {us ws : List Value}, Vals xs us → Vals ys ws → Vals (xs ++ ys) (us ++ ws)
  | _, _, _, _, .nil, s => s
  | _, _, _, _, .cons r t, s => .cons r (Vals.append t s)
theorem Vals.take : ∀ {xs : List V} {us : List Value} (n : Nat), Vals xs us → Vals (xs.take n) (us.take n)
  | _, _, 0, _ => .nil
  | _, _, _ + 1, .nil => .nil
  | _, _, n + 1, .cons r t => .cons r (Vals.take n t)
theorem Vals.drop : ∀ {xs : List V} {us : List Value} (n : Nat), Vals xs us → Vals (xs.drop n) (us.drop n)
  | _, _, 0, r => r
  | _, _, _ + 1, .nil => .nil
  | _, _, n + 1, .cons _ t => Vals.drop n t
theorem Vals.none_of : ∀ {xs : List V} {us : List Value} {i : Nat}, Vals xs us → xs[i]? = none → us[i]? = none := fun {xs us i} r e => by
  have h1 := r.length
  have h2 : xs.length ≤ i := List.getElem?_eq_none_iff.mp e
  exact List.getElem?_eq_none_iff.mpr (by omega)

def RelO : Option V → Option Value → Prop
  | some v, some u => RelV v u
  | none, none => True
  | _, _ => False
def KV {κ : Type} : List (κ × V) → List (κ × Value) → Prop := Paired fun (p : κ × V) (q : κ × Value) => p.1 = q.1 ∧ RelV p.2 q.2

/-- a key of a dict (00_mix): an int or a text -/
def kV : Key → V
  | .inl i => .int i
  | .inr x => .str x

/-- what stands at a tracked address -/
inductive HO where
  /-- a list -/
  | lst (xs : List V)
  /-- a tuple (never changes) -/
  | tup (xs : List V)
  /-- a dict whose keys are ints and texts; one whose keys are tuples of ints and texts (the empty one is both) -/
  | dK (kvs : List (Key × V)) | dT (kvs : List (List Key × V))
  /-- a set of ints: its members, its size -/
  | set (S : Int → Bool) (n : Nat)
  /-- an instance of the class at C, its dict at dx, its attributes -/
  | ins (C dx : Addr) (fs : List (Str × V))
  /-- the dict of the instance at x -/
  | own (x : Addr)
  /-- the dict of an exception -/
  | xd (fs : List (Str × V))
  /-- a bound method, f of x -/
  | met (f x : Addr)
  /-- a range object lo, lo + 1, .. below hi -/
  | rng (lo hi : Int)
  /-- a thing that is known to the object (the script; a dict while a loop walks it): read, never written while it is so -/
  | frz (o : Obj) (u : HO)
  /-- a code object's table -/
  | tbl (ps : Array Value)
  /-- any other thing, by what is true of its one object (a def of one's own: SetO a S n := HO.ext fun h => ..) -/
  | ext (φ : Heap → Prop)

abbrev Hp := Addr → Option HO
def upd (H : Hp) (a : Addr) (o : HO) : Hp := fun b => if b = a then some o else H b
theorem upd_same {H : Hp} {a : Addr} {o : HO} : upd H a o a = some o := by unfold upd; rw [if_pos rfl]
theorem upd_ne {H : Hp} {a b : Addr} {o : HO} (h : b ≠ a) : upd H a o b = H b := by unfold upd; rw [if_neg h]
theorem upd_upd {H : Hp} {a : Addr} {o u : HO} : upd (upd H a o) a u = upd H a u := by
  funext b; unfold upd; split <;> rfl
/-- two objects of different content stand apart -/
theorem ne_of {H : Hp} {a b : Addr} {o u : HO} (h : H a = some o) (h' : H b = some u) (d : o ≠ u) : a ≠ b := by
  intro e; subst e; rw [h] at h'; exact d (Option.some.inj h')
theorem ne_of_none {H : Hp} {a b : Addr} {o : HO} (h : H a = some o) (h' : H b = none) : a ≠ b := by
  intro e; subst e; rw [h] at h'; cases h'

/-- the codes that a table holds: kept things, with the name that stands first in ps -/
def TblOk (H : Hp) (a : Addr) (ps qs : Array Value) : Prop := TriplesOk qs.toList ∧ ∀ (pos : Pos) (cv : Value), codeAmong pos qs.toList = some cv →
  ∃ (c : Addr) (o : Obj) (vs : Array Value) (t : Tok) (q : Str), cv = .ref c ∧ H c = some (.frz o (.own a)) ∧ o.data = .fields vs ∧ vs[1]? = some (.str q t) ∧ ps[0]? = some (.str q 0)
theorem TblOk.mono {H H' : Hp} {a : Addr} {ps qs : Array Value} (x : TblOk H a ps qs) (k : ∀ b o u, H b = some (.frz o u) → H' b = some (.frz o u)) : TblOk H' a ps qs :=
  ⟨x.1, fun pos cv e => let ⟨c, o, vs, t, q, e1, e2, r⟩ := x.2 pos cv e; ⟨c, o, vs, t, q, e1, k _ _ _ e2, r⟩⟩
section
variable (P : Program) (w : World)
def ObjOk (H : Hp) (h : Heap) (a : Addr) : HO → Prop
  | .lst xs => xs.length ≤ sizeLine ∧ ∃ (its : List Value) (n : Nat), Vals xs its ∧ h.get? a = some { cls := .type "list", data := .seq its.toArray n }
  | .tup xs => xs.length ≤ sizeLine ∧ ∃ its : List Value, Vals xs its ∧ IsTup h a its.toArray
  | .dK kvs => kvs.length ≤ sizeLine ∧ (a == sysModules) = false ∧ ∃ vs, KV kvs vs ∧ h.DictOf (mixKind P w) a vs
  | .dT kvs => kvs.length ≤ sizeLine ∧ (a == sysModules) = false ∧ ∃ xs : List (List Key × Addr × Value),
      Paired (fun (p : List Key × V) (q : List Key × Addr × Value) => p.1 = q.1 ∧ H q.2.1 = some (.tup (p.1.map kV)) ∧ RelV p.2 q.2.2) kvs xs ∧
      ∃ o es ep, h.get? a = some o ∧ o.ExactDict ∧ o.data = .dict es ep ∧ es.toList = xs.map (entryOfKey (tupleKind (mixKind P w))) ∧ (xs.map (·.1)).Nodup
  | .set S n => h.SetOf (intKind P w) a S n
  | .ins C dx fs => H dx = some (.own a) ∧ fs.length ≤ 1000 ∧ dx ≠ a ∧ h.get? a = some (PySem.W.instObj C dx) ∧
      ∃ mA, h.Ns1 dx mA ∧ (∀ f, RelO (fs.lookup f) (mA f)) ∧ PySem.Within mA (fs.map (·.1))
  | .own _ => ∃ o, h.get? a = some o
  | .xd fs => ∃ mA, h.Ns1 a mA ∧ ∀ f, RelO (fs.lookup f) (mA f)
  | .rng lo hi => ∃ t u v, h.get? a = some { cls := .type "range", data := .fields #[.int lo t, .int hi u, .int 1 v] }
  | .frz o u => h.get? a = some o ∧ ObjOk H h a u
  | .tbl ps => ∃ qs : Array Value, h.get? a = some { cls := .none, data := .fields qs } ∧ TblOk H a ps qs
  | .met f x => h.get? a = some (PySem.W.methodObj (.ref f) (.ref x))
  | .ext φ => φ h ∧ (∃ o, h.get? a = some o) ∧ ∀ h1 h2 : Heap, φ h1 → (∀ o, h1.get? a = some o → h2.get? a = some o) → φ h2
/-- the abstract heap is held -/
def HOk (H : Hp) (h : Heap) : Prop := ∀ a o, H a = some o → ObjOk P w H h a o
end

section
variable {P : Program} {w : World} {H H' : Hp} {h h' : Heap} {a : Addr} {o : HO}
theorem ObjOk.lt (x : ObjOk P w H h a o) : a < h.objs.size := by
  cases o with
  | lst xs => obtain ⟨_, _, _, _, e⟩ := x; exact Heap.lt_size e
  | tup xs => obtain ⟨_, _, _, p⟩ := x; exact p.lt
  | dK kvs => obtain ⟨_, _, _, _, o, _, _, e, _⟩ := x; exact Heap.lt_size e
  | dT kvs => obtain ⟨_, _, _, _, o, _, _, e, _⟩ := x; exact Heap.lt_size e
  | set S n => obtain ⟨o, _, _, _, e, _⟩ := x; exact Heap.lt_size e
  | ins C dx fs => obtain ⟨_, _, _, e, _⟩ := x; exact Heap.lt_size e
  | own y => obtain ⟨_, e⟩ := x; exact Heap.lt_size e
  | xd fs => obtain ⟨_, ⟨_, _, _, e, _⟩, _⟩ := x; exact Heap.lt_size e
  | rng lo hi => obtain ⟨_, _, _, e⟩ := x; exact Heap.lt_size e
  | frz ob u => obtain ⟨e, _⟩ := x; exact Heap.lt_size e
  | tbl ps => obtain ⟨qs, e, _⟩ := x; exact Heap.lt_size e
  | met f y => exact Heap.lt_size (show h.get? a = some _ from x)
  | ext φ => obtain ⟨_, ⟨_, e⟩, _⟩ := x; exact Heap.lt_size e
theorem Paired.mapP {α β : Type} {F G : α → β → Prop} : ∀ {l₁ : List α} {l₂ : List β}, Paired F l₁ l₂ → (∀ a b, F a b → G a b) → Paired G l₁ l₂
  | _, _, .nil, _ => .nil
  | _, _, .cons r t, f => .cons (f _ _ r) (Paired.mapP t f)
/-- what an object's description leans on: its own object, its own dict, the tuples -/
theorem ObjOk.stay (x : ObjOk P w H h a o) (k : ∀ b u, (b = a ∨ H b = some (.own a)) → h.get? b = some u → h'.get? b = some u)
    (ho : ∀ b, H b = some (.own a) → H' b = some (.own a)) (ht : ∀ b xs, H b = some (.tup xs) → H' b = some (.tup xs)) (hf : ∀ b o u, H b = some (.frz o u) → H' b = some (.frz o u)) : ObjOk P w H' h' a o := by
  induction o with
  | lst xs => obtain ⟨z, its, n, r, e⟩ := x; exact ⟨z, its, n, r, k _ _ (.inl rfl) e⟩
  | tup xs => obtain ⟨z, its, r, ob, e, c⟩ := x; exact ⟨z, its, r, ob, k _ _ (.inl rfl) e, c⟩
  | dK kvs => obtain ⟨z, y, vs, r, ob, es, ep, e, c⟩ := x; exact ⟨z, y, vs, r, ob, es, ep, k _ _ (.inl rfl) e, c⟩
  | dT kvs =>
    obtain ⟨z, y, xs, r, ob, es, ep, e, c⟩ := x
    exact ⟨z, y, xs, Paired.mapP r fun p q z => ⟨z.1, ht _ _ z.2.1, z.2.2⟩, ob, es, ep, k _ _ (.inl rfl) e, c⟩
  | set S n => obtain ⟨ob, es, ep, t, e, c⟩ := x; exact ⟨ob, es, ep, t, k _ _ (.inl rfl) e, c⟩
  | ins C dx fs =>
    obtain ⟨d, z, ne, e, mA, ⟨od, es, ep, e2, c⟩, r⟩ := x
    exact ⟨ho _ d, z, ne, k _ _ (.inl rfl) e, mA, ⟨od, es, ep, k _ _ (.inr d) e2, c⟩, r⟩
  | own y => obtain ⟨ob, e⟩ := x; exact ⟨ob, k _ _ (.inl rfl) e⟩
  | xd fs => obtain ⟨mA, ⟨od, es, ep, e, c⟩, r⟩ := x; exact ⟨mA, ⟨od, es, ep, k _ _ (.inl rfl) e, c⟩, r⟩
  | rng lo hi => obtain ⟨t, u, v, e⟩ := x; exact ⟨t, u, v, k _ _ (.inl rfl) e⟩
  | frz ob u ih => obtain ⟨e, q⟩ := x; exact ⟨k _ _ (.inl rfl) e, ih q⟩
  | tbl ps => obtain ⟨qs, e, z⟩ := x; exact ⟨qs, k a _ (.inl rfl) e, z.mono hf⟩
  | met f y =>
    have e : h.get? a = some (PySem.W.methodObj (.ref f) (.ref y)) := x
    show h'.get? a = some (PySem.W.methodObj (.ref f) (.ref y))
    exact k a _ (.inl rfl) e
  | ext φ => obtain ⟨p, ⟨o, e⟩, st⟩ := x; exact ⟨st _ _ p fun o q => k _ _ (.inl rfl) q, ⟨o, k _ _ (.inl rfl) e⟩, st⟩
theorem HOk.lt (x : HOk P w H h) (e : H a = some o) : a < h.objs.size := (x a o e).lt
theorem HOk.fresh (x : HOk P w H h) (e : h.objs.size ≤ a) : H a = none := by
  cases q : H a with
  | none => rfl
  | some u => exact absurd (Nat.lt_of_lt_of_le (x.lt q) e) (Nat.lt_irrefl _)
/-- every object of the heap is kept -/
theorem HOk.kept (x : HOk P w H h) (k : ∀ b u, h.get? b = some u → h'.get? b = some u) : HOk P w H h' := fun a o e =>
  (x a o e).stay (fun b u _ q => k b u q) (fun _ q => q) (fun _ _ q => q) fun _ _ _ q => q
/-- a new object is laid and tracked -/
theorem HOk.laid (x : HOk P w H h) (k : ∀ b u, h.get? b = some u → h'.get? b = some u) (hp : h.objs.size ≤ a) (new : ObjOk P w (upd H a o) h' a o) : HOk P w (upd H a o) h' := fun b u e => by
  have hn := x.fresh hp
  by_cases hb : b = a
  · subst hb; rw [upd_same] at e; cases e; exact new
  · rw [upd_ne hb] at e
    exact (x b u e).stay (fun c v _ q => k c v q) (fun c q => by rw [upd_ne (ne_of_none q hn)]; exact q) (fun c xs q => by rw [upd_ne (ne_of_none q hn)]; exact q) fun c o' u' q => by rw [upd_ne (ne_of_none q hn)]; exact q
end

/-- what may be read as u: it is u, or a known u -/
def Rd (H : Hp) (a : Addr) (u : HO) : Prop := H a = some u ∨ ∃ o, H a = some (.frz o u)
theorem Rd.of {H : Hp} {a : Addr} {u : HO} (h : H a = some u) : Rd H a u := .inl h
theorem Rd.ok {P : Program} {w : World} {H : Hp} {h : Heap} {a : Addr} {u : HO} (r : Rd H a u) (x : HOk P w H h) : ObjOk P w H h a u := by
  rcases r with r | ⟨o, r⟩
  · exact x a u r
  · obtain ⟨_, q⟩ := x a _ r
    exact q
/-- what may be written -/
def Mut : Option HO → Prop
  | some (.lst _) => True
  | some (.dK _) => True
  | some (.dT _) => True
  | some (.set _ _) => True
  | some (.ins _ _ _) => True
  | some (.ext _) => True
  | _ => False
section
variable {P : Program} {w : World} {H : Hp} {h h' : Heap} {x e : Addr} {o' : HO}
/-- the object at e is changed: x itself, or the dict of the instance x -/
theorem HOk.write (ok : HOk P w H h) (mu : Mut (H x)) (he : e = x ∨ H e = some (.own x)) (k : ∀ b u, b ≠ e → h.get? b = some u → h'.get? b = some u) (heo : ∃ u, h'.get? e = some u)
    (new : ObjOk P w (upd H x o') h' x o') : HOk P w (upd H x o') h' := fun b u q => by
  have nown : ∀ c y, H c = some (.own y) → c ≠ x := fun c y r z => by subst z; rw [r] at mu; exact mu
  have ntup : ∀ c xs, H c = some (.tup xs) → c ≠ x := fun c xs r z => by subst z; rw [r] at mu; exact mu
  by_cases hb : b = x
  · subst hb; rw [upd_same] at q; cases q; exact new
  · rw [upd_ne hb] at q
    by_cases hbe : b = e
    · have q' : H b = some (.own x) := by
        rcases he with z | z
        · exact absurd (hbe.trans z) hb
        · rw [hbe]; exact z
      rw [q] at q'; cases q'
      obtain ⟨v, hv⟩ := heo
      exact ⟨v, by rw [hbe]; exact hv⟩
    · refine (ok b u q).stay (fun c v hc r => k c v ?_ r) (fun c r => by rw [upd_ne (nown c b r)]; exact r) (fun c xs r => by rw [upd_ne (ntup c xs r)]; exact r) fun c o' u' r => by rw [upd_ne (fun z => by subst z; rw [r] at mu; exact mu)]; exact r
      rcases hc with rfl | hc
      · exact hbe
      · rintro rfl
        rcases he with z | z
        · exact nown c b hc z
        · rw [hc] at z; cases z; exact hb rfl
end

/-! ### kept unless tracked; of the frames at fs (the callers') the slots may change (an exception that passes writes there); of the records at ex (iterators) nothing is said -/
structure Un (fs ex : List Addr) (H H' : Hp) (h h' : Heap) : Prop where
  keep : ∀ b o, h.get? b = some o → H b = none → b ∉ fs → b ∉ ex → h'.get? b = some o
  slot : ∀ b o, h.get? b = some o → H b = none → b ∈ fs → b ∉ ex → ∃ sl, h'.get? b = some { o with slots := sl }
  free : ∀ b o, h.get? b = some o → H b = none → b ∉ ex → H' b = none
  there : ∀ b o, h.get? b = some o → b ∉ ex → ∃ o', h'.get? b = some o'
  tups : ∀ b xs, H b = some (.tup xs) → H' b = some (.tup xs)
  frzs : ∀ b o u, H b = some (.frz o u) → H' b = some (.frz o u)
  tbls : ∀ b ps, H b = some (.tbl ps) → ∃ more, H' b = some (.tbl (ps ++ more))
section
variable {fs fs' ex ex' : List Addr} {H H1 H2 : Hp} {h h1 h2 h' : Heap} {a x e : Addr} {o : HO}
theorem Un.any (u : Un fs ex H H1 h h1) {b : Addr} {ob : Obj} (q : h.get? b = some ob) (n : H b = none) (hx : b ∉ ex) : ∃ sl, h1.get? b = some { ob with slots := sl } := by
  by_cases hb : b ∈ fs
  · exact u.slot b ob q n hb hx
  · exact ⟨ob.slots, u.keep b ob q n hb hx⟩
theorem Un.trans (a : Un fs ex H H1 h h1) (b : Un fs ex H1 H2 h1 h2) : Un fs ex H H2 h h2 where
  keep := fun c ob q n hc hx => b.keep c ob (a.keep c ob q n hc hx) (a.free c ob q n hx) hc hx
  slot := fun c ob q n hc hx => by
    obtain ⟨sl, e1⟩ := a.slot c ob q n hc hx
    obtain ⟨sl', e2⟩ := b.slot c _ e1 (a.free c ob q n hx) hc hx
    exact ⟨sl', e2⟩
  free := fun c ob q n hx => by
    obtain ⟨o', e1⟩ := a.there c ob q hx
    exact b.free c o' e1 (a.free c ob q n hx) hx
  there := fun c ob q hx => by
    obtain ⟨o', e1⟩ := a.there c ob q hx
    exact b.there c o' e1 hx
  tups := fun c xs q => b.tups c xs (a.tups c xs q)
  frzs := fun c ob xs q => b.frzs c ob xs (a.frzs c ob xs q)
  tbls := fun c ps q => by
    obtain ⟨m1, e1⟩ := a.tbls c ps q
    obtain ⟨m2, e2⟩ := b.tbls c _ e1
    exact ⟨m1 ++ m2, by rw [e2, Array.append_assoc]⟩
theorem Un.kept (k : ∀ b u, h.get? b = some u → h'.get? b = some u) : Un fs ex H H h h' :=
  ⟨fun b ob q _ _ _ => k b ob q, fun b ob q _ _ _ => ⟨ob.slots, k b ob q⟩, fun _ _ _ n _ => n, fun b ob q _ => ⟨ob, k b ob q⟩, fun _ _ q => q, fun _ _ _ q => q, fun _ ps q => ⟨#[], by rw [q]; simp⟩⟩
theorem Un.refl : Un fs ex H H h h := Un.kept fun _ _ q => q
theorem Un.laid (k : ∀ b u, h.get? b = some u → h'.get? b = some u) (hp : h.objs.size ≤ a) (hn : H a = none) : Un fs ex H (upd H a o) h h' where
  keep := fun b u q _ _ _ => k b u q
  slot := fun b u q _ _ _ => ⟨u.slots, k b u q⟩
  free := fun b u q n _ => by rw [upd_ne (Nat.ne_of_lt (Nat.lt_of_lt_of_le (Heap.lt_size q) hp))]; exact n
  there := fun b u q _ => ⟨u, k b u q⟩
  tups := fun b xs q => by rw [upd_ne (ne_of_none q hn)]; exact q
  frzs := fun b u xs q => by rw [upd_ne (ne_of_none q hn)]; exact q
  tbls := fun b ps q => ⟨#[], by rw [upd_ne (ne_of_none q hn), q]; simp⟩
theorem Un.write (mu : Mut (H x)) (he : e = x ∨ H e = some (.own x)) (k : ∀ b u, b ≠ e → h.get? b = some u → h'.get? b = some u) (heo : ∃ u, h'.get? e = some u) : Un fs ex H (upd H x o) h h' := by
  have hx : ∀ b, H b = none → b ≠ x := fun b n z => by subst z; rw [n] at mu; exact mu
  have hb : ∀ b, H b = none → b ≠ e := fun b n z => by
    subst z
    rcases he with r | r
    · exact hx b n r
    · rw [n] at r; cases r
  have hm : ∀ b u, H b = some u → ¬ Mut (some u) → b ≠ x := fun b u q nm z => by subst z; rw [q] at mu; exact nm mu
  refine ⟨fun b u q n _ _ => k b u (hb b n) q, fun b u q n _ _ => ⟨u.slots, k b u (hb b n) q⟩, fun b u q n _ => by rw [upd_ne (hx b n)]; exact n, fun b u q _ => ?_,
    fun b xs q => by rw [upd_ne (hm b _ q fun z => z)]; exact q, fun b u xs q => by rw [upd_ne (hm b _ q fun z => z)]; exact q, fun b ps q => ⟨#[], by rw [upd_ne (hm b _ q fun z => z), q]; simp⟩⟩
  by_cases hbe : b = e
  · subst hbe; exact heo
  · exact ⟨u, k b u hbe q⟩
theorem Un.mono (u : Un fs ex H H1 h h1) (hs : ∀ b ∈ fs, b ∈ fs') (hx : ∀ b ∈ ex, b ∈ ex') : Un fs' ex' H H1 h h1 :=
  ⟨fun b ob q n hb he => u.keep b ob q n (fun z => hb (hs b z)) fun z => he (hx b z), fun _ _ q n _ he => u.any q n fun z => he (hx _ z), fun b ob q n he => u.free b ob q n fun z => he (hx b z), fun b ob q he => u.there b ob q fun z => he (hx b z), u.tups, u.frzs, u.tbls⟩
end

/-! ### the heap without what is tracked -/
def trk (h : Heap) (H : Hp) : List Addr := (List.range h.objs.size).filter fun a => (H a).isSome
def hidT (h : Heap) (H : Hp) : Heap := PySem.W.hideAll h (trk h H)
theorem hidT_size (h : Heap) (H : Hp) : (hidT h H).objs.size = h.objs.size := PySem.W.hideAll_size _ _
theorem hidT_get {h : Heap} {H : Hp} {b : Addr} {o : Obj} (e : h.get? b = some o) (n : H b = none) : (hidT h H).get? b = some o :=
  PySem.W.hideAll_get _ e fun hm => by
    have q : (H b).isSome = true := (List.mem_filter.mp hm).2
    rw [n] at q; simp at q
theorem of_hidT {h : Heap} {H : Hp} {b : Addr} {o : Obj} (e : (hidT h H).get? b = some o) : h.get? b = some o ∧ H b = none := by
  have e' : h.get? b = some o := PySem.W.of_hideAll (trk h H) e
  refine ⟨e', ?_⟩
  cases q : H b with
  | none => rfl
  | some x =>
    have hm : b ∈ trk h H := List.mem_filter.mpr ⟨List.mem_range.mpr (Heap.lt_size e'), by simp [q]⟩
    have z : (hidT h H).get? b = none := PySem.W.hideAll_none (trk h H) hm
    rw [z] at e; cases e

/-! ### OpenK's ledger, filled with every new object but one -/
def allNews (g h : Heap) (L : Addr) : List (Addr × Obj) := (List.range h.objs.size).filterMap fun a => if a = L ∨ (g.get? a).isSome = true then none else (h.get? a).map fun o => (a, o)
def rest (g h : Heap) (L d : Addr) : List (Addr × Obj) := (allNews g h L).filter fun p => decide (p.1 ≠ d)
end L2

namespace L2
open PySem PySem.Spec PyProof.Rows

/-- the defs of the top: name, code, the code's table -/
def tabL (K : PySem.W.Frag) : List (Str × Addr × Addr) := match K.lookup mainGlobals with
  | some ⟨_, _, .dict es _, _⟩ => es.toList.filterMap fun e => match e.key with
    | .str x _ => (PySem.W.tabIn K x).map fun q => (x, q)
    | _ => none
  | _ => []
def TabT (K : PySem.W.Frag) (H : Hp) : Prop := ∀ q ∈ tabL K, ∃ ps, H q.2.2 = some (.tbl ps) ∧ ps[0]? = some (.str (q.1 ++ ".<locals>." ++ "<lambda>") 0)
theorem TabT.mono {K : PySem.W.Frag} {H H' : Hp} (x : TabT K H) (k : ∀ b ps, H b = some (.tbl ps) → ∃ more, H' b = some (.tbl (ps ++ more))) : TabT K H' := fun q hq => by
  obtain ⟨ps, e, z⟩ := x q hq
  obtain ⟨more, e'⟩ := k _ _ e
  refine ⟨_, e', ?_⟩
  have hz : 0 < ps.size := by
    rcases Nat.eq_zero_or_pos ps.size with h | h
    · rw [Array.getElem?_eq_none (by omega)] at z; cases z
    · exact h
  rw [Array.getElem?_append_left hz]
  exact z
/-- the module's facts, over the base: the heap at the law's entry without what is tracked there -/
structure Mod (K : PySem.W.Frag) (mg : Str → Option Value) (base : Heap) : Prop where
  kin : K.In base
  glob : base.Ns mainGlobals mg
  blt : ∃ mb, base.Ns builtinsNs mb ∧ ∀ x : Str, x ≠ "__name__" → mb x = bootBuiltins x
  nolimit : base.NoLimit
  bm : ∃ bm ob, mg "__builtins__" = some (.ref bm) ∧ bm ≠ builtinsNs ∧ base.get? bm = some ob ∧ ob.cls = .type "module" ∧ ob.dict = some builtinsNs ∧ ob.data = .plain

/-- the context: a def's body (or a comprehension's block) running. base: fixed through the whole law; s₀, H₀: the entry; outer: the frames whose slots others may change (a def's callers); stack: all frames that run;
   ex: iterators that were made ahead of the entry and are walked here (a comprehension's); fn: the names whose cells were made at the entry (a def: all; a comprehension's block: its own); calm: not within an except suite; pn: pins that every state bears; xe: what is wanted of an exception that leaves the code -/
structure Cx where
  prog : Program
  w : World
  K : PySem.W.Frag
  mg : Str → Option Value
  base : Heap
  A : Around
  N : List Str
  s₀ : Shared
  H₀ : Hp
  env : Env
  outer : List Env
  stack : List Env
  ex : List Addr
  fn : Str → Bool
  calm : Bool
  pn : List (Addr × Obj)
  xe : Value → Shared → Prop
/-- the callers' frames -/
def frs (l : List Env) : List Addr := l.filterMap (·.frame)
abbrev Cx.fs (X : Cx) : List Addr := frs X.outer

def Vis (sc : Scope) (x : Str) : Prop := sc.names.lookup x = some .local ∨ sc.names.lookup x = some .cell ∨ sc.names.lookup x = some .free
def Loc (sc : Scope) (x : Str) : Prop := sc.names.lookup x = some .local ∨ sc.names.lookup x = some .cell
def Look (env : Env) (h : Heap) (m : Str → Option Value) (x : Str) (u : Value) : Prop :=
  (env.kindOf x = some .local ∧ m x = some u) ∨ ((env.kindOf x = some .cell ∨ env.kindOf x = some .free) ∧ ∃ c, env.cells.lookup x = some c ∧ h.IsCell c (some u))

structure Cx.Ok (X : Cx) : Prop where
  mod : Mod X.K X.mg X.base
  kind : X.env.scope.kind = .function
  glob : X.env.globals = mainGlobals
  blt : X.env.builtins = builtinsNs
  above : X.s₀.heap.objs.size ≤ X.env.locals
  inj : ∀ x y c, X.env.cells.lookup x = some c → X.env.cells.lookup y = some c → x = y
  has : ∀ x, (X.env.kindOf x = some .cell ∨ X.env.kindOf x = some .free) → ∃ c, X.env.cells.lookup x = some c
  cab : ∀ x c, X.fn x = true → X.env.cells.lookup x = some c → X.s₀.heap.objs.size ≤ c
  hd : X.calm = true → X.A.handled = none
  frames : X.A.frames = some X.stack
  stk : X.stack = X.outer ∨ (X.stack = X.env :: X.outer ∧ X.env.frame = some X.env.locals)
  exf : ∀ b ∈ X.ex, b ≠ X.env.locals ∧ ∀ x c, X.env.cells.lookup x = some c → c ≠ b
  bs : ∀ b o, X.base.get? b = some o → X.s₀.heap.get? b = some o ∧ X.H₀ b = none
  bsz : X.base.objs.size ≤ X.s₀.heap.objs.size
  noex : ∀ b o, X.base.get? b = some o → b ∉ X.ex
  exfs : ∀ b ∈ X.ex, b ∉ X.fs
  funs : X.s₀.heap.FunFrames X.base X.outer
  frf : ∀ b ∈ X.fs, X.H₀ b = none
  tt : TabT X.K X.H₀

structure Inv (X : Cx) (pins : List (Addr × Obj)) (σ : List (Option V)) (H : Hp) (s : Shared) : Prop where
  ok : X.Ok
  os : s.os = X.s₀.os
  bare : AllBare s.gens
  base : Un X.fs X.ex X.H₀ H X.s₀.heap s.heap
  loc : ∃ m, s.heap.Ns X.env.locals m ∧ ∀ (i : Nat) (x : Str) (v : V), X.N[i]? = some x → σ[i]? = some (some v) → Vis X.env.scope x → ∃ u, RelV v u ∧ Look X.env s.heap m x u
  cell : ∀ x c, X.env.cells.lookup x = some c → ∃ v, s.heap.IsCell c v
  free : H X.env.locals = none
  freeC : ∀ x c, X.env.cells.lookup x = some c → H c = none
  pin : ∀ p ∈ X.pn ++ pins, s.heap.get? p.1 = some p.2 ∧ H p.1 = none ∧ p.1 ≠ X.env.locals ∧ p.1 ∉ X.fs ∧ ∀ v, p.2.data ≠ .cell v
  hok : HOk X.prog X.w H s.heap
  len : σ.length = X.N.length

section
variable {X : Cx} {pins : List (Addr × Obj)} {σ : List (Option V)} {H H' : Hp} {s : Shared} {h' : Heap}

theorem Cx.Ok.nofr (ok : X.Ok) {b : Addr} {o : Obj} (e : X.base.get? b = some o) : b ∉ X.fs := fun hb => by
  have := (ok.funs.mem hb).1
  rw [e] at this; cases this
theorem Inv.bs (I : Inv X pins σ H s) : ∀ b o, X.base.get? b = some o → s.heap.get? b = some o ∧ H b = none := fun b o e =>
  ⟨I.base.keep b o (I.ok.bs b o e).1 (I.ok.bs b o e).2 (I.ok.nofr e) (I.ok.noex b o e), I.base.free b o (I.ok.bs b o e).1 (I.ok.bs b o e).2 (I.ok.noex b o e)⟩
theorem Inv.bk (I : Inv X pins σ H s) : ∀ b o, X.base.get? b = some o → s.heap.get? b = some o := fun b o e => (I.bs b o e).1
theorem Inv.mod (I : Inv X pins σ H s) : Mod X.K X.mg X.base := I.ok.mod
theorem Inv.kIn (I : Inv X pins σ H s) : X.K.In s.heap := I.ok.mod.kin.keeps I.bk
theorem Inv.nolimit (I : Inv X pins σ H s) : s.heap.NoLimit := I.ok.mod.nolimit.keeps I.bk
theorem Inv.lt (I : Inv X pins σ H s) : X.env.locals < s.heap.objs.size := let ⟨_, hn, _⟩ := I.loc; hn.lt
theorem Inv.sz (I : Inv X pins σ H s) : X.s₀.heap.objs.size ≤ s.heap.objs.size := Nat.le_trans I.ok.above (Nat.le_of_lt I.lt)
theorem Inv.nofs (I : Inv X pins σ H s) {a : Addr} (h : s.heap.objs.size ≤ a) : a ∉ X.fs := fun hb => by
  obtain ⟨_, o, ho, _⟩ := I.ok.funs.mem hb
  exact absurd (Nat.lt_of_lt_of_le (Heap.lt_size ho) (Nat.le_trans I.sz h)) (Nat.lt_irrefl _)
theorem Inv.cne (I : Inv X pins σ H s) : ∀ x c, X.env.cells.lookup x = some c → c ≠ X.env.locals := fun x c e z => by
  obtain ⟨v, o, ho, hd⟩ := I.cell x c e
  obtain ⟨m, ⟨o', es, ep, ho', hd', _⟩, _⟩ := I.loc
  rw [z, ho'] at ho; cases ho; rw [hd'] at hd; cases hd
theorem Inv.funs (I : Inv X pins σ H s) : s.heap.FunFrames X.base X.outer := by
  have all : ∀ (l : List Env), (∀ b ∈ frs l, b ∈ X.fs) → X.s₀.heap.FunFrames X.base l → s.heap.FunFrames X.base l := by
    intro l
    induction l with
    | nil => intro _ _; trivial
    | cons env r ih =>
      intro hs hl
      obtain ⟨hk, ⟨L, o, hf, hn, ho, hd⟩, hr⟩ := hl
      have hL : L ∈ X.fs := hs L (by unfold frs; rw [List.filterMap_cons, hf]; exact List.mem_cons_self)
      obtain ⟨sl, e⟩ := I.base.slot L o ho (I.ok.frf L hL) hL fun z => I.ok.exfs L z hL
      exact ⟨hk, ⟨L, _, hf, hn, e, hd⟩, ih (fun b hb => hs b (by unfold frs; rw [List.filterMap_cons, hf]; exact List.mem_cons_of_mem _ hb)) hr⟩
  exact all X.outer (fun _ hb => hb) I.ok.funs

/-- the frames that run, for a call -/
theorem Inv.stack (I : Inv X pins σ H s) : s.heap.FunFrames X.base X.stack := by
  rcases I.ok.stk with e | ⟨e, hf⟩
  · rw [e]; exact I.funs
  · rw [e]
    obtain ⟨m, hn, _⟩ := I.loc
    refine .cons (by rw [I.ok.kind]; decide) hf hn ?_ I.funs
    exact Heap.get?_none_of_le (Nat.le_trans I.ok.bsz I.ok.above)
theorem Inv.stkSub (I : Inv X pins σ H s) : ∀ b ∈ frs X.stack, b ∈ X.env.locals :: X.fs := fun b hb => by
  rcases I.ok.stk with e | ⟨e, hf⟩
  · rw [e] at hb; exact List.mem_cons_of_mem _ hb
  · rw [e] at hb
    unfold frs at hb
    rw [List.filterMap_cons, hf] at hb
    exact hb
theorem Inv.stkFree (I : Inv X pins σ H s) : ∀ b ∈ frs X.stack, H b = none := fun b hb => by
  rcases List.mem_cons.mp (I.stkSub b hb) with e | hb
  · rw [e]; exact I.free
  · obtain ⟨_, o, ho, _⟩ := I.ok.funs.mem hb
    exact I.base.free b o ho (I.ok.frf b hb) fun z => I.ok.exfs b z hb

/-- THE STEP: the untracked objects but the frame and the records at ch are kept (the callers' frames up to slots), the frame's map is kept, the new abstract heap is held -/
theorem Inv.step {g' : Array GenState} {t' : Nat} {d' : Drawn} {ch : List Addr} (I : Inv X pins σ H s)
    (hch : ∀ b ∈ ch, (b ∈ X.ex ∨ X.s₀.heap.objs.size ≤ b) ∧ b ≠ X.env.locals ∧ (∀ x c, X.env.cells.lookup x = some c → c ≠ b) ∧ ∀ p ∈ X.pn ++ pins, p.1 ≠ b)
    (keep : ∀ b o, b ≠ X.env.locals → b ∉ X.fs → b ∉ ch → s.heap.get? b = some o → H b = none → h'.get? b = some o)
    (slot : ∀ b o, b ≠ X.env.locals → b ∈ X.fs → b ∉ ch → s.heap.get? b = some o → H b = none → ∃ sl, h'.get? b = some { o with slots := sl }) (free : ∀ b o, b ∉ ch → s.heap.get? b = some o → H b = none → H' b = none)
    (there : ∀ b o, b ∉ ch → s.heap.get? b = some o → ∃ o', h'.get? b = some o')
    (tups : ∀ b xs, H b = some (.tup xs) → H' b = some (.tup xs)) (frzs : ∀ b o u, H b = some (.frz o u) → H' b = some (.frz o u)) (tbls : ∀ b ps, H b = some (.tbl ps) → ∃ more, H' b = some (.tbl (ps ++ more)))
    (ns : ∀ m, s.heap.Ns X.env.locals m → h'.Ns X.env.locals m) (hok : HOk X.prog X.w H' h') (hg : AllBare g') :
    Inv X pins σ H' { s with heap := h', gens := g', drawn := d', toks := t' } := by
  have neL : ∀ b o, X.s₀.heap.get? b = some o → b ≠ X.env.locals := fun b o e => Nat.ne_of_lt (Nat.lt_of_lt_of_le (Heap.lt_size e) I.ok.above)
  have neC : ∀ b o, X.s₀.heap.get? b = some o → b ∉ X.ex → b ∉ ch := fun b o e hx hb => by
    rcases (hch b hb).1 with z | z
    · exact hx z
    · exact absurd (Nat.lt_of_lt_of_le (Heap.lt_size e) z) (Nat.lt_irrefl _)
  have cellK : ∀ x c, X.env.cells.lookup x = some c → ∀ v, s.heap.IsCell c v → h'.IsCell c v := fun x c e v ⟨o, ho, hd⟩ => by
    have nch : c ∉ ch := fun z => (hch c z).2.2.1 x c e rfl
    by_cases hc : c ∈ X.fs
    · obtain ⟨sl, q⟩ := slot c o (I.cne x c e) hc nch ho (I.freeC x c e)
      exact ⟨_, q, hd⟩
    · exact ⟨o, keep c o (I.cne x c e) hc nch ho (I.freeC x c e), hd⟩
  refine ⟨I.ok, I.os, hg, ⟨fun b o e n hb hx => ?_, fun b o e n hb hx => ?_, fun b o e n hx => ?_, fun b o e hx => ?_, fun b xs e => tups b xs (I.base.tups b xs e), fun b o xs e => frzs b o xs (I.base.frzs b o xs e), fun b ps e => ?_⟩, ?_, fun x c e => ?_, ?_, fun x c e => ?_, fun p hp => ?_, hok, I.len⟩
  · exact keep b o (neL b o e) hb (neC b o e hx) (I.base.keep b o e n hb hx) (I.base.free b o e n hx)
  · obtain ⟨sl, e1⟩ := I.base.slot b o e n hb hx
    obtain ⟨sl', e2⟩ := slot b _ (neL b o e) hb (neC b o e hx) e1 (I.base.free b o e n hx)
    exact ⟨sl', e2⟩
  · obtain ⟨o', e1⟩ := I.base.there b o e hx
    exact free b o' (neC b o e hx) e1 (I.base.free b o e n hx)
  · obtain ⟨o', e1⟩ := I.base.there b o e hx
    exact there b o' (neC b o e hx) e1
  · obtain ⟨m1, e1⟩ := I.base.tbls b ps e
    obtain ⟨m2, e2⟩ := tbls b _ e1
    exact ⟨m1 ++ m2, by rw [e2, Array.append_assoc]⟩
  · obtain ⟨m, hn, hl⟩ := I.loc
    refine ⟨m, ns m hn, fun i x v e1 e2 e3 => ?_⟩
    obtain ⟨u, r, l⟩ := hl i x v e1 e2 e3
    refine ⟨u, r, ?_⟩
    rcases l with l | ⟨k, c, e, z⟩
    · exact .inl l
    · exact .inr ⟨k, c, e, cellK x c e _ z⟩
  · obtain ⟨v, z⟩ := I.cell x c e
    exact ⟨v, cellK x c e v z⟩
  · obtain ⟨m, ⟨o, _, _, ho, _⟩, _⟩ := I.loc
    exact free _ o (fun z => (hch _ z).2.1 rfl) ho I.free
  · obtain ⟨v, o, ho, hd⟩ := I.cell x c e
    exact free c o (fun z => (hch c z).2.2.1 x c e rfl) ho (I.freeC x c e)
  · obtain ⟨e, n, ne, nf, d⟩ := I.pin p hp
    have nch : p.1 ∉ ch := fun z => (hch p.1 z).2.2.2 p hp rfl
    exact ⟨keep p.1 p.2 ne nf nch e n, free p.1 p.2 nch e n, ne, nf, d⟩
/-- .. where the frame's own object is kept too -/
theorem Inv.un {t' : Nat} (I : Inv X pins σ H s) (u : Un X.fs [] H H' s.heap h') (hok : HOk X.prog X.w H' h') : Inv X pins σ H' { s with heap := h', toks := t' } := by
  obtain ⟨m, ⟨o, es, ep, ho, r⟩, _⟩ := id I.loc
  obtain ⟨sl, hL⟩ := u.any ho I.free (by simp)
  exact I.step (g' := s.gens) (d' := s.drawn) (ch := []) (fun _ z => nomatch z) (fun b o _ hb _ e n => u.keep b o e n hb (by simp)) (fun b o _ hb _ e n => u.slot b o e n hb (by simp)) (fun b o _ e n => u.free b o e n (by simp)) (fun b o _ e => u.there b o e (by simp)) u.tups u.frzs u.tbls (fun m' hm => by
    obtain ⟨o', es', ep', ho', r'⟩ := hm
    rw [ho] at ho'; cases ho'
    exact ⟨_, es', ep', hL, r'⟩) hok I.bare
/-- behind a call (or a comprehension's block): the slots of this frame may have changed too, the records at ch may have turned -/
theorem Inv.call {g' : Array GenState} {t' : Nat} {d' : Drawn} {ch : List Addr} (I : Inv X pins σ H s) (u : Un (frs X.stack) ch H H' s.heap h') (hok : HOk X.prog X.w H' h') (hg : AllBare g')
    (hch : ∀ b ∈ ch, (b ∈ X.ex ∨ X.s₀.heap.objs.size ≤ b) ∧ b ≠ X.env.locals ∧ (∀ x c, X.env.cells.lookup x = some c → c ≠ b) ∧ ∀ p ∈ X.pn ++ pins, p.1 ≠ b) :
    Inv X pins σ H' { s with heap := h', gens := g', drawn := d', toks := t' } := by
  obtain ⟨m, ⟨o, es, ep, ho, r⟩, _⟩ := id I.loc
  obtain ⟨sl, hL⟩ := u.any ho I.free fun z => (hch _ z).2.1 rfl
  exact I.step (ch := ch) hch (fun b o hL hb hc e n => u.keep b o e n (fun z => (List.mem_cons.mp (I.stkSub b z)).elim hL hb) hc) (fun b o _ _ hc e n => u.any e n hc) (fun b o hc e n => u.free b o e n hc) (fun b o hc e => u.there b o e hc) u.tups u.frzs u.tbls (fun m' hm => by
    obtain ⟨o', es', ep', ho', r'⟩ := hm
    rw [ho] at ho'; cases ho'
    exact ⟨_, es', ep', hL, r'⟩) hok hg
/-- an untracked record of ours (an iterator) has turned -/
theorem Inv.turned {t' : Nat} {it : Addr} (I : Inv X pins σ H s) (k : ∀ b o, b ≠ it → s.heap.get? b = some o → h'.get? b = some o) (hn : H it = none) (hL : it ≠ X.env.locals)
    (h1 : it ∈ X.ex ∨ X.s₀.heap.objs.size ≤ it) (h2 : ∀ x c, X.env.cells.lookup x = some c → c ≠ it) (h3 : ∀ p ∈ X.pn ++ pins, p.1 ≠ it) : Inv X pins σ H { s with heap := h', toks := t' } := by
  have nit : ∀ b u, H b = some u → b ≠ it := fun b u e z => by rw [z, hn] at e; cases e
  refine I.step (g' := s.gens) (d' := s.drawn) (ch := [it]) (fun b hb => ?_) (fun b o _ _ hc e _ => k b o (fun z => hc (by simp [z])) e) (fun b o _ _ hc e _ => ⟨o.slots, k b o (fun z => hc (by simp [z])) e⟩) (fun _ _ _ _ n => n)
    (fun b o hc e => ⟨o, k b o (fun z => hc (by simp [z])) e⟩) (fun _ _ e => e) (fun _ _ _ e => e) (fun b ps e => ⟨#[], by rw [e]; simp⟩) (fun m hm => ?_) (fun b u e => ?_) I.bare
  · have e : b = it := by simpa using hb
    subst e
    exact ⟨h1, hL, h2, h3⟩
  · obtain ⟨o, es, ep, ho, r⟩ := hm
    exact ⟨o, es, ep, k _ o (Ne.symm hL) ho, r⟩
  · refine (I.hok b u e).stay (fun c v hc q => k c v ?_ q) (fun _ q => q) (fun _ _ q => q) fun _ _ _ q => q
    rcases hc with z | z
    · rw [z]; exact nit b u e
    · exact nit c _ z
theorem Inv.tok (I : Inv X pins σ H s) (t : Nat) : Inv X pins σ H { s with toks := t } := I.un (h' := s.heap) (t' := t) Un.refl I.hok
/-- all objects kept -/
theorem Inv.kept {t' : Nat} (I : Inv X pins σ H s) (k : ∀ b u, s.heap.get? b = some u → h'.get? b = some u) : Inv X pins σ H { s with heap := h', toks := t' } := I.un (Un.kept k) (I.hok.kept k)
/-- a new object laid and tracked -/
theorem Inv.laid {a : Addr} {o : HO} {t' : Nat} (I : Inv X pins σ H s) (k : ∀ b u, s.heap.get? b = some u → h'.get? b = some u) (hp : s.heap.objs.size ≤ a) (new : ObjOk X.prog X.w (upd H a o) h' a o) :
    Inv X pins σ (upd H a o) { s with heap := h', toks := t' } := I.un (Un.laid k hp (I.hok.fresh hp)) (I.hok.laid k hp new)
/-- an object written -/
theorem Inv.write {x e : Addr} {o : HO} {t' : Nat} (I : Inv X pins σ H s) (mu : Mut (H x)) (he : e = x ∨ H e = some (.own x)) (k : ∀ b u, b ≠ e → s.heap.get? b = some u → h'.get? b = some u) (heo : ∃ u, h'.get? e = some u)
    (new : ObjOk X.prog X.w (upd H x o) h' x o) : Inv X pins σ (upd H x o) { s with heap := h', toks := t' } := I.un (Un.write mu he k heo) (I.hok.write mu he k heo new)
theorem Inv.pins_of {pins' : List (Addr × Obj)} (I : Inv X pins σ H s) (h : ∀ p ∈ pins', s.heap.get? p.1 = some p.2 ∧ H p.1 = none ∧ p.1 ≠ X.env.locals ∧ p.1 ∉ X.fs ∧ ∀ v, p.2.data ≠ .cell v) : Inv X pins' σ H s :=
  ⟨I.ok, I.os, I.bare, I.base, I.loc, I.cell, I.free, I.freeC, fun p hp => (List.mem_append.mp hp).elim (fun z => I.pin p (List.mem_append_left _ z)) (h p), I.hok, I.len⟩

theorem nodup_ix {N : List Str} (hN : N.Nodup) {i j : Nat} {x : Str} (a : N[i]? = some x) (b : N[j]? = some x) : i = j := by
  obtain ⟨h1, e1⟩ := List.getElem?_eq_some_iff.mp a
  obtain ⟨h2, e2⟩ := List.getElem?_eq_some_iff.mp b
  exact (List.getElem_inj hN).mp (e1.trans e2.symm)

/-- a name is stored; what changed -/
theorem store_ok2 {M : Model} {A : Around} {E : Value → Shared → Prop} {i : Nat} {x : Str} {v : V} {u : Value} {Q : Unit → Shared → Prop} (I : Inv X pins σ H s) (hN : X.N.Nodup) (hi : X.N[i]? = some x) (hx : Loc X.env.scope x) (r : RelV v u)
    (h : ∀ s', Inv X pins (σ.set i (some v)) H s' → (∃ a, Heap.SameBut a s.heap s'.heap ∧ (a = X.env.locals ∨ X.env.cells.lookup x = some a)) → Q () s') (hf : X.fn x = true ∨ X.env.scope.names.lookup x = some .local := by first | exact .inl rfl | exact .inr rfl | assumption) : wpAny M A (storeName X.env x u) Q E s := by
  obtain ⟨m, hn, hl⟩ := id I.loc
  have hcls : (X.env.scope.kind == .class || (X.env.scope.kind == .module && X.env.locals != X.env.globals)) = false := by rw [I.ok.kind]; rfl
  have hiσ : i < σ.length := by rw [I.len]; exact (List.getElem?_eq_some_iff.mp hi).1
  have cne := I.cne
  have tracked : ∀ {a : Addr} {h' : Heap}, (∃ o, s.heap.get? a = some o ∧ H a = none) → Heap.SameBut a s.heap h' → HOk X.prog X.w H h' := fun {a h'} ha hs b ob e => by
    obtain ⟨_, _, hfree⟩ := ha
    refine (I.hok b ob e).stay (fun c w' hc q => (hs.2 c ?_).trans q) (fun _ q => q) (fun _ _ q => q) fun _ _ _ q => q
    rintro rfl
    rcases hc with rfl | hc
    · rw [hfree] at e; cases e
    · rw [hfree] at hc; cases hc
  rcases hx with hk | hk
  · refine wpAny_storeName_local hk hn (fun h' hn' hs => ?_) hcls
    obtain ⟨oL, _, _, hoL, _⟩ := id hn
    refine h _ ⟨I.ok, I.os, I.bare, ⟨fun b o e n hb hx => ?_, fun b o e n hb hx => ?_, I.base.free, fun b o e hx => ?_, I.base.tups, I.base.frzs, I.base.tbls⟩, ⟨_, hn', fun j y v' e1 e2 e3 => ?_⟩, fun y c e => ?_, I.free, I.freeC, fun p hp => ?_, tracked ⟨oL, hoL, I.free⟩ hs, by simpa using I.len⟩ ⟨_, hs, .inl rfl⟩
    · exact (hs.2 b (Nat.ne_of_lt (Nat.lt_of_lt_of_le (Heap.lt_size e) I.ok.above))).trans (I.base.keep b o e n hb hx)
    · obtain ⟨sl, e1⟩ := I.base.slot b o e n hb hx
      exact ⟨sl, (hs.2 b (Nat.ne_of_lt (Nat.lt_of_lt_of_le (Heap.lt_size e) I.ok.above))).trans e1⟩
    · obtain ⟨o', e1⟩ := I.base.there b o e hx
      exact ⟨o', (hs.2 b (Nat.ne_of_lt (Nat.lt_of_lt_of_le (Heap.lt_size e) I.ok.above))).trans e1⟩
    · by_cases hj : j = i
      · subst hj
        rw [hi] at e1; cases e1
        rw [List.getElem?_set_self hiσ] at e2
        cases e2
        exact ⟨u, r, .inl ⟨hk, by simp⟩⟩
      · rw [List.getElem?_set_ne (Ne.symm hj)] at e2
        obtain ⟨u', r', q⟩ := hl j y v' e1 e2 e3
        refine ⟨u', r', ?_⟩
        rcases q with ⟨k, e⟩ | ⟨k, c, e, z⟩
        · refine .inl ⟨k, ?_⟩
          have : y ≠ x := fun e => hj (nodup_ix hN e1 (e ▸ hi))
          simp [this, e]
        · exact .inr ⟨k, c, e, z.sameBut hs (cne y c e)⟩
    · obtain ⟨w', z⟩ := I.cell y c e
      exact ⟨w', z.sameBut hs (cne y c e)⟩
    · obtain ⟨e, n, ne, nf, d⟩ := I.pin p hp
      exact ⟨(hs.2 p.1 ne).trans e, n, ne, nf, d⟩
  · have hfn : X.fn x = true := by
      rcases hf with z | z
      · exact z
      · rw [z] at hk; cases hk
    obtain ⟨c, hc⟩ := I.ok.has x (.inl hk)
    obtain ⟨w', z⟩ := I.cell x c hc
    refine wpAny_storeName_cell I.ok.kind hk hc z (fun h' hc' hs => ?_)
    obtain ⟨oc, hoc, hocd⟩ := id z
    refine h { s with heap := h' } ⟨I.ok, I.os, I.bare, ⟨fun b o e n hb hx => ?_, fun b o e n hb hx => ?_, I.base.free, fun b o e hx => ?_, I.base.tups, I.base.frzs, I.base.tbls⟩, ⟨m, hn.sameBut hs (Ne.symm (cne x c hc)), fun j y v' e1 e2 e3 => ?_⟩, fun y c' e => ?_, I.free, I.freeC, fun p hp => ?_, tracked ⟨oc, hoc, I.freeC x c hc⟩ hs, by simpa using I.len⟩ ⟨c, hs, .inr hc⟩
    · exact (hs.2 b (Nat.ne_of_lt (Nat.lt_of_lt_of_le (Heap.lt_size e) (I.ok.cab x c hfn hc)))).trans (I.base.keep b o e n hb hx)
    · obtain ⟨sl, e1⟩ := I.base.slot b o e n hb hx
      exact ⟨sl, (hs.2 b (Nat.ne_of_lt (Nat.lt_of_lt_of_le (Heap.lt_size e) (I.ok.cab x c hfn hc)))).trans e1⟩
    · obtain ⟨o', e1⟩ := I.base.there b o e hx
      exact ⟨o', (hs.2 b (Nat.ne_of_lt (Nat.lt_of_lt_of_le (Heap.lt_size e) (I.ok.cab x c hfn hc)))).trans e1⟩
    · by_cases hj : j = i
      · subst hj
        rw [hi] at e1; cases e1
        rw [List.getElem?_set_self hiσ] at e2
        cases e2
        exact ⟨u, r, .inr ⟨.inl hk, c, hc, hc'⟩⟩
      · rw [List.getElem?_set_ne (Ne.symm hj)] at e2
        obtain ⟨u', r', q⟩ := hl j y v' e1 e2 e3
        refine ⟨u', r', ?_⟩
        rcases q with q | ⟨k, c', e, z'⟩
        · exact .inl q
        · refine .inr ⟨k, c', e, z'.sameBut hs ?_⟩
          rintro rfl
          exact hj (nodup_ix hN e1 (I.ok.inj _ _ _ e hc ▸ hi))
    · by_cases hcc : c' = c
      · subst hcc; exact ⟨_, hc'⟩
      · obtain ⟨w2, z2⟩ := I.cell y c' e
        exact ⟨w2, z2.sameBut hs hcc⟩
    · obtain ⟨e, n, ne, nf, d⟩ := I.pin p hp
      refine ⟨(hs.2 p.1 ?_).trans e, n, ne, nf, d⟩
      intro q
      rw [q, hoc] at e
      have q' : oc = p.2 := Option.some.inj e
      exact d w' (by rw [← q']; exact hocd)
theorem store_ok {M : Model} {A : Around} {E : Value → Shared → Prop} {i : Nat} {x : Str} {v : V} {u : Value} {Q : Unit → Shared → Prop} (I : Inv X pins σ H s) (hN : X.N.Nodup) (hi : X.N[i]? = some x) (hx : Loc X.env.scope x) (r : RelV v u)
    (h : ∀ s', Inv X pins (σ.set i (some v)) H s' → Q () s') (hf : X.fn x = true ∨ X.env.scope.names.lookup x = some .local := by first | exact .inl rfl | exact .inr rfl | assumption) : wpAny M A (storeName X.env x u) Q E s :=
  store_ok2 I hN hi hx r (fun s' I' _ => h s' I') hf
/-- behind a call or a block, the state as it is -/
theorem Inv.call' {s' : Shared} {ch : List Addr} (I : Inv X pins σ H s) (ho : s'.os = s.os) (u : Un (frs X.stack) ch H H' s.heap s'.heap) (hok : HOk X.prog X.w H' s'.heap) (hg : AllBare s'.gens)
    (hch : ∀ b ∈ ch, (b ∈ X.ex ∨ X.s₀.heap.objs.size ≤ b) ∧ b ≠ X.env.locals ∧ (∀ x c, X.env.cells.lookup x = some c → c ≠ b) ∧ ∀ p ∈ X.pn ++ pins, p.1 ≠ b) : Inv X pins σ H' s' := by
  obtain ⟨h', g', d', t', o'⟩ := s'
  have e : o' = s.os := ho
  subst e
  exact I.call (g' := g') (t' := t') (d' := d') u hok hg hch
end

/-! ### the judgements -/
/-- an exception: its class, its own dict's address (where it has one), the abstract heap behind it -/
abbrev XK := Value → Option Addr → Hp → Prop
abbrev St := List (Option V)
abbrev VK := V → Hp → Prop
/-- an expression's reading; a test's; an argument list's -/
abbrev TE := St → Hp → VK → Prop
abbrev TT := St → Hp → (Bool → Hp → Prop) → Prop
abbrev TA := St → Hp → (List V → Hp → Prop) → Prop
/-- what is wanted behind a statement -/
structure Ends where
  nx : St → Hp → Prop
  rt : VK
  bk : St → Hp → Prop := fun _ _ => False
  ct : St → Hp → Prop := fun _ _ => False
abbrev TS := Ends → St → Hp → Prop

def EP (X : Cx) (pins : List (Addr × Obj)) (σ : St) (Q : VK) (u : Value) (s' : Shared) : Prop := ∃ v H', Inv X pins σ H' s' ∧ RelV v u ∧ Q v H'
def TP (X : Cx) (pins : List (Addr × Obj)) (σ : St) (Q : Bool → Hp → Prop) (b : Bool) (s' : Shared) : Prop := ∃ H', Inv X pins σ H' s' ∧ Q b H'
def AP (X : Cx) (pins : List (Addr × Obj)) (σ : St) (Q : List V → Hp → Prop) (us : List Value) (s' : Shared) : Prop := ∃ vs H', Inv X pins σ H' s' ∧ Vals vs us ∧ Q vs H'
def SP (X : Cx) (pins : List (Addr × Obj)) (D : Ends) (f : Flow) (s' : Shared) : Prop :=
  match f with
  | .next => ∃ σ' H', Inv X pins σ' H' s' ∧ D.nx σ' H'
  | .brk => ∃ σ' H', Inv X pins σ' H' s' ∧ D.bk σ' H'
  | .cont => ∃ σ' H', Inv X pins σ' H' s' ∧ D.ct σ' H'
  | .ret u => ∃ v σ' H', Inv X pins σ' H' s' ∧ RelV v u ∧ D.rt v H'

def PEd (X : Cx) (e : Expr) (t : TE) : Prop :=
  ∀ (pins : List (Addr × Obj)) (s : Shared) (σ : St) (H : Hp) (Q : VK), Inv X pins σ H s → t σ H Q → wpAny (model X.prog X.w) X.A (eval e X.env) (EP X pins σ Q) X.xe s
structure PE (X : Cx) (e : Expr) (t : TE) : Prop where
  run : PEd X e t
instance {X : Cx} {e : Expr} {t : TE} : CoeFun (PE X e t) (fun _ => PEd X e t) := ⟨PE.run⟩
instance {X : Cx} {e : Expr} {t : TE} : Coe (PE X e t) (PEd X e t) := ⟨PE.run⟩
def PT (X : Cx) (e : Expr) (t : TT) : Prop :=
  ∀ (pins : List (Addr × Obj)) (s : Shared) (σ : St) (H : Hp) (Q : Bool → Hp → Prop), Inv X pins σ H s → t σ H Q → wpAny (model X.prog X.w) X.A (isTrue e X.env (eval e X.env)) (TP X pins σ Q) X.xe s
/-- a test whatever its 'whole' is (and, or) -/
def PW (X : Cx) (e : Expr) (t : TT) : Prop :=
  ∀ (whole : Sem Value) (pins : List (Addr × Obj)) (s : Shared) (σ : St) (H : Hp) (Q : Bool → Hp → Prop), Inv X pins σ H s → t σ H Q → wpAny (model X.prog X.w) X.A (isTrue e X.env whole) (TP X pins σ Q) X.xe s
theorem PW.pt {X : Cx} {e : Expr} {t : TT} (h : PW X e t) : PT X e t := h _
/-- an argument list (no star), from the left -/
def PAd (X : Cx) (es : List Expr) (t : TA) : Prop :=
  ∀ (pos : Pos) (pins : List (Addr × Obj)) (s : Shared) (σ : St) (H : Hp) (Q : List V → Hp → Prop), Inv X pins σ H s → t σ H Q → wpAny (model X.prog X.w) X.A (spliced (backTo pos (starEach es X.env))) (AP X pins σ Q) X.xe s
structure PA (X : Cx) (es : List Expr) (t : TA) : Prop where
  run : PAd X es t
instance {X : Cx} {es : List Expr} {t : TA} : CoeFun (PA X es t) (fun _ => PAd X es t) := ⟨PA.run⟩
instance {X : Cx} {es : List Expr} {t : TA} : Coe (PA X es t) (PAd X es t) := ⟨PA.run⟩
def PSd (X : Cx) (st : Stmt) (t : TS) : Prop :=
  ∀ (pins : List (Addr × Obj)) (s : Shared) (σ : St) (H : Hp) (D : Ends), Inv X pins σ H s → t D σ H → wpAny (model X.prog X.w) X.A (exec st X.env) (SP X pins D) X.xe s
structure PS (X : Cx) (st : Stmt) (t : TS) : Prop where
  run : PSd X st t
instance {X : Cx} {st : Stmt} {t : TS} : CoeFun (PS X st t) (fun _ => PSd X st t) := ⟨PS.run⟩
instance {X : Cx} {st : Stmt} {t : TS} : Coe (PS X st t) (PSd X st t) := ⟨PS.run⟩
def PSsd (X : Cx) (st : List Stmt) (t : TS) : Prop :=
  ∀ (pins : List (Addr × Obj)) (s : Shared) (σ : St) (H : Hp) (D : Ends), Inv X pins σ H s → t D σ H → wpAny (model X.prog X.w) X.A (execs st X.env) (SP X pins D) X.xe s
structure PSs (X : Cx) (st : List Stmt) (t : TS) : Prop where
  run : PSsd X st t
instance {X : Cx} {st : List Stmt} {t : TS} : CoeFun (PSs X st t) (fun _ => PSsd X st t) := ⟨PSs.run⟩
instance {X : Cx} {st : List Stmt} {t : TS} : Coe (PSs X st t) (PSsd X st t) := ⟨PSs.run⟩
/-- weaken the end -/
theorem thn {α : Type} {t : Sem α} {Q Q' : α → Shared → Prop} {M : Model} {A : Around} {E : Value → Shared → Prop} {s : Shared} (h : wpAny M A t Q E s) (hQ : ∀ a s, Q a s → Q' a s) : wpAny M A t Q' E s := wpAny_mono h hQ fun _ _ x => x
end L2

namespace L2
open PySem PySem.Spec PyProof.Rows
section
variable {X : Cx}

/-! ### names and constants -/
def tVar (i : Nat) : TE := fun σ H Q => ∃ v, σ[i]? = some (some v) ∧ Q v H
def tC (v : V) : TE := fun _ H Q => Q v H
theorem pe_var {i : Nat} {x : Str} {pos : Pos} (hN : X.N[i]? = some x) (hv : Vis X.env.scope x) (hd : (x == ("__debug__" : Str)) = false := by decide) (hcd : (x == ("__classdict__" : Str)) = false := by decide) : PE X (.Name x pos) (tVar i) := .mk <| by
  intro pins s σ H Q I h
  obtain ⟨v, e, h⟩ := h
  obtain ⟨m, hn, hl⟩ := I.loc
  obtain ⟨u, r, l⟩ := hl i x v hN e hv
  have fin : EP X pins σ Q u s := ⟨v, H, I, r, h⟩
  rcases l with ⟨hk, hm⟩ | ⟨hk, c, hc, hcell⟩
  · exact wpAny_Name (wpAny_loadName_local I.ok.kind hk hn hm fin) hd
  · rcases hk with hk | hk
    · exact wpAny_Name (wpAny_loadName_cell I.ok.kind hk hc hcell fin) hd
    · exact wpAny_Name (wpAny_loadName_free I.ok.kind hk hc hcell fin hcd) hd
theorem pe_int {i j pos} : PE X (.Constant (.int i) j pos) (tC (.int i)) := .mk <| fun _ _ _ H _ I h => wpAny_Constant_int ⟨.int i, H, I.tok _, ⟨_, rfl⟩, h⟩
theorem pe_bl {b j pos} : PE X (.Constant (.bool b) j pos) (tC (.bl b)) := .mk <| fun _ _ _ H _ I h => Constant_bool ⟨.bl b, H, I, rfl, h⟩
theorem pe_non {j pos} : PE X (.Constant .none j pos) (tC .non) := .mk <| fun _ _ _ H _ I h => Constant_none ⟨.non, H, I, rfl, h⟩
theorem pe_str {x j pos} : PE X (.Constant (.str x) j pos) (tC (.str x)) := .mk <| fun _ _ _ H _ I h => Calls.Constant_str ⟨.str x, H, I.tok _, ⟨_, rfl⟩, h⟩

/-- a global name of the def -/
def Gl (X : Cx) (x : Str) : Prop := X.env.kindOf x = some .globalImplicit
theorem ld_glob {E : Value → Shared → Prop} {pins : List (Addr × Obj)} {s : Shared} {σ : St} {H : Hp} {x : Str} {u : Value} {pos : Pos} {Q : Value → Shared → Prop} (I : Inv X pins σ H s) (hg : Gl X x) (hm : X.mg x = some u) (h : Q u s)
    (hd : (x == ("__debug__" : Str)) = false := by decide) : wpAny (model X.prog X.w) X.A (eval (.Name x pos) X.env) Q E s :=
  Calls.Name_function_global I.ok.kind hg (Calls.loadGlobal_global (by rw [I.ok.glob]; exact I.mod.glob.keeps I.bk) hm h) hd
theorem ld_blt {E : Value → Shared → Prop} {pins : List (Addr × Obj)} {s : Shared} {σ : St} {H : Hp} {x : Str} {u : Value} {pos : Pos} {Q : Value → Shared → Prop} (I : Inv X pins σ H s) (hg : Gl X x) (hm : X.mg x = none) (hv : bootBuiltins x = some u) (h : Q u s)
    (hn : x ≠ "__name__" := by decide) (hd : (x == ("__debug__" : Str)) = false := by decide) : wpAny (model X.prog X.w) X.A (eval (.Name x pos) X.env) Q E s := by
  obtain ⟨mb, h1, h2⟩ := I.mod.blt
  exact Calls.Name_function_global I.ok.kind hg (Calls.loadGlobal_builtin (by rw [I.ok.glob]; exact I.mod.glob.keeps I.bk) hm (by rw [I.ok.blt]; exact h1.keeps I.bk) ((h2 x hn).trans hv) h) hd
/-- a module's constant, a class, a function, as a value -/
theorem pe_glob {x : Str} {v : V} {u : Value} {pos : Pos} (hg : Gl X x) (hm : X.mg x = some u) (r : RelV v u) (hd : (x == ("__debug__" : Str)) = false := by decide) : PE X (.Name x pos) (tC v) := .mk <|
  fun _ _ _ H _ I h => ld_glob I hg hm ⟨v, H, I, r, h⟩ hd
theorem pe_bltn {x : Str} {v : V} {u : Value} {pos : Pos} (hg : Gl X x) (hm : X.mg x = none) (hv : bootBuiltins x = some u) (r : RelV v u) (hn : x ≠ "__name__" := by decide) (hd : (x == ("__debug__" : Str)) = false := by decide) : PE X (.Name x pos) (tC v) := .mk <|
  fun _ _ _ H _ I h => ld_blt I hg hm hv ⟨v, H, I, r, h⟩ hn hd

/-! ### arithmetic -/
/-- two ints -/
def t2I (ta tb : TE) (k : Int → Int → Hp → Prop) : St → Hp → Prop := fun σ H => ta σ H fun x H1 => tb σ H1 fun y H2 => ∃ i j, x = .int i ∧ y = .int j ∧ k i j H2
def tAdd (ta tb : TE) : TE := fun σ H Q => t2I ta tb (fun i j H2 => Q (.int (i + j)) H2) σ H
def tSub (ta tb : TE) : TE := fun σ H Q => t2I ta tb (fun i j H2 => Q (.int (i - j)) H2) σ H
/-- the left factor below 2^64 -/
def tMul (ta tb : TE) : TE := fun σ H Q => t2I ta tb (fun i j H2 => (-(2 ^ 64) < i ∧ i < 2 ^ 64) ∧ Q (.int (i * j)) H2) σ H
variable {a b : Expr} {ta tb : TE} {pos : Pos}
/-! ### comparisons -/
def PC (X : Cx) (op : CmpOp) (a b : Expr) (t : TE) : Prop :=
  ∀ (pins : List (Addr × Obj)) (s : Shared) (σ : St) (H : Hp) (Q : VK), Inv X pins σ H s → t σ H Q →
    wpAny (model X.prog X.w) X.A (eval a X.env) (fun v s₁ => wpAny (model X.prog X.w) X.A (eval b X.env) (fun u s₂ => wpAny (model X.prog X.w) X.A (compareOp op v u) (EP X pins σ Q) X.xe s₂) X.xe s₁) X.xe s
def tCmp (p : Int → Int → Bool) (ta tb : TE) : TE := fun σ H Q => t2I ta tb (fun i j H2 => Q (.bl (p i j)) H2) σ H
abbrev tLt : TE → TE → TE := tCmp fun i j => decide (i < j)
abbrev tLe : TE → TE → TE := tCmp fun i j => decide (i ≤ j)
abbrev tGt : TE → TE → TE := tCmp fun i j => decide (j < i)
abbrev tGe : TE → TE → TE := tCmp fun i j => decide (j ≤ i)
abbrev tEqI : TE → TE → TE := tCmp fun i j => decide (i = j)
abbrev tNeI : TE → TE → TE := tCmp fun i j => !decide (i = j)
/-- is None -/
def tIsN (ta : TE) : TE := fun σ H Q => ta σ H fun x H1 => Q (.bl (decide (x = .non))) H1
def tNotN (ta : TE) : TE := fun σ H Q => ta σ H fun x H1 => Q (.bl (!decide (x = .non))) H1
/-- a comparison as a value, as a test -/
def tB (t : TE) : TT := fun σ H Q => t σ H fun x H1 => ∃ c, x = .bl c ∧ Q c H1
/-! ### and, or, not -/
variable {tA tB' : TT} {rest : List Expr}
def tAnd (t u : TT) : TT := fun σ H Q => t σ H fun c H1 => if c = true then u σ H1 Q else Q false H1
def tOr (t u : TT) : TT := fun σ H Q => t σ H fun c H1 => if c = true then Q true H1 else u σ H1 Q
def tNot (t : TT) : TT := fun σ H Q => t σ H fun c H1 => Q (!c) H1
theorem pw_and1 (ha : PT X a tA) : PW X (.BoolOp .And [a] pos) tA := by
  intro wh pins s σ H Q I h
  refine isTrue_and (thn (ha pins s σ H Q I h) fun c s1 e => ?_)
  cases c with
  | true => exact isTrue_and_nil e
  | false => exact e
theorem pw_or1 (ha : PT X a tA) : PW X (.BoolOp .Or [a] pos) tA := by
  intro wh pins s σ H Q I h
  refine isTrue_or (thn (ha pins s σ H Q I h) fun c s1 e => ?_)
  cases c with
  | false => exact isTrue_or_nil e
  | true => exact e
theorem pw_and (ha : PT X a tA) (hb : PW X (.BoolOp .And (b :: rest) pos) tB') : PW X (.BoolOp .And (a :: b :: rest) pos) (tAnd tA tB') := by
  intro wh pins s σ H Q I h
  refine isTrue_and (thn (ha pins s σ H _ I h) fun c s1 ⟨H1, I1, q1⟩ => ?_)
  cases c with
  | true => exact hb wh pins s1 σ H1 Q I1 q1
  | false => exact ⟨H1, I1, q1⟩
theorem pw_or (ha : PT X a tA) (hb : PW X (.BoolOp .Or (b :: rest) pos) tB') : PW X (.BoolOp .Or (a :: b :: rest) pos) (tOr tA tB') := by
  intro wh pins s σ H Q I h
  refine isTrue_or (thn (ha pins s σ H _ I h) fun c s1 ⟨H1, I1, q1⟩ => ?_)
  cases c with
  | true => exact ⟨H1, I1, q1⟩
  | false => exact hb wh pins s1 σ H1 Q I1 q1
theorem pt_not (ha : PT X a tA) : PT X (.UnaryOp .Not a pos) (tNot tA) := by
  intro pins s σ H Q I h
  exact isTrue_not (ha pins s σ H (fun c H1 => Q (!c) H1) I h)
/-- .. as values (bools) -/
def tAndV (ta tb : TE) : TE := fun σ H Q => ta σ H fun x H1 => ∃ c, x = .bl c ∧ if c = true then tb σ H1 Q else Q (.bl false) H1
def tOrV (ta tb : TE) : TE := fun σ H Q => ta σ H fun x H1 => ∃ c, x = .bl c ∧ if c = true then Q (.bl true) H1 else tb σ H1 Q
def tNotV (ta : TE) : TE := fun σ H Q => ta σ H fun x H1 => ∃ c, x = .bl c ∧ Q (.bl (!c)) H1
theorem pe_one {op} {t : TE} (h : PE X a t) : PE X (.BoolOp op [a] pos) t := .mk <| fun pins s σ H Q I hw => BoolOp_one (h pins s σ H Q I hw)
theorem pe_and (ha : PE X a ta) (hb : PE X (.BoolOp .And (b :: rest) pos) tb) : PE X (.BoolOp .And (a :: b :: rest) pos) (tAndV ta tb) := .mk <| by
  intro pins s σ H Q I h
  refine BoolOp_and (thn (ha pins s σ H _ I h) fun v s1 ⟨x, H1, I1, r1, q1⟩ => ?_)
  obtain ⟨c, rfl, q1⟩ := q1
  cases r1
  refine wpAny_truthy_bool ?_
  cases c with
  | true => exact hb pins s1 σ H1 Q I1 q1
  | false => exact ⟨.bl false, H1, I1, rfl, q1⟩
theorem pe_not (ha : PE X a ta) : PE X (.UnaryOp .Not a pos) (tNotV ta) := .mk <| by
  intro pins s σ H Q I h
  refine UnaryOp_ (thn (ha pins s σ H _ I h) fun v s1 ⟨x, H1, I1, r1, q1⟩ => ?_)
  obtain ⟨c, rfl, q1⟩ := q1
  cases r1
  exact not_of (wpAny_truthy_bool ⟨.bl (!c), H1, I1, rfl, q1⟩)
/-- a if t else b -/
def tIf (t : TT) (ta tb : TE) : TE := fun σ H Q => t σ H fun c H1 => if c = true then ta σ H1 Q else tb σ H1 Q
theorem pe_ifExp {c : Expr} (hc : PT X c tA) (ha : PE X a ta) (hb : PE X b tb) : PE X (.IfExp c a b pos) (tIf tA ta tb) := .mk <| by
  intro pins s σ H Q I h
  refine wpAny_IfExp (thn (hc pins s σ H _ I h) fun d s1 ⟨H1, I1, q1⟩ => ?_)
  cases d with
  | true => exact ha pins s1 σ H1 Q I1 q1
  | false => exact hb pins s1 σ H1 Q I1 q1
end
end L2

namespace L2
open PySem PySem.Spec PyProof.Rows

/-! ### a list, a tuple that is read: tracked, frozen, or an object of the module -/
def SqL (K : PySem.W.Frag) (H : Hp) (a : Addr) (xs : List V) : Prop :=
  Rd H a (.lst xs) ∨
    ∃ (o : Obj) (its : Array Value) (n : Nat), K.lookup a = some o ∧ o.cls = .type "list" ∧ o.dict = none ∧ o.data = .seq its n ∧ its.size ≤ sizeLine ∧ Vals xs its.toList
def SqT (K : PySem.W.Frag) (H : Hp) (a : Addr) (xs : List V) : Prop :=
  Rd H a (.tup xs) ∨
    ∃ (o : Obj) (its : Array Value) (n : Nat), K.lookup a = some o ∧ o.cls = .type "tuple" ∧ o.data = .seq its n ∧ its.size ≤ sizeLine ∧ Vals xs its.toList
def absV : Value → Option V
  | .none => some .non
  | .bool b => some (.bl b)
  | .int i _ => some (.int i)
  | .str x _ => some (.str x)
  | .bytes b _ => some (.byt b)
  | .float b _ => some (.flt b)
  | .ref a => some (.ref a)
  | .type n => some (.ty n)
  | _ => none
theorem RelV.abs {x : V} {u : Value} (r : RelV x u) : absV u = some x := by
  cases x with
  | non => cases r; rfl
  | bl _ => cases r; rfl
  | int _ => obtain ⟨t, rfl⟩ := r; rfl
  | str _ => obtain ⟨t, rfl⟩ := r; rfl
  | byt _ => obtain ⟨t, rfl⟩ := r; rfl
  | flt _ => obtain ⟨t, rfl⟩ := r; rfl
  | ref _ => cases r; rfl
  | ty _ => cases r; rfl
theorem RelV.inj {x y : V} {u : Value} (r : RelV x u) (q : RelV y u) : x = y := Option.some.inj (r.abs.symm.trans q.abs)
theorem Vals.inj : ∀ {xs ys : List V} {us : List Value}, Vals xs us → Vals ys us → xs = ys
  | _, _, _, .nil, .nil => rfl
  | _, _, _, .cons r t, .cons r' t' => by rw [r.inj r', Vals.inj t t']
section
variable {X : Cx} {pins : List (Addr × Obj)} {σ : St} {H : Hp} {s : Shared} {a : Addr} {xs ys : List V}
theorem SqL.of {K : PySem.W.Frag} (h : H a = some (.lst xs)) : SqL K H a xs := .inl (.inl h)
theorem SqT.of {K : PySem.W.Frag} (h : H a = some (.tup xs)) : SqT K H a xs := .inl (.inl h)
theorem Inv.list (I : Inv X pins σ H s) (h : SqL X.K H a xs) : ∃ its : List Value, Vals xs its ∧ PlainL s.heap a its.toArray ∧ xs.length ≤ sizeLine := by
  rcases h with h | ⟨o, its, n, hk, hc, hd, hs, hz, r⟩
  · obtain ⟨z, its, n, r, e⟩ := h.ok I.hok
    exact ⟨its, r, ⟨_, n, e, rfl, rfl, rfl⟩, z⟩
  · refine ⟨its.toList, r, ⟨o, n, I.kIn a o hk, hc, hd, by simpa using hs⟩, ?_⟩
    have e := r.length
    simp only [Array.length_toList] at e
    omega
theorem Inv.tuple (I : Inv X pins σ H s) (h : SqT X.K H a xs) : ∃ its : List Value, Vals xs its ∧ IsTup s.heap a its.toArray ∧ xs.length ≤ sizeLine := by
  rcases h with h | ⟨o, its, n, hk, hc, hs, hz, r⟩
  · obtain ⟨z, its, r, p⟩ := h.ok I.hok
    exact ⟨its, r, p, z⟩
  · refine ⟨its.toList, r, ⟨o, I.kIn a o hk, hc, n, by simpa using hs⟩, ?_⟩
    have e := r.length
    simp only [Array.length_toList] at e
    omega
theorem Inv.list_inj (I : Inv X pins σ H s) (h : SqL X.K H a xs) (h' : SqL X.K H a ys) : xs = ys := by
  obtain ⟨its, r, ⟨o, n, e, _, _, d⟩, _⟩ := I.list h
  obtain ⟨its', r', ⟨o', n', e', _, _, d'⟩, _⟩ := I.list h'
  rw [e] at e'; cases e'
  rw [d] at d'
  injection d' with d1 _
  have : its = its' := by simpa using congrArg Array.toList d1
  subst this
  exact r.inj r'
theorem Inv.tuple_inj (I : Inv X pins σ H s) (h : SqT X.K H a xs) (h' : SqT X.K H a ys) : xs = ys := by
  obtain ⟨its, r, ⟨o, e, _, n, d⟩, _⟩ := I.tuple h
  obtain ⟨its', r', ⟨o', e', _, n', d'⟩, _⟩ := I.tuple h'
  rw [e] at e'; cases e'
  rw [d] at d'
  injection d' with d1 _
  have : its = its' := by simpa using congrArg Array.toList d1
  subst this
  exact r.inj r'
end

/-! ### another wish about exceptions -/
abbrev Cx.wish (X : Cx) (E : Value → Shared → Prop) : Cx := { X with xe := E }
/-- no exception leaves -/
abbrev Cx.nox (X : Cx) : Cx := X.wish fun _ _ => False
theorem Cx.Ok.wish {X : Cx} (ok : X.Ok) (E : Value → Shared → Prop) : (X.wish E).Ok :=
  ⟨ok.mod, ok.kind, ok.glob, ok.blt, ok.above, ok.inj, ok.has, ok.cab, ok.hd, ok.frames, ok.stk, ok.exf, ok.bs, ok.bsz, ok.noex, ok.exfs, ok.funs, ok.frf, ok.tt⟩
theorem Cx.Ok.unwish {X : Cx} {E : Value → Shared → Prop} (ok : (X.wish E).Ok) : X.Ok :=
  ⟨ok.mod, ok.kind, ok.glob, ok.blt, ok.above, ok.inj, ok.has, ok.cab, ok.hd, ok.frames, ok.stk, ok.exf, ok.bs, ok.bsz, ok.noex, ok.exfs, ok.funs, ok.frf, ok.tt⟩
section
variable {X : Cx} {pins : List (Addr × Obj)} {σ : St} {H : Hp} {s : Shared} {E : Value → Shared → Prop}
theorem Inv.wish (I : Inv X pins σ H s) (E : Value → Shared → Prop) : Inv (X.wish E) pins σ H s := ⟨I.ok.wish E, I.os, I.bare, I.base, I.loc, I.cell, I.free, I.freeC, I.pin, I.hok, I.len⟩
theorem Inv.unwish (I : Inv (X.wish E) pins σ H s) : Inv X pins σ H s := ⟨I.ok.unwish, I.os, I.bare, I.base, I.loc, I.cell, I.free, I.freeC, I.pin, I.hok, I.len⟩
theorem SP.unwish {D : Ends} {f : Flow} {s' : Shared} (h : SP (X.wish E) pins D f s') : SP X pins D f s' := by
  cases f with
  | next => obtain ⟨σ', H', I, q⟩ := h; exact ⟨σ', H', I.unwish, q⟩
  | brk => obtain ⟨σ', H', I, q⟩ := h; exact ⟨σ', H', I.unwish, q⟩
  | cont => obtain ⟨σ', H', I, q⟩ := h; exact ⟨σ', H', I.unwish, q⟩
  | ret u => obtain ⟨v, σ', H', I, r, q⟩ := h; exact ⟨v, σ', H', I.unwish, r, q⟩
theorem PE.nox {e : Expr} {t : TE} (h : PE X.nox e t) : PE X e t := .mk <| fun pins s σ H Q I hw =>
  wpAny_mono (h pins s σ H Q (I.wish _) hw) (fun _ _ ⟨v, H', I', r, q⟩ => ⟨v, H', I'.unwish, r, q⟩) fun _ _ z => False.elim z
theorem PT.nox {e : Expr} {t : TT} (h : PT X.nox e t) : PT X e t := fun pins s σ H Q I hw =>
  wpAny_mono (h pins s σ H Q (I.wish _) hw) (fun _ _ ⟨H', I', q⟩ => ⟨H', I'.unwish, q⟩) fun _ _ z => False.elim z
theorem PSs.nox {st : List Stmt} {t : TS} (h : PSs X.nox st t) : PSs X st t := .mk <| fun pins s σ H D I hw =>
  wpAny_mono (h pins s σ H D (I.wish _) hw) (fun _ _ q => q.unwish) fun _ _ z => False.elim z
end

/-! ### blocks and small statements -/
section
variable {X : Cx} {st : Stmt} {rest : List Stmt} {t u : TS} {e : Expr} {te : TE} {pos : Pos}
def tNext : TS := fun D σ H => D.nx σ H
def tSeq (t u : TS) : TS := fun D σ H => t { D with nx := u D } σ H
theorem pss_nil : PSs X [] tNext := .mk <| fun _ _ σ H _ I h => wpAny_execs_nil ⟨σ, H, I, h⟩
theorem pss_cons (h1 : PS X st t) (h2 : PSs X rest u) : PSs X (st :: rest) (tSeq t u) := .mk <| by
  intro pins s σ H D I h
  refine wpAny_execs_cons (thn (h1 pins s σ H { D with nx := u D } I h) fun f s1 q => ?_)
  cases f with
  | next =>
    obtain ⟨σ', H', I', q⟩ := q
    exact h2 pins s1 σ' H' D I' q
  | ret v => exact q
  | brk => exact q
  | cont => exact q
theorem pss_one (h1 : PS X st t) : PSs X [st] t := .mk <| by
  intro pins s σ H D I h
  refine wpAny_execs_cons (thn (h1 pins s σ H D I h) fun f s1 q => ?_)
  cases f with
  | next => exact wpAny_execs_nil q
  | ret v => exact q
  | brk => exact q
  | cont => exact q
def tBreak : TS := fun D σ H => D.bk σ H
def tCont : TS := fun D σ H => D.ct σ H
/-- in a def's body nothing is shown -/
theorem Inv.quiet {pins : List (Addr × Obj)} {σ : St} {H : Hp} {s : Shared} (I : Inv X pins σ H s) : interactive X.env = false := by simp [interactive, I.ok.kind]
/-- an expression whose value is dropped -/
def tDrop (te : TE) : TS := fun D σ H => te σ H fun _ H1 => D.nx σ H1
theorem ps_expr (he : PE X e te) (hs : swapsWith e none pos.line X.env = pure false := by rfl) : PS X (.Expr e pos) (tDrop te) := .mk <| by
  intro pins s σ H D I h
  exact wpAny_Expr_any (thn (he pins s σ H _ I h) fun v s1 ⟨x, H1, I1, r1, q1⟩ => ⟨σ, H1, I1, q1⟩) I.quiet hs
def tRet (te : TE) : TS := fun D σ H => te σ H D.rt
theorem ps_ret (he : PE X e te) : PS X (.Return (some e) pos) (tRet te) := .mk <| by
  intro pins s σ H D I h
  exact wpAny_Return_some (thn (he pins s σ H _ I h) fun v s1 ⟨x, H1, I1, r1, q1⟩ => ⟨x, σ, H1, I1, r1, q1⟩)
def tRetN : TS := fun D _ H => D.rt .non H
def tIfS (c : TT) (t u : TS) : TS := fun D σ H => c σ H fun b H1 => if b = true then t D σ H1 else u D σ H1
theorem ps_if {c : Expr} {a b : List Stmt} {tc : TT} (hc : PT X c tc) (ha : PSs X a t) (hb : PSs X b u) : PS X (.If c a b pos) (tIfS tc t u) := .mk <| by
  intro pins s σ H D I h
  refine wpAny_If (thn (hc pins s σ H _ I h) fun d s1 ⟨H1, I1, q1⟩ => ?_)
  cases d with
  | true => exact ha pins s1 σ H1 D I1 q1
  | false => exact hb pins s1 σ H1 D I1 q1
/-- code that the proof never comes to -/
def tNever : TS := fun _ _ _ => False
end

/-! ### targets -/
abbrev TG := V → St → Hp → (St → Hp → Prop) → Prop
abbrev TGs := List V → St → Hp → (St → Hp → Prop) → Prop
def PG (X : Cx) (target : Expr) (t : TG) : Prop :=
  ∀ (pins : List (Addr × Obj)) (s : Shared) (σ : St) (H : Hp) (v : V) (u : Value) (Q : St → Hp → Prop), Inv X pins σ H s → RelV v u → t v σ H Q →
    wpAny (model X.prog X.w) X.A (assign target X.env u) (fun _ s' => ∃ σ' H', Inv X pins σ' H' s' ∧ Q σ' H') X.xe s
/-- several targets, one after another -/
def PGs (X : Cx) (ts : List Expr) (t : TGs) : Prop :=
  ∀ (pins : List (Addr × Obj)) (s : Shared) (σ : St) (H : Hp) (vs : List V) (us : List Value) (Q : St → Hp → Prop), Inv X pins σ H s → Vals vs us → t vs σ H Q →
    wpAny (model X.prog X.w) X.A (assignInOrder ((assignEach ts X.env).map (·.2)) us) (fun _ s' => ∃ σ' H', Inv X pins σ' H' s' ∧ Q σ' H') X.xe s
/-- o[i] = v, by values -/
abbrev TSet := V → V → V → Hp → (Hp → Prop) → Prop
def PSet (X : Cx) (t : TSet) : Prop :=
  ∀ (pins : List (Addr × Obj)) (s : Shared) (σ : St) (H : Hp) (o i v : V) (ov iv u : Value) (Q : Hp → Prop), Inv X pins σ H s → RelV o ov → RelV i iv → RelV v u → t o i v H Q →
    wpAny (model X.prog X.w) X.A (setItem ov iv u) (fun _ s' => ∃ H', Inv X pins σ H' s' ∧ Q H') X.xe s
/-- a op= b, by values -/
abbrev TIp := V → V → Hp → VK → Prop
def PIp (X : Cx) (op : Operator) (t : TIp) : Prop :=
  ∀ (pins : List (Addr × Obj)) (s : Shared) (σ : St) (H : Hp) (x y : V) (v u : Value) (Q : VK), Inv X pins σ H s → RelV x v → RelV y u → t x y H Q →
    wpAny (model X.prog X.w) X.A (inplaceOp op v u) (EP X pins σ Q) X.xe s
section
variable {X : Cx} {pos : Pos}
def gName (i : Nat) : TG := fun v σ H Q => Q (σ.set i (some v)) H
theorem pg_name {i : Nat} {x : Str} (hN : X.N.Nodup) (hi : X.N[i]? = some x) (hx : Loc X.env.scope x) (hf : X.fn x = true ∨ X.env.scope.names.lookup x = some .local := by first | exact .inl rfl | exact .inr rfl | assumption) : PG X (.Name x pos) (gName i) := by
  intro pins s σ H v u Q I r h
  exact wpAny_assign_Name (store_ok I hN hi hx r (fun s' I' => ⟨_, H, I', h⟩) hf)
def gNil : TGs := fun vs σ H Q => vs = [] ∧ Q σ H
def gCons (t : TG) (u : TGs) : TGs := fun vs σ H Q => ∃ v r, vs = v :: r ∧ t v σ H fun σ' H' => u r σ' H' Q
theorem pgs_nil : PGs X [] gNil := by
  intro pins s σ H vs us Q I r h
  obtain ⟨e, h⟩ := h
  subst e
  cases r
  exact assignInOrder_nil ⟨σ, H, I, h⟩
theorem pgs_cons {e : Expr} {es : List Expr} {t : TG} {u : TGs} (h1 : PG X e t) (h2 : PGs X es u)
    (hs : (assignEach (e :: es) X.env).map (·.2) = assign e X.env :: (assignEach es X.env).map (·.2) := by rfl) : PGs X (e :: es) (gCons t u) := by
  intro pins s σ H vs us Q I r h
  obtain ⟨v, vr, e1, h⟩ := h
  subst e1
  cases r with
  | cons r rr =>
    rw [hs]
    refine assignInOrder_cons (thn (h1 pins s σ H _ _ _ I r h) fun _ s1 ⟨σ1, H1, I1, q1⟩ => ?_)
    exact h2 pins s1 σ1 H1 _ _ Q I1 rr q1
/-- (a, b, ..) = a tuple of that length -/
def gTup (K : PySem.W.Frag) (n : Nat) (t : TGs) : TG := fun v σ H Q => ∃ a xs, v = .ref a ∧ SqT K H a xs ∧ xs.length = n ∧ t xs σ H Q
theorem pg_tup {es : List Expr} {k : Nat} {t : TGs} {n : Nat} (hc : X.calm = true) (h : PGs X es t)
    (hn : (assignEach es X.env).length = n := by rfl) (hst : (assignEach es X.env).findIdx? (·.1) = none := by rfl) : PG X (.Tuple es k pos) (gTup X.K n t) := by
  intro pins s σ H v u Q I r hw
  obtain ⟨a, xs, e1, hq, hl, hw⟩ := hw
  subst e1
  cases r
  obtain ⟨its, rv, ht, hz⟩ := I.tuple hq
  refine assign_Tuple_tuple (I.ok.hd hc) ht (by simp [hn, ← hl, rv.length]) hst fun h' hx => ?_
  have I1 : Inv X pins σ H { s with heap := h' } := I.kept (t' := s.toks) fun b o e => hx b o (Nat.ne_of_lt (Heap.lt_size e)) e
  exact h pins _ σ H xs _ Q I1 (by simpa using rv) hw
/-- o[i] = .. -/
def gSub (to ti : TE) (t : TSet) : TG := fun v σ H Q => to σ H fun o H1 => ti σ H1 fun i H2 => t o i v H2 fun H3 => Q σ H3
/-- target = value -/
def tAsg (te : TE) (g : TG) : TS := fun D σ H => te σ H fun x H1 => g x σ H1 D.nx
theorem ps_asg {tg e : Expr} {te : TE} {g : TG} (he : PE X e te) (hg : PG X tg g) (hs : swapsWithSole [tg] e pos.line X.env = pure false := by rfl) (hw : swappedStores [tg] e X.env = pure none := by rfl)
    (h1 : (assignEach [tg] X.env).map (·.2) = [assign tg X.env] := by rfl) : PS X (.Assign [tg] e pos) (tAsg te g) := .mk <| by
  intro pins s σ H D I h
  refine wpAny_Assign_stores (thn (he pins s σ H _ I h) fun v s1 ⟨x, H1, I1, r1, q1⟩ => ?_) hs hw
  rw [h1]
  exact thn (hg pins s1 σ H1 x v _ I1 r1 q1) fun _ s2 q => q
/-- name = value -/
theorem ps_set {i : Nat} {x : Str} {e : Expr} {te : TE} {pos' : Pos} (hN : X.N.Nodup) (hi : X.N[i]? = some x) (hx : Loc X.env.scope x) (he : PE X e te) (hs : swapsWith e (some (.Name x pos')) pos.line X.env = pure false := by rfl) (hf : X.fn x = true ∨ X.env.scope.names.lookup x = some .local := by first | exact .inl rfl | exact .inr rfl | assumption) :
    PS X (.Assign [.Name x pos'] e pos) (tAsg te (gName i)) := .mk <| by
  intro pins s σ H D I h
  refine wpAny_Assign_Name (thn (he pins s σ H _ I h) fun v s1 ⟨y, H1, I1, r1, q1⟩ => ?_) hs
  exact store_ok I1 hN hi hx r1 (fun s2 I2 => ⟨_, H1, I2, q1⟩) hf
/-- a, b = x, y with plain local names: stored from the right; the pair itself is not tracked (the opening rows as in PyProof/Rows/TupAssign.lean:23) -/
def tPar (i j : Nat) (ta : TA) : TS := fun D σ H => ta σ H fun vs H1 => ∃ v w, vs = [v, w] ∧ D.nx ((σ.set i (some v)).set j (some w)) H1
/-- name op= e -/
def tAug (i : Nat) (te : TE) (ti : TIp) : TS := fun D σ H => ∃ x, σ[i]? = some (some x) ∧ te σ H fun y H1 => ti x y H1 fun z H2 => D.nx (σ.set i (some z)) H2
/-- o[i] op= e -/
def tAugS (to ti te : TE) (tget : V → V → Hp → VK → Prop) (tip : TIp) (tset : TSet) : TS := fun D σ H => to σ H fun o H1 => ti σ H1 fun i H2 => tget o i H2 fun x H3 => te σ H3 fun y H4 => tip x y H4 fun z H5 => tset o i z H5 fun H6 => D.nx σ H6
/-- o[i], by values -/
def PGet (X : Cx) (t : V → V → Hp → VK → Prop) : Prop :=
  ∀ (pins : List (Addr × Obj)) (s : Shared) (σ : St) (H : Hp) (o i : V) (ov iv : Value) (Q : VK), Inv X pins σ H s → RelV o ov → RelV i iv → t o i H Q →
    wpAny (model X.prog X.w) X.A (getItem ov iv) (EP X pins σ Q) X.xe s
/-- ints -/
def ipI (f : Int → Int → Int) : TIp := fun x y H Q => ∃ i j, x = .int i ∧ y = .int j ∧ Q (.int (f i j)) H
end

/-! ### while -/
section
variable {X : Cx} {pos : Pos}
/-- the invariant W with its measure -/
def tWhile (c : TT) (tb : TS) : TS := fun D σ H => ∃ W : Nat → St → Hp → Prop, (∃ m, W m σ H) ∧ ∀ m σ H, W m σ H →
  c σ H fun b H1 => if b = true then ∃ N : St → Hp → Prop, (∀ σ' H', N σ' H' → ∃ m', m' < m ∧ W m' σ' H') ∧ tb { D with nx := N, ct := N, bk := D.nx } σ H1 else D.nx σ H1
theorem ps_while {c : Expr} {body : List Stmt} {tc : TT} {tb : TS} (hp : PassesOwn (model X.prog X.w) X.A X.env X.xe) (hc : PT X c tc) (hb : PSs X body tb) : PS X (.While c body [] pos) (tWhile tc tb) := .mk <| by
  intro pins s σ H D I h
  obtain ⟨W, ⟨m0, w0⟩, turn⟩ := h
  refine wpAny_While (codeAny_whileLoop (fun n s' => ∃ σ' H', Inv X pins σ' H' s' ∧ W n σ' H') ?_ m0 ⟨σ, H, I, w0⟩)
  rintro n s1 ⟨σ1, H1, I1, w1⟩
  refine wpAny_passesOwn hp (thn (hc pins s1 σ1 H1 _ I1 (turn n σ1 H1 w1)) fun b s2 ⟨H2, I2, q2⟩ => ?_)
  cases b with
  | true =>
    obtain ⟨N, hN, q2⟩ := q2
    rw [if_pos rfl]
    refine wpAny_passesOwn hp (thn (hb pins s2 σ1 H2 _ I2 q2) fun f s3 q3 => ?_)
    cases f with
    | next =>
      obtain ⟨σ3, H3, I3, n3⟩ := q3
      obtain ⟨m', hm, w3⟩ := hN σ3 H3 n3
      exact ⟨m', hm, σ3, H3, I3, w3⟩
    | cont =>
      obtain ⟨σ3, H3, I3, n3⟩ := q3
      obtain ⟨m', hm, w3⟩ := hN σ3 H3 n3
      exact ⟨m', hm, σ3, H3, I3, w3⟩
    | brk => exact q3
    | ret v => exact q3
  | false =>
    rw [if_neg Bool.false_ne_true]
    exact wpAny_execs_nil ⟨σ1, H2, I2, q2⟩
end

/-! ### what a loop or a comprehension walks -/
/-- at turn i: it yields x (the heap may grow), or it stops -/
structure It where
  go : Nat → Hp → Prop
  yld : Nat → Hp → V → Hp → Prop
  stop : Nat → Hp → Prop
/-- the iterator's own objects may turn: they are not the frame's, not pinned, younger than the entry (or a comprehension's own) -/
def FpOk (X : Cx) (pins : List (Addr × Obj)) (H : Hp) (b : Addr) : Prop :=
  H b = none ∧ b ≠ X.env.locals ∧ b ∉ X.fs ∧ (b ∈ X.ex ∨ X.s₀.heap.objs.size ≤ b) ∧ (∀ x c, X.env.cells.lookup x = some c → c ≠ b) ∧ ∀ p ∈ X.pn ++ pins, p.1 ≠ b
theorem Inv.fpOk {X : Cx} {pins : List (Addr × Obj)} {σ : St} {H H' : Hp} {s : Shared} {b : Addr} (I : Inv X pins σ H s) (hb : s.heap.objs.size ≤ b) (hn : H' b = none) : FpOk X pins H' b := by
  refine ⟨hn, Nat.ne_of_gt (Nat.lt_of_lt_of_le I.lt hb), I.nofs hb, .inr (Nat.le_trans I.sz hb), fun x c e z => ?_, fun p hp z => ?_⟩
  · obtain ⟨v, q⟩ := I.cell x c e
    exact absurd (Nat.lt_of_lt_of_le q.lt (by rw [z]; exact hb)) (Nat.lt_irrefl _)
  · exact absurd (Nat.lt_of_lt_of_le (Heap.lt_size (I.pin p hp).1) (by rw [z]; exact hb)) (Nat.lt_irrefl _)
structure Turn (P : Program) (w : World) (K : PySem.W.Frag) (tg : Expr) (J : It) (fp : List Addr) (it : Addr) (tn : Nat → Heap → Prop) : Prop where
  mem : it ∈ fp
  obj : ∀ i h, tn i h → ∀ b ∈ fp, ∃ o, h.get? b = some o ∧ ∀ v, o.data ≠ .cell v
  keep : ∀ i h h', tn i h → (∀ b ∈ fp, ∀ o, h.get? b = some o → h'.get? b = some o) → tn i h'
  item : ∀ (X : Cx), X.prog = P → X.w = w → X.K = K → X.calm = true → ∀ (i : Nat) (pins : List (Addr × Obj)) (s : Shared) (σ : St) (H : Hp) (E : Value → Shared → Prop), Inv X pins σ H s → (∀ b ∈ fp, FpOk X pins H b) → tn i s.heap → J.go i H →
    wpAny (model P w) X.A (pyNext (.ref it)) (fun r s1 => ∃ u, r = some u ∧
      wpAny (model P w) X.A (letOwnedTupleGo tg (.ref it) u) (fun _ s2 => ∃ x H', Inv X pins σ H' s2 ∧ RelV x u ∧ J.yld i H x H' ∧ tn (i + 1) s2.heap ∧ ∀ b ∈ fp, H' b = none) E s1) E s
  done : ∀ (X : Cx), X.prog = P → X.w = w → X.K = K → X.calm = true → ∀ (i : Nat) (pins : List (Addr × Obj)) (s : Shared) (σ : St) (H : Hp) (E : Value → Shared → Prop), Inv X pins σ H s → (∀ b ∈ fp, FpOk X pins H b) → tn i s.heap → J.stop i H →
    wpAny (model P w) X.A (pyNext (.ref it)) (fun r s1 => r = none ∧ Inv X pins σ H s1) E s
  self : ∀ (A : Around) (i : Nat) (s : Shared) (Q : Value → Shared → Prop) (E : Value → Shared → Prop), tn i s.heap → Q (.ref it) s → wpAny (model P w) A (pyIter (.ref it)) Q E s
abbrev TI := St → Hp → (It → Hp → Prop) → Prop
/-- an iterator has come -/
def PIE (X : Cx) (pins : List (Addr × Obj)) (σ : St) (tg : Expr) (R : It → Hp → Prop) (itv : Value) (s2 : Shared) : Prop :=
  ∃ (it : Addr) (fp : List Addr) (tn : Nat → Heap → Prop) (J : It) (H' : Hp), itv = .ref it ∧ Inv X pins σ H' s2 ∧ Turn X.prog X.w X.K tg J fp it tn ∧ tn 0 s2.heap ∧ (∀ b ∈ fp, FpOk X pins H' b) ∧ R J H'
def PI (X : Cx) (tg iter : Expr) (wi : TI) : Prop :=
  ∀ (pins : List (Addr × Obj)) (s : Shared) (σ : St) (H : Hp) (R : It → Hp → Prop), Inv X pins σ H s → wi σ H R →
    wpAny (model X.prog X.w) X.A (eval iter X.env) (fun v s1 => wpAny (model X.prog X.w) X.A (pyIter v) (PIE X pins σ tg R) X.xe s1) X.xe s

/-- the step ahead of the store is nothing for an iterator that keeps no tuple -/
theorem go_of {M : Model} {A : Around} {E : Value → Shared → Prop} {s : Shared} {tg : Expr} {it : Addr} {u : Value} {o : Obj} {n : String} {vs : Array Value} {Q : Unit → Shared → Prop} (ho : s.heap.get? it = some o) (hc : o.cls = .type n) (hd : o.data = .fields vs)
    (hn : ["enumerate", "zip", "dict_itemiterator", "dict_reverseitemiterator", "odict_iterator", "itertools.zip_longest", "itertools.pairwise"].contains n = false) (hQ : Q () s) : wpAny M A (letOwnedTupleGo tg (.ref it) u) Q E s := by
  unfold letOwnedTupleGo
  cases tg <;> first
    | exact wpAny_pure hQ
    | (cases u <;> first
        | exact wpAny_pure hQ
        | (refine wpAny_bind (wpAny_load ho ?_)
           rw [hc, hd]
           show wpAny M A (if (["enumerate", "zip", "dict_itemiterator", "dict_reverseitemiterator", "odict_iterator", "itertools.zip_longest", "itertools.pairwise"].contains n && vs[0]? == some (rawInt _)) = true then _ else _) Q E s
           rw [if_neg (by intro h; rw [hn, Bool.false_and] at h; cases h)]
           exact wpAny_pure hQ))

/-- the list at a, as it stands at each turn (a loop may append to it) -/
def Itl (K : PySem.W.Frag) (a : Addr) : It :=
  ⟨fun i H => ∃ xs x, SqL K H a xs ∧ xs[i]? = some x, fun i H x H' => H' = H ∧ ∀ xs, SqL K H a xs → xs[i]? = some x, fun i H => ∃ xs, SqL K H a xs ∧ xs.length ≤ i⟩
def Itt (K : PySem.W.Frag) (a : Addr) : It :=
  ⟨fun i H => ∃ xs x, SqT K H a xs ∧ xs[i]? = some x, fun i H x H' => H' = H ∧ ∀ xs, SqT K H a xs → xs[i]? = some x, fun i H => ∃ xs, SqT K H a xs ∧ xs.length ≤ i⟩
/-- lo, lo + 1, .. (n of them) -/
def Itr (lo : Int) (n : Nat) : It := ⟨fun i _ => i < n, fun i H x H' => H' = H ∧ x = .int (lo + i), fun i _ => n ≤ i⟩
theorem turn_list {P : Program} {w : World} {K : PySem.W.Frag} {tg : Expr} (a it : Addr) : Turn P w K tg (Itl K a) [it] it (fun i h => h.IsListIter it a i) where
  mem := by simp
  obj := fun i h st b hb => by
    have e : b = it := by simpa using hb
    subst e
    obtain ⟨o, e, c, d⟩ := st
    exact ⟨o, e, fun v z => by rw [d] at z; cases z⟩
  keep := fun i h h' st k => st.at fun o e => k it (by simp) o e
  item := by
    intro X hP hw hK hc i pins s σ H E I hf st hg
    subst hP hw hK
    obtain ⟨xs, x, hq, hx⟩ := hg
    obtain ⟨its, rv, p, hz⟩ := I.list hq
    obtain ⟨u, hu, ru⟩ := rv.get hx
    obtain ⟨f0, f1, f2, f3, f4, f5⟩ := hf it (by simp)
    refine wpAny_pyNext_list_item st p.isList (x := u) (by simpa using hu) fun h' st' sb => ?_
    have I1 : Inv X pins σ H { s with heap := h' } := I.turned (t' := s.toks) (fun b o hb e => (sb.2 b hb).trans e) f0 f1 f3 f4 f5
    obtain ⟨o, e, c, d⟩ := id st'
    exact ⟨u, rfl, go_of (s := { s with heap := h' }) e c d (by decide) ⟨x, H, I1, ru, ⟨rfl, fun ys hy => by rw [I.list_inj hy hq]; exact hx⟩, st', fun b hb => (hf b hb).1⟩⟩
  done := by
    intro X hP hw hK hc i pins s σ H E I hf st hg
    subst hP hw hK
    obtain ⟨xs, hq, hx⟩ := hg
    obtain ⟨its, rv, p, hz⟩ := I.list hq
    obtain ⟨f0, f1, f2, f3, f4, f5⟩ := hf it (by simp)
    have hl := rv.length
    exact wpAny_pyNext_list_end (I.ok.hd hc) st p.isList (by simp; omega) fun h' eb => ⟨rfl, I.turned (t' := s.toks) (fun b o hb e => eb b o hb e) f0 f1 f3 f4 f5⟩
  self := fun _ _ _ _ _ st h => wpAny_pyIter_listiter st h
theorem turn_tuple {P : Program} {w : World} {K : PySem.W.Frag} {tg : Expr} (a it : Addr) : Turn P w K tg (Itt K a) [it] it (fun i h => h.IsTupleIter it a i) where
  mem := by simp
  obj := fun i h st b hb => by
    have e : b = it := by simpa using hb
    subst e
    obtain ⟨o, e, c, d⟩ := st
    exact ⟨o, e, fun v z => by rw [d] at z; cases z⟩
  keep := fun i h h' st k => st.at fun o e => k it (by simp) o e
  item := by
    intro X hP hw hK hc i pins s σ H E I hf st hg
    subst hP hw hK
    obtain ⟨xs, x, hq, hx⟩ := hg
    obtain ⟨its, rv, p, hz⟩ := I.tuple hq
    obtain ⟨u, hu, ru⟩ := rv.get hx
    obtain ⟨f0, f1, f2, f3, f4, f5⟩ := hf it (by simp)
    refine wpAny_pyNext_tuple_item st (show s.heap.IsTuple a its.toArray from p) (x := u) (by simpa using hu) fun h' st' sb => ?_
    have I1 : Inv X pins σ H { s with heap := h' } := I.turned (t' := s.toks) (fun b o hb e => (sb.2 b hb).trans e) f0 f1 f3 f4 f5
    obtain ⟨o, e, c, d⟩ := id st'
    exact ⟨u, rfl, go_of (s := { s with heap := h' }) e c d (by decide) ⟨x, H, I1, ru, ⟨rfl, fun ys hy => by rw [I.tuple_inj hy hq]; exact hx⟩, st', fun b hb => (hf b hb).1⟩⟩
  done := by
    intro X hP hw hK hc i pins s σ H E I hf st hg
    subst hP hw hK
    obtain ⟨xs, hq, hx⟩ := hg
    obtain ⟨its, rv, p, hz⟩ := I.tuple hq
    obtain ⟨f0, f1, f2, f3, f4, f5⟩ := hf it (by simp)
    have hl := rv.length
    exact wpAny_pyNext_tuple_end (I.ok.hd hc) st (show s.heap.IsTuple a its.toArray from p) (by simp; omega) fun h' eb => ⟨rfl, I.turned (t' := s.toks) (fun b o hb e => eb b o hb e) f0 f1 f3 f4 f5⟩
  self := fun _ _ _ _ _ st h => wpAny_pyIter_tupleiter st h
theorem turn_range {P : Program} {w : World} {K : PySem.W.Frag} {tg : Expr} (it : Addr) (lo : Int) (n : Nat) : Turn P w K tg (Itr lo n) [it] it (fun i h => IsRangeIter h it (lo + (i : Nat) * 1) ((n : Int) - (i : Nat)) 1) where
  mem := by simp
  obj := fun i h st b hb => by
    have e : b = it := by simpa using hb
    subst e
    exact ⟨_, st, fun v z => by
      have z' : Data.fields _ = Data.cell v := z
      cases z'⟩
  keep := fun i h h' st k => k it (by simp) _ st
  item := by
    intro X hP hw hK hc i pins s σ H E I hf st hg
    subst hP hw hK
    obtain ⟨f0, f1, f2, f3, f4, f5⟩ := hf it (by simp)
    have W := Walks.range (prog := X.prog) (w := X.w) (I.ok.hd hc) it lo 1 n
    refine W.item i s _ _ hg st fun v h' tk hv st' kk => ?_
    obtain ⟨t, rfl⟩ := hv
    have I1 : Inv X pins σ H { s with heap := h', toks := tk } := I.turned (fun b o hb e => kk b o (by simpa using hb) e) f0 f1 f3 f4 f5
    refine ⟨_, rfl, go_of (s := { s with heap := h', toks := tk }) (n := "range_iterator") st' rfl rfl (by decide) ⟨.int (lo + i), H, I1, ⟨t, ?_⟩, ⟨rfl, rfl⟩, st', fun b hb => (hf b hb).1⟩⟩
    rw [Int.mul_one]
  done := by
    intro X hP hw hK hc i pins s σ H E I hf st hg
    subst hP hw hK
    obtain ⟨f0, f1, f2, f3, f4, f5⟩ := hf it (by simp)
    exact wpAny_pyNext_range_end (I.ok.hd hc) st (by have : n ≤ i := hg; omega) fun h' eb => ⟨rfl, I.turned (t' := s.toks) (fun b o hb e => eb b o hb e) f0 f1 f3 f4 f5⟩
  self := fun _ _ _ _ _ st h => wpAny_pyIter_rangeiter st h
end L2

namespace L2
open PySem PySem.Spec PyProof.Rows
section
variable {X : Cx} {tg : Expr}
def iList (K : PySem.W.Frag) (tl : TE) : TI := fun σ H R => tl σ H fun x H1 => ∃ a, x = .ref a ∧ (∃ xs, SqL K H1 a xs) ∧ R (Itl K a) H1
def iTup (K : PySem.W.Frag) (tl : TE) : TI := fun σ H R => tl σ H fun x H1 => ∃ a, x = .ref a ∧ (∃ xs, SqT K H1 a xs) ∧ R (Itt K a) H1
theorem pi_list {l : Expr} {tl : TE} (hl : PE X l tl) : PI X tg l (iList X.K tl) := by
  intro pins s σ H R I h
  refine thn (hl pins s σ H _ I h) fun v s1 ⟨x, H1, I1, r1, q1⟩ => ?_
  obtain ⟨a, e, ⟨xs, hq⟩, q⟩ := q1
  subst e
  cases r1
  obtain ⟨its, rv, p, hz⟩ := I1.list hq
  refine wpAny_pyIter_list p.isList ?_
  refine ⟨s1.heap.objs.size, [s1.heap.objs.size], _, _, H1, rfl, I1.kept (t' := s1.toks) fun b o e => Heap.get?_push_of_some _ e, turn_list a _, ⟨_, Heap.get?_push_size _ rfl, rfl, rfl⟩, fun b hb => ?_, q⟩
  have e : b = s1.heap.objs.size := by simpa using hb
  subst e
  exact I1.fpOk (Nat.le_refl _) (I1.hok.fresh (Nat.le_refl _))
theorem pi_tup {l : Expr} {tl : TE} (hl : PE X l tl) : PI X tg l (iTup X.K tl) := by
  intro pins s σ H R I h
  refine thn (hl pins s σ H _ I h) fun v s1 ⟨x, H1, I1, r1, q1⟩ => ?_
  obtain ⟨a, e, ⟨xs, hq⟩, q⟩ := q1
  subst e
  cases r1
  obtain ⟨its, rv, p, hz⟩ := I1.tuple hq
  refine wpAny_pyIter_tuple (show s1.heap.IsTuple a its.toArray from p) ?_
  refine ⟨s1.heap.objs.size, [s1.heap.objs.size], _, _, H1, rfl, I1.kept (t' := s1.toks) fun b o e => Heap.get?_push_of_some _ e, turn_tuple a _, ⟨_, Heap.get?_push_size _ rfl, rfl, rfl⟩, fun b hb => ?_, q⟩
  have e : b = s1.heap.objs.size := by simpa using hb
  subst e
  exact I1.fpOk (Nat.le_refl _) (I1.hok.fresh (Nat.le_refl _))
/-- a range object just made, walked -/
theorem range_it {pins : List (Addr × Obj)} {σ : St} {H : Hp} {s : Shared} {R : It → Hp → Prop} {E : Value → Shared → Prop} {lo hi : Int} {t u v : Tok} {tk : Nat} (I : Inv X pins σ H s) (h1 : -(2 ^ 62) ≤ lo) (h2 : lo < 2 ^ 62) (h3 : -(2 ^ 62) ≤ hi) (h4 : hi < 2 ^ 62)
    (q : R (Itr lo (hi - lo).toNat) H) : wpAny (model X.prog X.w) X.A (pyIter (.ref s.heap.objs.size)) (PIE X pins σ tg R) E { s with heap := s.heap.push { cls := .type "range", data := .fields #[.int lo t, .int hi u, .int 1 v] }, toks := tk } := by
  refine wpAny_pyIter_range (IsRange.new ..) (small_one h1 h2 h3 h4) ?_
  have I1 : Inv X pins σ H { s with heap := s.heap.push { cls := .type "range", data := .fields #[.int lo t, .int hi u, .int 1 v] }, toks := tk } := I.kept fun b o e => Heap.get?_push_of_some _ e
  refine ⟨(s.heap.push { cls := .type "range", data := .fields #[.int lo t, .int hi u, .int 1 v] }).objs.size, [(s.heap.push { cls := .type "range", data := .fields #[.int lo t, .int hi u, .int 1 v] }).objs.size], _, _, H, rfl,
    I1.kept (t' := tk) fun b o e => Heap.get?_push_of_some _ e, turn_range _ lo (hi - lo).toNat, ?_, fun b hb => ?_, q⟩
  · have e1 : lo + ((0 : Nat) : Int) * 1 = lo := by simp
    have e2 : (((hi - lo).toNat : Nat) : Int) - ((0 : Nat) : Int) = Builtin.Range.rangeSize lo hi 1 := by rw [rangeSize_one]; split <;> omega
    show IsRangeIter _ _ (lo + ((0 : Nat) : Int) * 1) ((((hi - lo).toNat : Nat) : Int) - ((0 : Nat) : Int)) 1
    rw [e1, e2]
    exact Heap.get?_push_size _ rfl
  · have e : b = (s.heap.push { cls := .type "range", data := .fields #[.int lo t, .int hi u, .int 1 v] }).objs.size := by simpa using hb
    subst e
    exact I1.fpOk (Nat.le_refl _) (I1.hok.fresh (Nat.le_refl _))
def iRng1 (ta : TA) : TI := fun σ H R => ta σ H fun vs H1 => ∃ j : Int, vs = [.int j] ∧ -(2 ^ 62) ≤ j ∧ j < 2 ^ 62 ∧ R (Itr 0 j.toNat) H1
def iRng2 (ta : TA) : TI := fun σ H R => ta σ H fun vs H1 => ∃ i j : Int, vs = [.int i, .int j] ∧ (-(2 ^ 62) ≤ i ∧ i < 2 ^ 62 ∧ -(2 ^ 62) ≤ j ∧ j < 2 ^ 62) ∧ R (Itr i (j - i).toNat) H1
theorem pi_range1 {a : Expr} {ta : TA} {p pos : Pos} (hg : Gl X "range") (hm : X.mg "range" = none) (ha : PA X [a] ta) (hs : starEach [a] X.env = [(false, eval a X.env)] := by rfl) : PI X tg (.Call (.Name "range" p) [a] [] pos) (iRng1 ta) := by
  intro pins s σ H R I h
  refine Call_ (ld_blt I hg hm boot_range (PyProof.Rows.callWith_type1 (thn (ha pos pins s σ H _ I h) fun us s1 ⟨vs, H1, I1, r1, q1⟩ => ?_) hs rfl))
  obtain ⟨j, e, q1, q2, q⟩ := q1
  subst e
  cases r1 with
  | cons r rr =>
    cases rr
    obtain ⟨t, rfl⟩ := r
    exact call_range_1 (range_it I1 (by omega) (by omega) q1 q2 (by simpa using q))
/-! ### for -/
/-- W: the invariant by the turn and a measure; N: what the body is to reach -/
def tFor (wi : TI) (g : TG) (tb : TS) : TS := fun D σ H => wi σ H fun J H1 => ∃ W : Nat → Nat → St → Hp → Prop, (∃ m, W 0 m σ H1) ∧ ∀ i m σ H, W i m σ H →
  (J.stop i H ∧ D.nx σ H) ∨ (J.go i H ∧ ∃ N : St → Hp → Prop, (∀ σ' H', N σ' H' → ∃ m', m' < m ∧ W (i + 1) m' σ' H') ∧ ∀ x H', J.yld i H x H' → g x σ H' fun σ2 H2 => tb { D with nx := N, ct := N, bk := D.nx } σ2 H2)
/-- the records at fp as they stand -/
def pinsAt (fp : List Addr) (h : Heap) : List (Addr × Obj) := fp.filterMap fun b => (h.get? b).map fun o => (b, o)
theorem mem_pinsAt {fp : List Addr} {h : Heap} {b : Addr} {o : Obj} (hb : b ∈ fp) (e : h.get? b = some o) : (b, o) ∈ pinsAt fp h := List.mem_filterMap.mpr ⟨b, hb, by rw [e]; rfl⟩
theorem of_pinsAt {fp : List Addr} {h : Heap} {p : Addr × Obj} (hp : p ∈ pinsAt fp h) : p.1 ∈ fp ∧ h.get? p.1 = some p.2 := by
  obtain ⟨b, hb, e⟩ := List.mem_filterMap.mp hp
  cases q : h.get? b with
  | none => rw [q] at e; cases e
  | some o =>
    rw [q] at e
    have e' : (b, o) = p := Option.some.inj e
    subst e'
    exact ⟨hb, q⟩
theorem Inv.pinned {pins : List (Addr × Obj)} {σ : St} {H : Hp} {s : Shared} {fp : List Addr} (I : Inv X pins σ H s) (hf : ∀ b ∈ fp, FpOk X pins H b) (ho : ∀ b ∈ fp, ∃ o, s.heap.get? b = some o ∧ ∀ v, o.data ≠ .cell v) : Inv X (pins ++ pinsAt fp s.heap) σ H s :=
  I.pins_of fun p hp => (List.mem_append.mp hp).elim (fun z => I.pin p (List.mem_append_right _ z)) fun z => by
    obtain ⟨hb, e⟩ := of_pinsAt z
    obtain ⟨f0, f1, f2, _⟩ := hf p.1 hb
    obtain ⟨o, e', d⟩ := ho p.1 hb
    rw [e] at e'; cases e'
    exact ⟨e, f0, f1, f2, d⟩
theorem Inv.unpinned {pins pl : List (Addr × Obj)} {σ : St} {H : Hp} {s : Shared} (I : Inv X (pins ++ pl) σ H s) : Inv X pins σ H s := I.pins_of fun p hp => I.pin p (List.mem_append_right _ (List.mem_append_left _ hp))
theorem ps_for {iter : Expr} {body : List Stmt} {wi : TI} {g : TG} {tb : TS} {pos : Pos} (hp : PassesOwn (model X.prog X.w) X.A X.env X.xe) (hc : X.calm = true) (hi : PI X tg iter wi) (hg : PG X tg g) (hb : PSs X body tb)
    (hs : ∀ x, foldedSetIterable iter X.env x = pure x := by intro _; rfl) : PS X (.For tg iter body [] pos) (tFor wi g tb) := .mk <| by
  intro pins s σ H D I h
  refine wpAny_For (thn (hi pins s σ H _ I h) fun v s1 h1 => thn h1 fun itv s2 h2 => ?_) hs
  obtain ⟨it, fp, tn, J, H2, e, I2, T, st2, f2, W, ⟨m0, w0⟩, turn⟩ := h2
  subst e
  -- what stays true of the iterator's objects through the loop
  have stat : ∀ {H' : Hp}, (∀ b ∈ fp, H' b = none) → ∀ b ∈ fp, FpOk X pins H' b := fun hn b hb => ⟨hn b hb, (f2 b hb).2⟩
  refine codeAny_forLoop_any (fun n s' => ∃ i σ' H', Inv X pins σ' H' s' ∧ tn i s'.heap ∧ (∀ b ∈ fp, H' b = none) ∧ W i n σ' H') ?_ m0 ⟨0, σ, H2, I2, st2, fun b hb => (f2 b hb).1, w0⟩
  rintro n s3 ⟨i, σ3, H3, I3, st3, fr3, w3⟩
  rcases turn i n σ3 H3 w3 with ⟨stop, qn⟩ | ⟨go, N, hN, step⟩
  · refine wpAny_passesOwn hp (thn (T.done X rfl rfl rfl hc i pins s3 σ3 H3 X.xe I3 (stat fr3) st3 stop) fun r s4 ⟨hr, I4⟩ => ?_)
    subst hr
    exact wpAny_execs_nil ⟨σ3, H3, I4, qn⟩
  · refine wpAny_passesOwn hp (thn (T.item X rfl rfl rfl hc i pins s3 σ3 H3 X.xe I3 (stat fr3) st3 go) fun r s4 ⟨u, hr, h4⟩ => ?_)
    subst hr
    refine wpAny_passesOwn hp (thn h4 fun _ s5 ⟨x, H5, I5, r5, y5, st5, fr5⟩ => ?_)
    have I5' := I5.pinned (stat fr5) (T.obj _ _ st5)
    refine wpAny_passesOwn hp (thn (hg _ s5 σ3 H5 x u _ I5' r5 (step x H5 y5)) fun _ s6 ⟨σ6, H6, I6, q6⟩ => ?_)
    refine wpAny_passesOwn hp (thn (hb _ s6 σ6 H6 _ I6 q6) fun f s7 q7 => ?_)
    have again : ∀ {σ7 : St} {H7 : Hp}, Inv X (pins ++ pinsAt fp s5.heap) σ7 H7 s7 → N σ7 H7 → ∃ m, m < n ∧ ∃ i σ' H', Inv X pins σ' H' s7 ∧ tn i s7.heap ∧ (∀ b ∈ fp, H' b = none) ∧ W i m σ' H' := fun {σ7 H7} I7 n7 => by
      obtain ⟨m', hm, w7⟩ := hN σ7 H7 n7
      refine ⟨m', hm, i + 1, σ7, H7, I7.unpinned, T.keep _ _ _ st5 fun b hb o e => (I7.pin (b, o) (List.mem_append_right _ (List.mem_append_right _ (mem_pinsAt hb e)))).1, fun b hb => ?_, w7⟩
      obtain ⟨o, e, d⟩ := T.obj _ _ st5 b hb
      exact (I7.pin (b, o) (List.mem_append_right _ (List.mem_append_right _ (mem_pinsAt hb e)))).2.1
    cases f with
    | next => obtain ⟨σ7, H7, I7, n7⟩ := q7; exact again I7 n7
    | cont => obtain ⟨σ7, H7, I7, n7⟩ := q7; exact again I7 n7
    | brk => obtain ⟨σ7, H7, I7, q7⟩ := q7; exact ⟨σ7, H7, I7.unpinned, q7⟩
    | ret v => obtain ⟨x7, σ7, H7, I7, r7, q7⟩ := q7; exact ⟨x7, σ7, H7, I7.unpinned, r7, q7⟩
end

/-! ### the forms one uses -/
/-- over a list that the body leaves as it is -/
theorem for_list {K : PySem.W.Frag} {a : Addr} {xs : List V} {g : TG} {tb : TS} {D : Ends} {σ : St} {H : Hp} (Pv : Nat → St → Hp → Prop) (h0 : Pv 0 σ H) (hl : ∀ i σ H, i ≤ xs.length → Pv i σ H → SqL K H a xs)
    (hs : ∀ i x σ H, xs[i]? = some x → Pv i σ H → g x σ H fun σ2 H2 => tb { D with nx := Pv (i + 1), ct := Pv (i + 1), bk := D.nx } σ2 H2) (hd : ∀ σ H, Pv xs.length σ H → D.nx σ H) :
    ∃ W : Nat → Nat → St → Hp → Prop, (∃ m, W 0 m σ H) ∧ ∀ i m σ H, W i m σ H →
      ((Itl K a).stop i H ∧ D.nx σ H) ∨ ((Itl K a).go i H ∧ ∃ N : St → Hp → Prop, (∀ σ' H', N σ' H' → ∃ m', m' < m ∧ W (i + 1) m' σ' H') ∧ ∀ x H', (Itl K a).yld i H x H' → g x σ H' fun σ2 H2 => tb { D with nx := N, ct := N, bk := D.nx } σ2 H2) := by
  refine ⟨fun i m σ H => m = xs.length - i ∧ i ≤ xs.length ∧ Pv i σ H, ⟨xs.length, by simp, Nat.zero_le _, h0⟩, ?_⟩
  rintro i m σ H ⟨rfl, hi, p⟩
  have q := hl i σ H hi p
  by_cases hlt : i < xs.length
  · refine .inr ⟨⟨xs, xs[i], q, by simp [hlt]⟩, Pv (i + 1), fun σ' H' p' => ⟨xs.length - (i + 1), by omega, rfl, hlt, p'⟩, fun x H' y => ?_⟩
    obtain ⟨e, y⟩ := y
    subst e
    exact hs i x σ _ (y xs q) p
  · have e : i = xs.length := by omega
    subst e
    exact .inl ⟨⟨xs, q, Nat.le_refl _⟩, hd σ H p⟩
theorem for_tup {K : PySem.W.Frag} {a : Addr} {xs : List V} {g : TG} {tb : TS} {D : Ends} {σ : St} {H : Hp} (Pv : Nat → St → Hp → Prop) (h0 : Pv 0 σ H) (hl : ∀ i σ H, i ≤ xs.length → Pv i σ H → SqT K H a xs)
    (hs : ∀ i x σ H, xs[i]? = some x → Pv i σ H → g x σ H fun σ2 H2 => tb { D with nx := Pv (i + 1), ct := Pv (i + 1), bk := D.nx } σ2 H2) (hd : ∀ σ H, Pv xs.length σ H → D.nx σ H) :
    ∃ W : Nat → Nat → St → Hp → Prop, (∃ m, W 0 m σ H) ∧ ∀ i m σ H, W i m σ H →
      ((Itt K a).stop i H ∧ D.nx σ H) ∨ ((Itt K a).go i H ∧ ∃ N : St → Hp → Prop, (∀ σ' H', N σ' H' → ∃ m', m' < m ∧ W (i + 1) m' σ' H') ∧ ∀ x H', (Itt K a).yld i H x H' → g x σ H' fun σ2 H2 => tb { D with nx := N, ct := N, bk := D.nx } σ2 H2) := by
  refine ⟨fun i m σ H => m = xs.length - i ∧ i ≤ xs.length ∧ Pv i σ H, ⟨xs.length, by simp, Nat.zero_le _, h0⟩, ?_⟩
  rintro i m σ H ⟨rfl, hi, p⟩
  have q := hl i σ H hi p
  by_cases hlt : i < xs.length
  · refine .inr ⟨⟨xs, xs[i], q, by simp [hlt]⟩, Pv (i + 1), fun σ' H' p' => ⟨xs.length - (i + 1), by omega, rfl, hlt, p'⟩, fun x H' y => ?_⟩
    obtain ⟨e, y⟩ := y
    subst e
    exact hs i x σ _ (y xs q) p
  · have e : i = xs.length := by omega
    subst e
    exact .inl ⟨⟨xs, q, Nat.le_refl _⟩, hd σ H p⟩
theorem for_range {lo : Int} {n : Nat} {g : TG} {tb : TS} {D : Ends} {σ : St} {H : Hp} (Pv : Nat → St → Hp → Prop) (h0 : Pv 0 σ H)
    (hs : ∀ i σ H, i < n → Pv i σ H → g (.int (lo + i)) σ H fun σ2 H2 => tb { D with nx := Pv (i + 1), ct := Pv (i + 1), bk := D.nx } σ2 H2) (hd : ∀ σ H, Pv n σ H → D.nx σ H) :
    ∃ W : Nat → Nat → St → Hp → Prop, (∃ m, W 0 m σ H) ∧ ∀ i m σ H, W i m σ H →
      ((Itr lo n).stop i H ∧ D.nx σ H) ∨ ((Itr lo n).go i H ∧ ∃ N : St → Hp → Prop, (∀ σ' H', N σ' H' → ∃ m', m' < m ∧ W (i + 1) m' σ' H') ∧ ∀ x H', (Itr lo n).yld i H x H' → g x σ H' fun σ2 H2 => tb { D with nx := N, ct := N, bk := D.nx } σ2 H2) := by
  refine ⟨fun i m σ H => m = n - i ∧ i ≤ n ∧ Pv i σ H, ⟨n, by simp, Nat.zero_le _, h0⟩, ?_⟩
  rintro i m σ H ⟨rfl, hi, p⟩
  by_cases hlt : i < n
  · refine .inr ⟨hlt, Pv (i + 1), fun σ' H' p' => ⟨n - (i + 1), by omega, rfl, hlt, p'⟩, fun x H' y => ?_⟩
    obtain ⟨e, y⟩ := y
    subst e y
    exact hs i σ _ hlt p
  · have e : i = n := by omega
    subst e
    exact .inl ⟨Nat.le_refl _, hd σ H p⟩
end L2

namespace L2
open PySem PySem.Spec PyProof.Rows

abbrev R2 := V → V → Hp → VK → Prop
/-- a two-place operation on values: f is binaryOp op, inplaceOp op or compareOp op -/
def OpR (X : Cx) (f : Value → Value → Sem Value) (r : R2) : Prop :=
  ∀ (pins : List (Addr × Obj)) (s : Shared) (σ : St) (H : Hp) (x y : V) (v u : Value) (Q : VK), Inv X pins σ H s → RelV x v → RelV y u → r x y H Q →
    wpAny (model X.prog X.w) X.A (f v u) (EP X pins σ Q) X.xe s
/-- a one-place operation -/
def UnR (X : Cx) (f : Value → Sem Value) (r : V → Hp → VK → Prop) : Prop :=
  ∀ (pins : List (Addr × Obj)) (s : Shared) (σ : St) (H : Hp) (x : V) (v : Value) (Q : VK), Inv X pins σ H s → RelV x v → r x H Q →
    wpAny (model X.prog X.w) X.A (f v) (EP X pins σ Q) X.xe s
/-- a call of a value that is known (a builtin, a type) with values -/
def CallR (X : Cx) (f : Value) (r : List V → Hp → VK → Prop) : Prop :=
  ∀ (pins : List (Addr × Obj)) (s : Shared) (σ : St) (H : Hp) (xs : List V) (us : List Value) (Q : VK), Inv X pins σ H s → Vals xs us → r xs H Q →
    wpAny (model X.prog X.w) X.A (call f us) (EP X pins σ Q) X.xe s
/-- a value's truth -/
def TruR (X : Cx) (r : V → Hp → (Bool → Hp → Prop) → Prop) : Prop :=
  ∀ (pins : List (Addr × Obj)) (s : Shared) (σ : St) (H : Hp) (x : V) (v : Value) (Q : Bool → Hp → Prop), Inv X pins σ H s → RelV x v → r x H Q →
    wpAny (model X.prog X.w) X.A (truthy v) (TP X pins σ Q) X.xe s

def tOp (r : R2) (ta tb : TE) : TE := fun σ H Q => ta σ H fun x H1 => tb σ H1 fun y H2 => r x y H2 Q
def tUn (r : V → Hp → VK → Prop) (ta : TE) : TE := fun σ H Q => ta σ H fun x H1 => r x H1 Q
/-- ints in, under C, and a value out -/
def rI (C : Int → Int → Prop) (g : Int → Int → V) : R2 := fun x y H Q => ∃ i j, x = .int i ∧ y = .int j ∧ C i j ∧ Q (g i j) H
def rI0 (g : Int → Int → V) : R2 := fun x y H Q => ∃ i j, x = .int i ∧ y = .int j ∧ Q (g i j) H
def rU (g : Int → V) : V → Hp → VK → Prop := fun x H Q => ∃ i, x = .int i ∧ Q (g i) H

section
variable {X : Cx} {a b c : Expr} {ta tb tc : TE} {pos : Pos}

theorem binT (ha : PE X a ta) (hb : PE X b tb) {pins : List (Addr × Obj)} {s : Shared} {σ : St} {H : Hp} {R : V → V → Hp → Prop} (I : Inv X pins σ H s)
    (h : ta σ H fun x H1 => tb σ H1 fun y H2 => R x y H2) {Q : Value → Shared → Prop} {f : Value → Value → Sem Value}
    (hf : ∀ v u s2 x y H2, Inv X pins σ H2 s2 → RelV x v → RelV y u → R x y H2 → wpAny (model X.prog X.w) X.A (f v u) Q X.xe s2) :
    wpAny (model X.prog X.w) X.A (eval a X.env) (fun v s₁ => wpAny (model X.prog X.w) X.A (eval b X.env) (fun u s₂ => wpAny (model X.prog X.w) X.A (f v u) Q X.xe s₂) X.xe s₁) X.xe s := by
  refine thn (ha pins s σ H _ I h) fun v s1 ⟨x, H1, I1, r1, q1⟩ => ?_
  refine thn (hb pins s1 σ H1 _ I1 q1) fun u s2 ⟨y, H2, I2, r2, q2⟩ => ?_
  exact hf v u s2 x y H2 I2 r1 r2 q2

theorem pe_op {op : Operator} {r : R2} (ho : OpR X (binaryOp op) r) (ha : PE X a ta) (hb : PE X b tb) : PE X (.BinOp a op b pos) (tOp r ta tb) := .mk <| by
  intro pins s σ H Q I h
  exact wpAny_BinOp (binT ha hb I h fun v u s2 x y H2 I2 rx ry q => ho pins s2 σ H2 x y v u Q I2 rx ry q)
theorem pe_un {op : UnaryOp} {r : V → Hp → VK → Prop} (ho : UnR X (unaryOp op) r) (ha : PE X a ta) : PE X (.UnaryOp op a pos) (tUn r ta) := .mk <| by
  intro pins s σ H Q I h
  exact UnaryOp_ (thn (ha pins s σ H _ I h) fun v s1 ⟨x, H1, I1, r1, q1⟩ => ho pins s1 σ H1 x v Q I1 r1 q1)
/-! ### ints -/
theorem opI {f : Value → Value → Sem Value} {C : Int → Int → Prop} {g : Int → Int → Int}
    (rule : ∀ (i j : Int) (t u : Tok) (s : Shared) (Q : Value → Shared → Prop) (E : Value → Shared → Prop), C i j → Q (.int (g i j) s.toks) { s with toks := s.toks + 1 } → wpAny (model X.prog X.w) X.A (f (.int i t) (.int j u)) Q E s) :
    OpR X f (rI C fun i j => .int (g i j)) := by
  intro pins s σ H x y v u Q I rx ry h
  obtain ⟨i, j, rfl, rfl, hc, q⟩ := h
  obtain ⟨t, rfl⟩ := rx
  obtain ⟨t', rfl⟩ := ry
  exact rule i j t t' s _ _ hc ⟨.int (g i j), H, I.tok _, ⟨_, rfl⟩, q⟩
theorem opI0 {f : Value → Value → Sem Value} {g : Int → Int → Int}
    (rule : ∀ (i j : Int) (t u : Tok) (s : Shared) (Q : Value → Shared → Prop) (E : Value → Shared → Prop), Q (.int (g i j) s.toks) { s with toks := s.toks + 1 } → wpAny (model X.prog X.w) X.A (f (.int i t) (.int j u)) Q E s) :
    OpR X f (rI0 fun i j => .int (g i j)) := by
  intro pins s σ H x y v u Q I rx ry h
  obtain ⟨i, j, rfl, rfl, q⟩ := h
  obtain ⟨t, rfl⟩ := rx
  obtain ⟨t', rfl⟩ := ry
  exact rule i j t t' s _ _ ⟨.int (g i j), H, I.tok _, ⟨_, rfl⟩, q⟩
theorem opB0 {f : Value → Value → Sem Value} {g : Int → Int → Bool}
    (rule : ∀ (i j : Int) (t u : Tok) (s : Shared) (Q : Value → Shared → Prop) (E : Value → Shared → Prop), Q (.bool (g i j)) s → wpAny (model X.prog X.w) X.A (f (.int i t) (.int j u)) Q E s) :
    OpR X f (rI0 fun i j => .bl (g i j)) := by
  intro pins s σ H x y v u Q I rx ry h
  obtain ⟨i, j, rfl, rfl, q⟩ := h
  obtain ⟨t, rfl⟩ := rx
  obtain ⟨t', rfl⟩ := ry
  exact rule i j t t' s _ _ ⟨.bl (g i j), H, I, rfl, q⟩

def CDiv (i j : Int) : Prop := 0 < j ∧ j < 1073741824
def CDivN (i j : Int) : Prop := j ≠ 0 ∧ j.natAbs < 1073741824
def CPow (i j : Int) : Prop := 0 ≤ j ∧ j ≤ 1000000 ∧ i.natAbs < 2 ^ 64
def CMul (i j : Int) : Prop := (-(2 ^ 64) < i ∧ i < 2 ^ 64) ∨ (-(2 ^ 64) < j ∧ j < 2 ^ 64)
theorem CMul.ok {i j : Int} (h : CMul i j) : IntMulOk i j := by
  rcases h with ⟨h1, h2⟩ | ⟨h1, h2⟩
  · exact .of_left (intBits_le_64 h1 h2)
  · exact .of_right (intBits_le_64 h1 h2)
theorem two_pow_nn (k : Nat) : (0 : Int) ≤ 2 ^ k := by
  rw [two_pow_cast]
  exact Int.natCast_nonneg _

theorem op_add : OpR X (binaryOp .Add) (rI0 fun i j => .int (i + j)) := opI0 fun _ _ _ _ _ _ _ q => add_int q
theorem op_sub : OpR X (binaryOp .Sub) (rI0 fun i j => .int (i - j)) := opI0 fun _ _ _ _ _ _ _ q => sub_int q
theorem op_mul : OpR X (binaryOp .Mult) (rI CMul fun i j => .int (i * j)) := opI fun _ _ _ _ _ _ _ hc q => mul_int q hc.ok
/-- // by a positive divisor -/
theorem op_fdiv : OpR X (binaryOp .FloorDiv) (rI CDiv fun i j => .int (i / j)) := opI fun i j _ _ _ _ _ hc q => by
  have h1 : (0 : Int) < j := hc.1
  have h2 : j < 1073741824 := hc.2
  exact floordiv_int (by omega) (by rw [Int.fdiv_eq_ediv_of_nonneg i (by omega)]; exact q) (.inl (PyProof.noPylong_small (by omega)))
/-- % by a positive divisor of any size -/
theorem op_mod : OpR X (binaryOp .Mod) (rI (fun _ j => 0 < j) fun i j => .int (i % j)) := opI fun i j _ _ _ _ _ hc q => by
  have h1 : (0 : Int) < j := hc
  exact mod_int' (by omega) (by rw [Int.fmod_eq_emod_of_nonneg i (by omega)]; exact q)
theorem op_pow : OpR X (binaryOp .Pow) (rI CPow fun i j => .int (i ^ j.toNat)) := opI fun _ _ _ _ _ _ _ hc q => pow_int_small hc.1 hc.2.1 hc.2.2 q
theorem op_shl : OpR X (binaryOp .LShift) (rI CPow fun i j => .int (i * 2 ^ j.toNat)) := opI fun _ _ _ _ _ _ _ hc q => lshift_int_small hc.1 hc.2.1 hc.2.2 q
theorem op_shr : OpR X (binaryOp .RShift) (rI (fun _ j => 0 ≤ j) fun i j => .int (i / 2 ^ j.toNat)) := opI fun i j _ _ _ _ _ hc q =>
  rshift_int hc (by rw [Int.fdiv_eq_ediv_of_nonneg i (two_pow_nn _)]; exact q)
theorem op_and : OpR X (binaryOp .BitAnd) (rI0 fun i j => .int (Builtin.bitAnd i j)) := opI0 fun _ _ _ _ _ _ _ q => and_int q
theorem op_or : OpR X (binaryOp .BitOr) (rI0 fun i j => .int (Builtin.bitOr i j)) := opI0 fun _ _ _ _ _ _ _ q => or_int q
theorem unI {f : Value → Sem Value} {g : Int → Int}
    (rule : ∀ (i : Int) (t : Tok) (s : Shared) (Q : Value → Shared → Prop) (E : Value → Shared → Prop), Q (.int (g i) s.toks) { s with toks := s.toks + 1 } → wpAny (model X.prog X.w) X.A (f (.int i t)) Q E s) :
    UnR X f (rU fun i => .int (g i)) := by
  intro pins s σ H x v Q I rx h
  obtain ⟨i, rfl, q⟩ := h
  obtain ⟨t, rfl⟩ := rx
  exact rule i t s _ _ ⟨.int (g i), H, I.tok _, ⟨_, rfl⟩, q⟩
theorem un_neg : UnR X (unaryOp .USub) (rU fun i => .int (-i)) := unI fun _ _ _ _ _ q => neg_int q
/-! ### bools among ints: n += (a < b) -/
end

/-! ### comparisons -/
/-- the scalars that == tells apart as data does -/
def scal : V → V → Bool
  | .non, .non => true | .non, .int _ => true | .int _, .non => true | .non, .bl _ => true | .bl _, .non => true | .non, .str _ => true | .str _, .non => true
  | .int _, .int _ => true | .bl _, .bl _ => true | .str _, .str _ => true | .byt _, .byt _ => true
  | .int _, .str _ => true | .str _, .int _ => true | .bl _, .str _ => true | .str _, .bl _ => true
  | _, _ => false
def rEq : R2 := fun x y H Q => scal x y = true ∧ Q (.bl (decide (x = y))) H
def rNe : R2 := fun x y H Q => scal x y = true ∧ Q (.bl (!decide (x = y))) H

theorem dec_int {i j : Int} : decide (V.int i = V.int j) = (i == j) := by
  rw [Bool.eq_iff_iff]
  simp
theorem dec_bl {i j : Bool} : decide (V.bl i = V.bl j) = (i == j) := by
  rw [Bool.eq_iff_iff]
  simp
theorem dec_str {i j : Str} : decide (V.str i = V.str j) = (i == j) := by
  rw [Bool.eq_iff_iff]
  simp
theorem dec_byt {i j : Array UInt8} : decide (V.byt i = V.byt j) = (i.toList == j.toList) := by
  rw [Bool.eq_iff_iff]
  cases i
  cases j
  simp

section
variable {X : Cx} {a b c : Expr} {ta tb tc : TE} {pos : Pos}
theorem fin_bl {pins : List (Addr × Obj)} {σ : St} {H : Hp} {s : Shared} {Q : VK} {k k' : Bool} (I : Inv X pins σ H s) (q : Q (.bl k) H) (e : k = k') : EP X pins σ Q (.bool k') s := by
  subst e
  exact ⟨.bl k, H, I, rfl, q⟩
theorem op_eq : OpR X (compareOp .Eq) rEq := by
  intro pins s σ H x y v u Q I rx ry h
  obtain ⟨hs, q⟩ := h
  cases x with
  | non =>
    cases rx
    cases y with
    | non => cases ry; exact PySem.EqNone.eq_none_none (fin_bl I q (by simp))
    | bl j => cases ry; exact PySem.EqNone.eq_none_bool (fin_bl I q (by simp))
    | int j => obtain ⟨t', rfl⟩ := ry; exact PySem.EqNone.eq_none_int (fin_bl I q (by simp))
    | str j => obtain ⟨t', rfl⟩ := ry; exact PySem.EqNone.eq_none_str (fin_bl I q (by simp))
    | _ => exact absurd (show false = true from hs) Bool.false_ne_true
  | bl i =>
    cases rx
    cases y with
    | non => cases ry; exact PySem.EqNone.eq_bool_none (fin_bl I q (by simp))
    | bl j => cases ry; exact eq_bool (fin_bl I q dec_bl)
    | str j => obtain ⟨t', rfl⟩ := ry; exact PySem.EqMixed.eq_bool_str (fin_bl I q (by simp))
    | _ => exact absurd (show false = true from hs) Bool.false_ne_true
  | int i =>
    obtain ⟨t, rfl⟩ := rx
    cases y with
    | non => cases ry; exact PySem.EqNone.eq_int_none (fin_bl I q (by simp))
    | int j => obtain ⟨t', rfl⟩ := ry; exact eq_int (fin_bl I q dec_int)
    | str j => obtain ⟨t', rfl⟩ := ry; exact PySem.EqMixed.eq_int_str (fin_bl I q (by simp))
    | _ => exact absurd (show false = true from hs) Bool.false_ne_true
  | str i =>
    obtain ⟨t, rfl⟩ := rx
    cases y with
    | non => cases ry; exact PySem.EqNone.eq_str_none (fin_bl I q (by simp))
    | bl j => cases ry; exact PySem.EqMixed.eq_str_bool (fin_bl I q (by simp))
    | int j => obtain ⟨t', rfl⟩ := ry; exact PySem.EqMixed.eq_str_int (fin_bl I q (by simp))
    | str j => obtain ⟨t', rfl⟩ := ry; exact eq_str (fin_bl I q dec_str)
    | _ => exact absurd (show false = true from hs) Bool.false_ne_true
  | byt i =>
    obtain ⟨t, rfl⟩ := rx
    cases y with
    | byt j => obtain ⟨t', rfl⟩ := ry; exact PySem.W.eq_bytes (fin_bl I q dec_byt)
    | _ => exact absurd (show false = true from hs) Bool.false_ne_true
  | _ => cases y <;> exact absurd (show false = true from hs) Bool.false_ne_true
theorem op_ne : OpR X (compareOp .NotEq) rNe := by
  intro pins s σ H x y v u Q I rx ry h
  obtain ⟨hs, q⟩ := h
  cases x with
  | non =>
    cases rx
    cases y with
    | non => cases ry; exact PySem.EqNone.ne_none_none (fin_bl I q (by simp))
    | bl j => cases ry; exact PySem.EqNone.ne_none_bool (fin_bl I q (by simp))
    | int j => obtain ⟨t', rfl⟩ := ry; exact PySem.EqNone.ne_none_int (fin_bl I q (by simp))
    | str j => obtain ⟨t', rfl⟩ := ry; exact PySem.EqNone.ne_none_str (fin_bl I q (by simp))
    | _ => exact absurd (show false = true from hs) Bool.false_ne_true
  | bl i =>
    cases rx
    cases y with
    | non => cases ry; exact PySem.EqNone.ne_bool_none (fin_bl I q (by simp))
    | bl j => cases ry; exact ne_bool (fin_bl I q (congrArg not dec_bl))
    | str j => obtain ⟨t', rfl⟩ := ry; exact PySem.EqMixed.ne_bool_str (fin_bl I q (by simp))
    | _ => exact absurd (show false = true from hs) Bool.false_ne_true
  | int i =>
    obtain ⟨t, rfl⟩ := rx
    cases y with
    | non => cases ry; exact PySem.EqNone.ne_int_none (fin_bl I q (by simp))
    | int j => obtain ⟨t', rfl⟩ := ry; exact ne_int (fin_bl I q (congrArg not dec_int))
    | str j => obtain ⟨t', rfl⟩ := ry; exact PySem.EqMixed.ne_int_str (fin_bl I q (by simp))
    | _ => exact absurd (show false = true from hs) Bool.false_ne_true
  | str i =>
    obtain ⟨t, rfl⟩ := rx
    cases y with
    | non => cases ry; exact PySem.EqNone.ne_str_none (fin_bl I q (by simp))
    | bl j => cases ry; exact PySem.EqMixed.ne_str_bool (fin_bl I q (by simp))
    | int j => obtain ⟨t', rfl⟩ := ry; exact PySem.EqMixed.ne_str_int (fin_bl I q (by simp))
    | str j => obtain ⟨t', rfl⟩ := ry; exact ne_str (fin_bl I q (congrArg not dec_str))
    | _ => exact absurd (show false = true from hs) Bool.false_ne_true
  | byt i =>
    obtain ⟨t, rfl⟩ := rx
    cases y with
    | byt j => obtain ⟨t', rfl⟩ := ry; exact PySem.W.ne_bytes (fin_bl I q (congrArg not dec_byt))
    | _ => exact absurd (show false = true from hs) Bool.false_ne_true
  | _ => cases y <;> exact absurd (show false = true from hs) Bool.false_ne_true

theorem op_lt : OpR X (compareOp .Lt) (rI0 fun i j => .bl (decide (i < j))) := opB0 fun _ _ _ _ _ _ _ q => lt_int q
theorem op_le : OpR X (compareOp .LtE) (rI0 fun i j => .bl (decide (i ≤ j))) := opB0 fun _ _ _ _ _ _ _ q => le_int q
theorem op_gt : OpR X (compareOp .Gt) (rI0 fun i j => .bl (decide (j < i))) := opB0 fun _ _ _ _ _ _ _ q => gt_int q
theorem op_ge : OpR X (compareOp .GtE) (rI0 fun i j => .bl (decide (j ≤ i))) := opB0 fun _ _ _ _ _ _ _ q => ge_int q
/-- is None, is not None: the right side a value none -/
theorem op_isN : OpR X (compareOp .Is) (fun x y H Q => y = .non ∧ Q (.bl (decide (x = .non))) H) := by
  intro pins s σ H x y v u Q I rx ry h
  obtain ⟨rfl, q⟩ := h
  cases ry
  refine is_none_gen (fin_bl I q ?_)
  cases x <;> first
    | (cases rx; rfl)
    | (obtain ⟨t, rfl⟩ := rx; rfl)
/-- is, is not of two objects that are tracked lists or instances -/
def isObj : HO → Bool
  | .lst _ => true
  | .ins _ _ _ => true
  | _ => false
/-- two rules for one operation: by cases -/
theorem OpR.or {f : Value → Value → Sem Value} {r r' : R2} (h : OpR X f r) (h' : OpR X f r') : OpR X f (fun x y H Q => r x y H Q ∨ r' x y H Q) := by
  intro pins s σ H x y v u Q I rx ry q
  rcases q with q | q
  · exact h pins s σ H x y v u Q I rx ry q
  · exact h' pins s σ H x y v u Q I rx ry q

theorem nomark (b : Expr) {op : CmpOp} (h : op ≠ .In := by decide) (h2 : op ≠ .NotIn := by decide) : behindInMarks op b = false := by
  have e1 : (op == CmpOp.In) = false := by cases op <;> first | rfl | exact absurd rfl h
  have e2 : (op == CmpOp.NotIn) = false := by cases op <;> first | rfl | exact absurd rfl h2
  cases b <;> simp [behindInMarks, e1, e2]
/-- a comparison as a value; hm: nomark b, or (for in, not in) by with_unfolding_all rfl -/
theorem pe_cmpR {op : CmpOp} {r : R2} (ho : OpR X (compareOp op) r) (ha : PE X a ta) (hb : PE X b tb) (hm : behindInMarks op b = false) : PE X (.Compare a [op] [b] pos) (tOp r ta tb) := .mk <| by
  intro pins s σ H Q I h
  exact wpAny_Compare1 (binT ha hb I h fun v u s2 x y H2 I2 rx ry q => ho pins s2 σ H2 x y v u Q I2 rx ry q) hm
/-- a reading of a value as a test -/
def tTest (t : TE) : TT := fun σ H Q => t σ H fun x H' => ∃ k, x = .bl k ∧ Q k H'
theorem pt_cmpR {op : CmpOp} {r : R2} (ho : OpR X (compareOp op) r) (ha : PE X a ta) (hb : PE X b tb) (hm : behindInMarks op b = false) : PT X (.Compare a [op] [b] pos) (tTest (tOp r ta tb)) := by
  intro pins s σ H Q I h
  refine wpAny_isTrue_Compare1 (thn (ha pins s σ H _ I h) fun v s1 ⟨x, H1, I1, r1, q1⟩ => thn (hb pins s1 σ H1 _ I1 q1) fun u s2 ⟨y, H2, I2, r2, q2⟩ =>
    thn (ho pins s2 σ H2 x y v u _ I2 r1 r2 q2) fun c s3 ⟨z, H3, I3, r3, k, e, q3⟩ => ?_) hm
  subst e
  cases r3
  exact wpAny_truthy_bool ⟨H3, I3, q3⟩
/-- a op1 b op2 c -/
def tChain (r r' : R2) (ta tb tc : TE) : TE := fun σ H Q => ta σ H fun x H1 => tb σ H1 fun y H2 => r x y H2 fun z H3 => ∃ k, z = .bl k ∧
  (if k = true then tc σ H3 fun w' H4 => r' y w' H4 Q else Q (.bl false) H3)
theorem pe_chain {op op' : CmpOp} {r r' : R2} (ho : OpR X (compareOp op) r) (ho' : OpR X (compareOp op') r') (ha : PE X a ta) (hb : PE X b tb) (hc : PE X c tc)
    (hm : lastMarks [op, op'] [b, c] = false := by with_unfolding_all rfl) : PE X (.Compare a [op, op'] [b, c] pos) (tChain r r' ta tb tc) := .mk <| by
  intro pins s σ H Q I h
  refine Compare_chain (thn (ha pins s σ H _ I h) fun v s1 ⟨x, H1, I1, r1, q1⟩ => chain_link (thn (hb pins s1 σ H1 _ I1 q1) fun u s2 ⟨y, H2, I2, r2, q2⟩ =>
    thn (ho pins s2 σ H2 x y v u _ I2 r1 r2 q2) fun d s3 ⟨z, H3, I3, r3, k, e, q3⟩ => ?_)) hm
  subst e
  cases r3
  refine wpAny_truthy_bool ?_
  cases k with
  | false => exact ite_ff ⟨.bl false, H3, I3, rfl, q3⟩
  | true => exact ite_tt (chain_last (thn (hc pins s3 σ H3 _ I3 q3) fun w' s4 ⟨z', H4, I4, r4, q4⟩ => ho' pins s4 σ H4 y z' u w' Q I4 r2 r4 q4))
/-! ### truth -/
/-- a value's truth by the abstract heap -/
def TruV (K : PySem.W.Frag) (x : V) (H : Hp) (k : Bool) : Prop :=
  match x with
  | .non => k = false
  | .bl b => k = b
  | .int i => k = (i != 0)
  | .str y => y.length ≤ sizeLine ∧ k = ((y.length : Int) != 0)
  | .byt y => y.size ≤ sizeLine ∧ k = ((y.size : Int) != 0)
  | .ref p => (∃ xs, SqL K H p xs ∧ k = !xs.isEmpty) ∨ (∃ xs, SqT K H p xs ∧ k = !xs.isEmpty) ∨ ∃ kvs, H p = some (.dK kvs) ∧ k = !kvs.isEmpty
  | _ => False
theorem isEmpty_kv {κ : Type} {kvs : List (κ × V)} {vs : List (κ × Value)} (r : KV kvs vs) : (!vs.isEmpty) = !kvs.isEmpty := by
  cases r <;> rfl
theorem isEmpty_of {xs : List V} {its : List Value} (r : Vals xs its) : (!its.toArray.isEmpty) = !xs.isEmpty := by
  cases r <;> simp
theorem line63 : (sizeLine : Nat) < 2 ^ 63 := by rw [sizeLine_eq]; decide
theorem tru_ok : TruR X (fun x H Q => ∃ k, TruV X.K x H k ∧ Q k H) := by
  intro pins s σ H x v Q I rx h
  obtain ⟨k, e, q⟩ := h
  have hl := line63
  have hs : sizeLine = 16777216 := sizeLine_eq
  cases x with
  | non =>
    cases rx
    have e' : k = false := e
    subst e'
    exact truthy_none ⟨H, I, q⟩
  | bl b =>
    cases rx
    have e' : k = b := e
    subst e'
    exact wpAny_truthy_bool ⟨H, I, q⟩
  | int i =>
    obtain ⟨t, rfl⟩ := rx
    have e' : k = (i != 0) := e
    subst e'
    exact PySem.P.truthy_int ⟨H, I, q⟩
  | str y =>
    obtain ⟨t, rfl⟩ := rx
    obtain ⟨hy, e'⟩ : y.length ≤ sizeLine ∧ k = ((y.length : Int) != 0) := e
    subst e'
    exact PySem.P.truthy_str (by omega) ⟨H, I.tok _, q⟩
  | byt y =>
    obtain ⟨t, rfl⟩ := rx
    obtain ⟨hy, e'⟩ : y.size ≤ sizeLine ∧ k = ((y.size : Int) != 0) := e
    subst e'
    exact PySem.W.truthy_bytes (by omega) ⟨H, I.tok _, q⟩
  | ref p =>
    cases rx
    have e' : (∃ xs, SqL X.K H p xs ∧ k = !xs.isEmpty) ∨ (∃ xs, SqT X.K H p xs ∧ k = !xs.isEmpty) ∨ ∃ kvs, H p = some (.dK kvs) ∧ k = !kvs.isEmpty := e
    rcases e' with ⟨xs, hx, e'⟩ | ⟨xs, hx, e'⟩ | ⟨kvs, hx, e'⟩
    · subst e'
      obtain ⟨its, r, pl, hz⟩ := I.list hx
      have hlen := r.length
      exact wpAny_truthy_list pl.isList (by simp only [List.size_toArray]; omega) ⟨H, I.tok _, by rw [isEmpty_of r]; exact q⟩
    · subst e'
      obtain ⟨its, r, pl, hz⟩ := I.tuple hx
      have hlen := r.length
      exact truthy_tuple pl (by simp only [List.size_toArray]; omega) ⟨H, I.tok _, by rw [isEmpty_of r]; exact q⟩
    · subst e'
      obtain ⟨hz, hS, vs, r, m⟩ : kvs.length ≤ sizeLine ∧ (p == sysModules) = false ∧ ∃ vs, KV kvs vs ∧ s.heap.DictOf (mixKind X.prog X.w) p vs := I.hok p _ hx
      have hlen : kvs.length = vs.length := Paired.length r
      exact wpAny_truthy_dict hS m (by omega) ⟨H, I.tok _, by rw [isEmpty_kv r]; exact q⟩
  | _ => exact (show False from e).elim
/-- any expression whose test is its value's truth (a name, a call, a subscript, a field ..: he by fun _ => rfl) -/
theorem pt_truth (ha : PE X a ta) (he : ∀ whole, isTrue a X.env whole = (do let v ← whole; standAt a.pos; holding [v] (truthy v))) :
    PT X a (fun σ H Q => ta σ H fun x H' => ∃ k, TruV X.K x H' k ∧ Q k H') := by
  intro pins s σ H Q I h
  exact isTrue_plain (thn (ha pins s σ H _ I h) fun v s1 ⟨x, H1, I1, r1, q1⟩ => tru_ok pins s1 σ H1 x v Q I1 r1 q1) (he _)

/-! ### strs and bytes -/
def PlainIxT (b : Expr) : Prop := ∀ o i, subscripted b false o i = operate [o, i] (getItem o i)
/-! ### scalar builtins, by CallR -/
theorem vals1 {x : V} {us : List Value} (r : Vals [x] us) : ∃ u, us = [u] ∧ RelV x u := by
  cases r with
  | cons r1 r2 => cases r2; exact ⟨_, rfl, r1⟩
theorem vals2 {x y : V} {us : List Value} (r : Vals [x, y] us) : ∃ u w', us = [u, w'] ∧ RelV x u ∧ RelV y w' := by
  cases r with
  | cons r1 r2 =>
    cases r2 with
    | cons r3 r4 => cases r4; exact ⟨_, _, rfl, r1, r3⟩
theorem call_abs : CallR X (.builtin "abs") (fun xs H Q => ∃ i, xs = [.int i] ∧ Q (.int (if i < 0 then -i else i)) H) := by
  intro pins s σ H xs us Q I r h
  obtain ⟨i, rfl, q⟩ := h
  obtain ⟨u, rfl, t, rfl⟩ := vals1 r
  exact call_abs_int fun u tk => ⟨.int (if i < 0 then -i else i), H, I.tok _, ⟨_, rfl⟩, q⟩
theorem call_max2 (hc : X.calm = true) : CallR X (.builtin "max") (fun xs H Q => ∃ i j, xs = [.int i, .int j] ∧ Q (.int (if j > i then j else i)) H) := by
  intro pins s σ H xs us Q I r h
  obtain ⟨i, j, rfl, q⟩ := h
  obtain ⟨u, w', rfl, ⟨t, rfl⟩, ⟨t', rfl⟩⟩ := vals2 r
  refine max_two_ints (I.ok.hd hc) fun h' tk k => ⟨_, H, I.kept k, ?_, q⟩
  by_cases hj : j > i
  · rw [if_pos hj, if_pos hj]; exact ⟨_, rfl⟩
  · rw [if_neg hj, if_neg hj]; exact ⟨_, rfl⟩
theorem call_min2 (hc : X.calm = true) : CallR X (.builtin "min") (fun xs H Q => ∃ i j, xs = [.int i, .int j] ∧ Q (.int (if j < i then j else i)) H) := by
  intro pins s σ H xs us Q I r h
  obtain ⟨i, j, rfl, q⟩ := h
  obtain ⟨u, w', rfl, ⟨t, rfl⟩, ⟨t', rfl⟩⟩ := vals2 r
  refine min_two_ints (I.ok.hd hc) fun h' tk k => ⟨_, H, I.kept k, ?_, q⟩
  by_cases hj : j < i
  · rw [if_pos hj, if_pos hj]; exact ⟨_, rfl⟩
  · rw [if_neg hj, if_neg hj]; exact ⟨_, rfl⟩
theorem call_int1 : CallR X (.type "int") (fun xs H Q => (∃ i, xs = [.int i] ∧ Q (.int i) H) ∨ ∃ k, xs = [.bl k] ∧ Q (.int (if k then 1 else 0)) H) := by
  intro pins s σ H xs us Q I r h
  rcases h with ⟨i, rfl, q⟩ | ⟨k, rfl, q⟩
  · obtain ⟨u, rfl, t, rfl⟩ := vals1 r
    exact call_int_int ⟨.int i, H, I, ⟨_, rfl⟩, q⟩
  · obtain ⟨u, rfl, r1⟩ := vals1 r
    cases r1
    exact call_int_bool ⟨.int (if k then 1 else 0), H, I.tok _, ⟨_, rfl⟩, q⟩
/-- len of a str, a bytes, a list, a tuple -/
def LenV (K : PySem.W.Frag) (x : V) (H : Hp) (n : Nat) : Prop :=
  match x with
  | .str y => y.length ≤ sizeLine ∧ n = y.length
  | .byt y => y.size ≤ sizeLine ∧ n = y.size
  | .ref p => (∃ xs, SqL K H p xs ∧ n = xs.length) ∨ ∃ xs, SqT K H p xs ∧ n = xs.length
  | _ => False
theorem call_len : CallR X (.builtin "len") (fun xs H Q => ∃ x n, xs = [x] ∧ LenV X.K x H n ∧ Q (.int n) H) := by
  intro pins s σ H xs us Q I r h
  obtain ⟨x, n, rfl, e, q⟩ := h
  obtain ⟨u, rfl, rx⟩ := vals1 r
  have hl := line63
  have hs : sizeLine = 16777216 := sizeLine_eq
  cases x with
  | str y =>
    obtain ⟨t, rfl⟩ := rx
    obtain ⟨hy, e'⟩ : y.length ≤ sizeLine ∧ n = y.length := e
    subst e'
    exact len_str (by omega) ⟨.int _, H, I.tok _, ⟨_, rfl⟩, q⟩
  | byt y =>
    obtain ⟨t, rfl⟩ := rx
    obtain ⟨hy, e'⟩ : y.size ≤ sizeLine ∧ n = y.size := e
    subst e'
    exact PySem.W.len_bytes (by omega) ⟨.int _, H, I.tok _, ⟨_, rfl⟩, q⟩
  | ref p =>
    cases rx
    have e' : (∃ xs, SqL X.K H p xs ∧ n = xs.length) ∨ ∃ xs, SqT X.K H p xs ∧ n = xs.length := e
    rcases e' with ⟨xs, hx, e'⟩ | ⟨xs, hx, e'⟩
    · subst e'
      obtain ⟨its, r', pl, hz⟩ := I.list hx
      have hlen := r'.length
      exact Calls.call_len_list pl.isList (by simp only [List.size_toArray]; omega) ⟨.int xs.length, H, I.tok _, ⟨_, by simp only [List.size_toArray]; rw [hlen]⟩, q⟩
    · subst e'
      obtain ⟨its, r', pl, hz⟩ := I.tuple hx
      have hlen := r'.length
      exact len_tuple pl (by simp only [List.size_toArray]; omega) ⟨.int xs.length, H, I.tok _, ⟨_, by simp only [List.size_toArray]; rw [hlen]⟩, q⟩
  | _ => exact (show False from e).elim
end
end L2

namespace L2
open PySem PySem.Spec PyProof.Rows

/-! ### an instance, its attributes a map -/
structure ObjM (h : Heap) (x dx C : Addr) (mA : Str → Option Value) : Prop where
  obj : h.get? x = some (PySem.W.instObj C dx)
  ns : h.Ns1 dx mA
  ne : dx ≠ x

theorem lookIn_ns {h : Heap} {dx : Addr} {mA : Str → Option Value} (n : h.Ns1 dx mA) : ∃ od, h.get? dx = some od ∧ ∀ name, PySem.W.lookIn name od = some (mA name) := by
  obtain ⟨o, es, ep, ho, hd, hk, _, hm⟩ := n
  refine ⟨o, ho, fun name => ?_⟩
  have e := hm name
  unfold nsFind findBy at e
  rw [← Array.find?_toList] at e
  unfold PySem.W.lookIn
  rw [hd]
  dsimp only
  split
  · rename_i y q
    rw [q] at e
    exact congrArg some e
  · rename_i q
    rw [q] at e
    have a : es.toList.any (·.refKey) = false := by
      rw [List.any_eq_false]
      intro y hy
      obtain ⟨z, t, hkey⟩ := hk y (Array.mem_toList_iff.mp hy)
      simp [DictEntry.refKey, hkey]
    have a' : ¬ es.toList.any (·.refKey) = true := by rw [a]; exact Bool.false_ne_true
    rw [if_neg a']
    exact congrArg some e

theorem ObjM.look {h : Heap} {x dx C : Addr} {mA : Str → Option Value} (I : ObjM h x dx C mA) : ∃ od, PySem.W.InstAt h x (PySem.W.instObj C dx) C (some od) ∧ ∀ name, PySem.W.lookIn name od = some (mA name) :=
  let ⟨od, ho, hl⟩ := lookIn_ns I.ns
  ⟨od, ⟨I.obj, rfl, rfl, ho⟩, hl⟩

section
variable {prog : Program} {w : World} {A : Around} {E : Value → Shared → Prop} {s : Shared} {K : PySem.W.Frag} {x dx C f : Addr} {mA : Str → Option Value} {name : Str} {v : Value}

end

/-! ### the attributes as a list of pairs -/
def putF (f : Str) (v : V) : List (Str × V) → List (Str × V)
  | [] => [(f, v)]
  | (g, x) :: r => if g = f then (g, v) :: r else (g, x) :: putF f v r
theorem RelO.some_of {v : V} {o : Option Value} (r : RelO (some v) o) : ∃ u, o = some u ∧ RelV v u := by
  cases o with
  | none => exact (show False from r).elim
  | some u => exact ⟨u, rfl, r⟩
theorem RelO.none_of {o : Option Value} (r : RelO none o) : o = none := by
  cases o with
  | none => rfl
  | some u => exact (show False from r).elim
section
variable {P : Program} {w : World} {H H' : Hp} {h h' : Heap} {a C dx : Addr} {fs fs' : List (Str × V)}
theorem ins_get (hok : HOk P w H h) (e : H a = some (.ins C dx fs)) : ∃ mA, ObjM h a dx C mA ∧ (∀ f, RelO (fs.lookup f) (mA f)) ∧ PySem.Within mA (fs.map (·.1)) ∧ fs.length ≤ 1000 ∧ H dx = some (.own a) := by
  obtain ⟨d, z, ne, ob, mA, n, r, q⟩ := (show ObjOk P w H h a (.ins C dx fs) from hok a _ e)
  exact ⟨mA, ⟨ob, n, ne⟩, r, q, z, d⟩
end

/-! ### what of the text a class must have -/
structure Cls (K : PySem.W.Frag) (C : Addr) : Prop where
  pg : PySem.W.plainGet K C Str.empty = true
  hd : PySem.W.hasDictIn K C = true
  po : PySem.W.plainOver K C = true
  sa : PySem.W.findIn K (.ref C) "__setattr__" = some (some (.builtin "object.__setattr__"))
theorem Cls.get {K : PySem.W.Frag} {C : Addr} (c : Cls K C) (f : Str) : PySem.W.plainGet K C f = true := c.pg
/-- no class of it has the name -/
def NoAttr (K : PySem.W.Frag) (C : Addr) (f : Str) : Prop := PySem.W.findIn K (.ref C) f = some none
/-- a constant of the class -/
structure Con (K : PySem.W.Frag) (C : Addr) (f : Str) (v : V) (u : Value) : Prop where
  at_ : PySem.W.findIn K (.ref C) f = some (some u)
  rel : RelV v u
  get : PySem.W.specialIn K u "__get__" = some none
  cp : PySem.W.copiedNames.contains f = false
/-- a method: a plain def of the class or of one above it -/
structure Meth (K : PySem.W.Frag) (C : Addr) (m : Str) (f : Addr) : Prop where
  at_ : PySem.W.findIn K (.ref C) m = some (some (.ref f))
  fn : PySem.W.isFn K (.ref f) = true
  kp : PySem.W.keepIn K (.ref f) = true

section
variable {X : Cx} {pins : List (Addr × Obj)} {σ : St} {H : Hp} {s : Shared} {a C dx : Addr} {fs : List (Str × V)} {f : Str} {v : V} {A : Around} {E : Value → Shared → Prop}

/-- a new instance, tracked, without attributes -/
theorem Inv.made (I : Inv X pins σ H s) : Inv X pins σ (upd (upd H s.heap.objs.size (.own (s.heap.objs.size + 1))) (s.heap.objs.size + 1) (.ins C s.heap.objs.size []))
    { s with heap := (s.heap.push PySem.W.emptyDict).push (PySem.W.instObj C s.heap.objs.size) } := by
  have e1 : (s.heap.push PySem.W.emptyDict).get? s.heap.objs.size = some PySem.W.emptyDict := Heap.get?_push_size s.heap rfl
  have e2 : ((s.heap.push PySem.W.emptyDict).push (PySem.W.instObj C s.heap.objs.size)).get? (s.heap.objs.size + 1) = some (PySem.W.instObj C s.heap.objs.size) := by
    have := Heap.get?_push_size (s.heap.push PySem.W.emptyDict) (o := PySem.W.instObj C s.heap.objs.size) rfl
    rwa [Heap.size_push] at this
  have e3 : (s.heap.push PySem.W.emptyDict).Ns s.heap.objs.size (fun _ => none) := ⟨PySem.W.emptyDict, #[], _, e1, rfl, (fun e he => absurd he (by simp)), fun _ => rfl⟩
  have I1 := I.laid (a := s.heap.objs.size) (o := .own (s.heap.objs.size + 1)) (h' := s.heap.push PySem.W.emptyDict) (t' := s.toks) (fun b u q => Heap.get?_push_of_some _ q) (Nat.le_refl _) ⟨_, e1⟩
  refine I1.laid (a := s.heap.objs.size + 1) (o := .ins C s.heap.objs.size []) (t' := s.toks) (fun b u q => Heap.get?_push_of_some _ q) (Nat.le_of_eq (Heap.size_push _ _)) ?_
  have ne : s.heap.objs.size ≠ s.heap.objs.size + 1 := Nat.ne_of_lt (Nat.lt_succ_self _)
  refine ⟨by rw [upd_ne ne, upd_same], Nat.zero_le _, ne, e2, fun _ => none, (Heap.Ns1.of_empty e3).at fun o q => Heap.get?_push_of_some _ q, fun _ => True.intro, fun y hy => absurd rfl hy⟩

end

/-! ### readings and rules -/
/-- e.f, an attribute of the instance -/
def tFld (K : PySem.W.Frag) (ta : TE) (f : Str) : TE := fun σ H Q => ta σ H fun x H1 => ∃ a C dx fs v, x = .ref a ∧ H1 a = some (.ins C dx fs) ∧ Cls K C ∧ NoAttr K C f ∧ fs.lookup f = some v ∧ Q v H1
/-- e.f, a constant of the class -/
def tCon (K : PySem.W.Frag) (ta : TE) (f : Str) : TE := fun σ H Q => ta σ H fun x H1 => ∃ a C dx fs v u, x = .ref a ∧ H1 a = some (.ins C dx fs) ∧ Cls K C ∧ Con K C f v u ∧ fs.lookup f = none ∧ Q v H1
/-- e.f = value -/
def sFld (K : PySem.W.Frag) (ta tv : TE) (f : Str) : TS := fun D σ H => tv σ H fun y H1 => ta σ H1 fun x H2 => ∃ a C dx fs, x = .ref a ∧ H2 a = some (.ins C dx fs) ∧ Cls K C ∧ NoAttr K C f ∧ fs.length < 1000 ∧
  D.nx σ (upd H2 a (.ins C dx (putF f y fs)))
/-- an augmented operator on two values -/
def InOp (X : Cx) (op : Operator) (rd : V → V → Hp → VK → Prop) : Prop :=
  ∀ (pins : List (Addr × Obj)) (s : Shared) (σ : St) (H : Hp) (x y : V) (u v : Value) (Q : VK), Inv X pins σ H s → RelV x u → RelV y v → rd x y H Q → wpAny (model X.prog X.w) X.A (inplaceOp op u v) (EP X pins σ Q) X.xe s
/-- e.f op= value -/
def sFldAug (K : PySem.W.Frag) (ta tv : TE) (rd : V → V → Hp → VK → Prop) (f : Str) : TS := fun D σ H => ta σ H fun x H1 => ∃ a C dx fs v, x = .ref a ∧ H1 a = some (.ins C dx fs) ∧ Cls K C ∧ NoAttr K C f ∧ fs.lookup f = some v ∧
  tv σ H1 fun y H2 => rd v y H2 fun z H3 => ∃ dx' fs', H3 a = some (.ins C dx' fs') ∧ fs'.length < 1000 ∧ D.nx σ (upd H3 a (.ins C dx' (putF f z fs')))

section
variable {X : Cx} {o e value : Expr} {f : Str} {pos pos' tpos : Pos} {ta tv : TE}
def rAdd : V → V → Hp → VK → Prop := fun x y H Q => ∃ i j, x = .int i ∧ y = .int j ∧ Q (.int (i + j)) H
def rSub : V → V → Hp → VK → Prop := fun x y H Q => ∃ i j, x = .int i ∧ y = .int j ∧ Q (.int (i - j)) H
end

/-! ### isinstance -/
section
variable {X : Cx} {pins : List (Addr × Obj)} {σ : St} {H : Hp} {s : Shared} {A : Around} {E : Value → Shared → Prop} {Q : Value → Shared → Prop} {c : Value} {b : Bool}
/-- the type of a value, as the fragment's deciders take it; for an instance its class -/
inductive TyOf (K : PySem.W.Frag) (H : Hp) : V → Value → Prop where
  | non : TyOf K H .non (.type "NoneType")
  | bl (x : Bool) : TyOf K H (.bl x) (.type "bool")
  | int (i : Int) : TyOf K H (.int i) (.type "int")
  | str (x : Str) : TyOf K H (.str x) (.type "str")
  | flt (x : UInt64) : TyOf K H (.flt x) (.type "float")
  | lst {a : Addr} {xs : List V} (e : H a = some (.lst xs)) : TyOf K H (.ref a) (.type "list")
  | frz {a : Addr} {o : Obj} {xs : List V} (e : H a = some (.frz o (.lst xs))) : TyOf K H (.ref a) (.type "list")
  | tup {a : Addr} {xs : List V} (e : H a = some (.tup xs)) : TyOf K H (.ref a) (.type "tuple")
  | dK {a : Addr} {kvs : List (Key × V)} (e : H a = some (.dK kvs)) : TyOf K H (.ref a) (.type "dict")
  | dT {a : Addr} {kvs : List (List Key × V)} (e : H a = some (.dT kvs)) : TyOf K H (.ref a) (.type "dict")
  | ins {a C dx : Addr} {fs : List (Str × V)} (e : H a = some (.ins C dx fs)) (cl : Cls K C) (ha : PySem.W.findIn K (.ref C) "__class__" = some (some (.builtin "object.__class__")))
      (hn : PySem.W.specialIn K (.builtin "object.__class__") "__get__" = some (some (.builtin "getset_descriptor.__get__"))) (htk : PySem.W.takesIn K (.builtin "object.__class__") = some true)
      (hm : PySem.W.mroIn K C (.type "object") = some true) : TyOf K H (.ref a) (.ref C)
/-- isinstance(x, c) for one class c, a built-in or an own one: kitOne's answer -/
theorem isinst_ok {x : V} {u t : Value} (I : Inv X pins σ H s) (rx : RelV x u) (ty : TyOf X.K H x t) (e : PySem.W.kitOne X.K t c = some b) (h : ∀ tk, Q (.bool b) { s with toks := tk }) :
    wpAny (model X.prog X.w) A (call (.builtin "isinstance") [u, c]) Q E s := by
  cases ty with
  | non => cases (show u = Value.none from rx); exact PySem.W.kia_one PySem.W.kitx_none I.kIn True.intro e (fun z => nomatch z) h
  | bl y => cases (show u = Value.bool y from rx); exact PySem.W.kia_one PySem.W.kitx_bool I.kIn True.intro e (fun z => nomatch z) h
  | int i => obtain ⟨t, q⟩ := (show ∃ t, u = Value.int i t from rx); cases q; exact PySem.W.kia_one PySem.W.kitx_int I.kIn True.intro e (fun z => nomatch z) h
  | str y => obtain ⟨t, q⟩ := (show ∃ t, u = Value.str y t from rx); cases q; exact PySem.W.kia_one PySem.W.kitx_str I.kIn True.intro e (fun z => nomatch z) h
  | flt y => obtain ⟨t, q⟩ := (show ∃ t, u = Value.float y t from rx); cases q; exact PySem.W.kia_one PySem.W.kitx_float I.kIn True.intro e (fun z => nomatch z) h
  | @lst a xs ea =>
    cases (show u = Value.ref a from rx)
    obtain ⟨_, _, n, _, h1⟩ := (show ObjOk X.prog X.w H s.heap a (.lst xs) from I.hok a _ ea)
    exact PySem.W.kia_one PySem.W.kitx_list I.kIn ⟨_, h1, rfl⟩ e (fun z => nomatch z) h
  | @frz a ob xs ea =>
    cases (show u = Value.ref a from rx)
    obtain ⟨_, _, _, n, _, h1⟩ := (show ObjOk X.prog X.w H s.heap a (.frz ob (.lst xs)) from I.hok a _ ea)
    exact PySem.W.kia_one PySem.W.kitx_list I.kIn ⟨_, h1, rfl⟩ e (fun z => nomatch z) h
  | @tup a xs ea =>
    cases (show u = Value.ref a from rx)
    obtain ⟨_, _, _, p⟩ := (show ObjOk X.prog X.w H s.heap a (.tup xs) from I.hok a _ ea)
    obtain ⟨o, h1, h2, _⟩ := p
    exact PySem.W.kia_one PySem.W.kitx_tuple I.kIn ⟨o, h1, h2⟩ e (fun z => nomatch z) h
  | @dK a kvs ea =>
    cases (show u = Value.ref a from rx)
    obtain ⟨_, _, vs, _, p⟩ := (show ObjOk X.prog X.w H s.heap a (.dK kvs) from I.hok a _ ea)
    obtain ⟨o, es, ep, h1, h2, _⟩ := p
    exact PySem.W.kia_one PySem.W.kitx_dict I.kIn ⟨o, h1, h2.1⟩ e (fun z => nomatch z) h
  | @dT a kvs ea =>
    cases (show u = Value.ref a from rx)
    obtain ⟨_, _, xs, _, o, es, ep, h1, h2, _⟩ := (show ObjOk X.prog X.w H s.heap a (.dT kvs) from I.hok a _ ea)
    exact PySem.W.kia_one PySem.W.kitx_dict I.kIn ⟨o, h1, h2.1⟩ e (fun z => nomatch z) h
  | @ins a C dx fs ea cl ha hn htk hm =>
    cases (show u = Value.ref a from rx)
    obtain ⟨mA, O, _⟩ := ins_get I.hok ea
    obtain ⟨od, J, _⟩ := O.look
    exact PySem.W.kia_one (PySem.W.kitx_own (cl.get _) cl.hd ha hn htk hm) I.kIn J e (fun z => nomatch z) h
end
end L2

namespace L2
open PySem PySem.Spec PyProof.Rows

/-! ### room -/
structure Room (k : Nat) (A : Around) : Prop where
  hd : A.handled = none
  dp : A.depth + 3 * k + 5 < recursionLimit
  un : A.units + 16 * k + 200 < cLine
  gd : A.guards = some []
theorem Room.mono {j k : Nat} {A : Around} (r : Room k A) (h : j ≤ k) : Room j A := ⟨r.hd, by have := r.dp; omega, by have := r.un; omega, r.gd⟩
theorem Room.deeper {k : Nat} {A : Around} (r : Room (k + 1) A) (env : Env) : Room k (A.deeper env) :=
  ⟨r.hd, by have := r.dp; show A.depth + 1 + 3 * k + 5 < _; omega, by have := r.un; show A.units + 3 + 16 * k + 200 < _; omega, r.gd⟩
theorem Room.in1 {k : Nat} {A : Around} (r : Room (k + 1) A) : Room k A.in1 :=
  ⟨r.hd, by have := r.dp; show A.depth + 3 * k + 5 < _; omega, by have := r.un; show A.units + 1 + 16 * k + 200 < _; omega, r.gd⟩
theorem make_depth {A : Around} {C : Addr} {us : List Value} {kw : List (Str × Value)} : (A.under (.builtin "type.__call__" ⟨.ref C :: us, kw⟩)).depth = A.depth + 1 := by
  first | rfl | simp [Around.under, Code.weight, Code.isCreation, Code.isGuard, Code.isCaller, Code.frames, Code.isFrame, guardIds]
theorem make_units {A : Around} {C : Addr} {us : List Value} {kw : List (Str × Value)} : (A.under (.builtin "type.__call__" ⟨.ref C :: us, kw⟩)).units = A.units + 1 := by
  first | rfl | simp [Around.under, Code.cUnits, Code.frames, Code.isFrame]
theorem Room.make {k : Nat} {A : Around} (r : Room (k + 1) A) (C : Addr) (us : List Value) (kw : List (Str × Value)) : Room k (A.under (.builtin "type.__call__" ⟨.ref C :: us, kw⟩)) :=
  ⟨r.hd, by have := r.dp; rw [make_depth]; omega, by have := r.un; rw [make_units]; omega, by first | exact r.gd | simpa [Around.under, Code.guards, Code.isGuard, guardIds, pushGuards] using r.gd⟩
theorem Room.depth {k : Nat} {A : Around} (r : Room k A) : A.depth < recursionLimit := by have := r.dp; omega
theorem Room.units {k : Nat} {A : Around} (r : Room k A) : A.units + 64 < cLine := by have := r.un; omega
/-! ### argument lists and displays -/
def tNil : TA := fun _ H Q => Q [] H
def tCons (ta : TE) (tr : TA) : TA := fun σ H Q => ta σ H fun x H1 => tr σ H1 fun xs H2 => Q (x :: xs) H2
section
variable {X : Cx} {e : Expr} {es : List Expr} {te : TE} {t : TA} {pos : Pos}
theorem pa_nil : PA X [] tNil := .mk <| fun _ _ _ _ H Q I h => Calls.spliced_nil ⟨[], H, I, .nil, h⟩
theorem pa_cons (ha : PE X e te) (hr : PA X es t) (hs : starEach (e :: es) X.env = (false, eval e X.env) :: starEach es X.env := by rfl) : PA X (e :: es) (tCons te t) := .mk <| by
  intro pos pins s σ H Q I h
  rw [hs]
  show wpAny _ _ (spliced ((false, eval e X.env) :: backTo pos (starEach es X.env))) _ _ s
  refine Calls.spliced_cons (thn (ha pins s σ H _ I h) fun u s1 ⟨x, H1, I1, r1, q1⟩ => ?_)
  exact thn (hr pos pins s1 σ H1 _ I1 q1) fun us s2 ⟨xs, H2, I2, r2, q2⟩ => ⟨x :: xs, H2, I2, .cons r1 r2, q2⟩

/-- a tuple, a list of written items -/
def tTup (t : TA) : TE := fun σ H Q => t σ H fun xs H1 => xs.length ≤ sizeLine ∧ ∀ p, H1 p = none → Q (.ref p) (upd H1 p (.tup xs))
def tLst (t : TA) : TE := fun σ H Q => t σ H fun xs H1 => xs.length ≤ sizeLine ∧ ∀ p, H1 p = none → Q (.ref p) (upd H1 p (.lst xs))
theorem pe_tup {x1} (h : PA X es t) : PE X (.Tuple es x1 pos) (tTup t) := .mk <| by
  intro pins s σ H Q I hq
  refine wpAny_Tuple_spliced (thn (h pos pins s σ H _ I hq) fun us s1 ⟨xs, H1, I1, r, z, q⟩ => ⟨by rw [← r.length]; exact z, ?_⟩)
  have hf : H1 s1.heap.objs.size = none := I1.hok.fresh (Nat.le_refl _)
  refine ⟨.ref s1.heap.objs.size, upd H1 s1.heap.objs.size (.tup xs), I1.laid (t' := s1.toks) (fun b u e => Heap.get?_push_of_some _ e) (Nat.le_refl _) ?_, rfl, q _ hf⟩
  exact ⟨z, us, r, ⟨_, Heap.get?_push_size _ rfl, rfl, _, rfl⟩⟩
theorem pe_lst (h : PA X es t) : PE X (.List es pos) (tLst t) := .mk <| by
  intro pins s σ H Q I hq
  refine wpAny_List_spliced (thn (h pos pins s σ H _ I hq) fun us s1 ⟨xs, H1, I1, r, z, q⟩ => ⟨by rw [← r.length]; exact z, ?_⟩)
  have hf : H1 s1.heap.objs.size = none := I1.hok.fresh (Nat.le_refl _)
  refine ⟨.ref s1.heap.objs.size, upd H1 s1.heap.objs.size (.lst xs), I1.laid (t' := s1.toks) (fun b u e => Heap.get?_push_of_some _ e) (Nat.le_refl _) ?_, rfl, q _ hf⟩
  exact ⟨z, us, 0, r, Heap.get?_push_size _ rfl⟩
end

/-! ### what a def promises -/
/-- a def's promise: the bound arguments in the parameters' order, the heap, the wanted end, the wanted exception -/
abbrev Sp := List V → Hp → VK → XK → Prop
/-- how an exception lies behind a call (file 08 gives it): the callers' frames, abstract heap and state ahead of the call, the wish, the exception, the state -/
abbrev CXT := List Env → Hp → Shared → XK → Value → Shared → Prop

/-- the state at a call -/
structure Env0 (P : Program) (w : World) (K : PySem.W.Frag) (mg : Str → Option Value) (base : Heap) (A : Around) (outer : List Env) (s : Shared) (H : Hp) : Prop where
  frames : A.frames = some outer
  mod : Mod K mg base
  bs : ∀ b o, base.get? b = some o → s.heap.get? b = some o ∧ H b = none
  bsz : base.objs.size ≤ s.heap.objs.size
  funs : s.heap.FunFrames base outer
  frf : ∀ b ∈ frs outer, H b = none
  tt : TabT K H
  hok : HOk P w H s.heap
  bare : AllBare s.gens
/-- a call's end -/
def CE (outer : List Env) (P : Program) (w : World) (H : Hp) (s : Shared) (Q : VK) (u : Value) (s' : Shared) : Prop :=
  ∃ v H', s'.os = s.os ∧ AllBare s'.gens ∧ Un (frs outer) [] H H' s.heap s'.heap ∧ HOk P w H' s'.heap ∧ RelV v u ∧ Q v H'
def CR (CX : CXT) (outer : List Env) (P : Program) (w : World) (H : Hp) (s : Shared) (Q : VK) (E : XK) (r : Result) (s' : Shared) : Prop :=
  match r with
  | .ok (.ret u) => CE outer P w H s Q u s'
  | .ok _ => False
  | .error e => CX outer H s E e s'
structure FnOk (P : Program) (w : World) (K : PySem.W.Frag) (mg : Str → Option Value) (base : Heap) (CX : CXT) (k : Nat) (f : Addr) (fd : FuncData) (ps : List Str) (sp : Sp) : Prop where
  len : ∀ vs H Q E, sp vs H Q E → vs.length = ps.length
  run : ∀ (A : Around) (outer : List Env) (s : Shared) (H : Hp) (args : Args) (us : List Value) (vs : List V) (Q : VK) (E : XK), Room k A → Env0 P w K mg base A outer s H → BindsTo s fd args (ps.zip us) → Vals vs us → sp vs H Q E →
    codeAny (model P w) A (.call (.ref f) args) (CR CX outer P w H s Q E) s
theorem FnOk.mono {P : Program} {w : World} {K : PySem.W.Frag} {mg : Str → Option Value} {base : Heap} {CX : CXT} {j k : Nat} {f : Addr} {fd : FuncData} {ps : List Str} {sp : Sp} (F : FnOk P w K mg base CX j f fd ps sp) (h : j ≤ k) :
    FnOk P w K mg base CX k f fd ps sp := ⟨F.len, fun A outer s H args us vs Q E hr => F.run A outer s H args us vs Q E (hr.mono h)⟩
/-- a weaker promise -/
theorem FnOk.imp {P : Program} {w : World} {K : PySem.W.Frag} {mg : Str → Option Value} {base : Heap} {CX : CXT} {k : Nat} {f : Addr} {fd : FuncData} {ps : List Str} {sp sp' : Sp} (F : FnOk P w K mg base CX k f fd ps sp)
    (h : ∀ vs H Q E, sp' vs H Q E → sp vs H Q E) : FnOk P w K mg base CX k f fd ps sp' :=
  ⟨fun vs H Q E q => F.len vs H Q E (h _ _ _ _ q), fun A outer s H args us vs Q E hr he hb hv hs => F.run A outer s H args us vs Q E hr he hb hv (h _ _ _ _ hs)⟩

theorem Env0.make {P : Program} {w : World} {K : PySem.W.Frag} {mg : Str → Option Value} {base : Heap} {A : Around} {outer : List Env} {s : Shared} {H : Hp} (e : Env0 P w K mg base A outer s H) (C : Addr) (us : List Value) (kw : List (Str × Value)) :
    Env0 P w K mg base (A.under (.builtin "type.__call__" ⟨.ref C :: us, kw⟩)) outer s H := ⟨by first | exact e.frames | (simpa [Around.under, Code.envs, Code.isFrame, pushEnvs] using e.frames), e.mod, e.bs, e.bsz, e.funs, e.frf, e.tt, e.hok, e.bare⟩
theorem Env0.in1 {P : Program} {w : World} {K : PySem.W.Frag} {mg : Str → Option Value} {base : Heap} {A : Around} {outer : List Env} {s : Shared} {H : Hp} (e : Env0 P w K mg base A outer s H) :
    Env0 P w K mg base A.in1 outer s H := ⟨e.frames, e.mod, e.bs, e.bsz, e.funs, e.frf, e.tt, e.hok, e.bare⟩

section
variable {X : Cx} {pins : List (Addr × Obj)} {σ : St} {H : Hp} {s s' : Shared}
/-- from a body: what a callee wants -/
theorem Inv.env0 (I : Inv X pins σ H s) : Env0 X.prog X.w X.K X.mg X.base X.A X.stack s H :=
  ⟨I.ok.frames, I.ok.mod, I.bs, Nat.le_trans I.ok.bsz I.sz, I.stack, I.stkFree, I.ok.tt.mono I.base.tbls, I.hok, I.bare⟩
/-- behind a call -/
theorem Inv.after {Q : VK} {u : Value} (I : Inv X pins σ H s) (h : CE X.stack X.prog X.w H s Q u s') : EP X pins σ Q u s' := by
  obtain ⟨v, H', os, bare, un, hok, r, q⟩ := h
  obtain ⟨hh, g, d, t, os'⟩ := s'
  obtain rfl : os' = s.os := os
  exact ⟨v, H', I.call (h' := hh) (g' := g) (d' := d) (t' := t) (ch := []) un hok bare (fun b z => absurd z (by simp)), r, q⟩
end

/-! ### calls -/
/-- f(..): the written arguments, then the defaults dvs; E: what is wanted of an exception -/
def tCall (sp : Sp) (dvs : List V) (E : XK) (t : TA) : TE := fun σ H Q => t σ H fun vs H1 => sp (vs ++ dvs) H1 Q E
/-- o.m(..) of an instance of the class at C -/
def tMeth (C : Addr) (m : Str) (sp : Sp) (dvs : List V) (E : XK) (ta : TE) (t : TA) : TE := fun σ H Q => ta σ H fun x H1 => ∃ a dx fs, x = .ref a ∧ H1 a = some (.ins C dx fs) ∧ fs.lookup m = none ∧
  t σ H1 fun vs H2 => sp (x :: (vs ++ dvs)) H2 Q E
/-- C(..): a new instance and its dict, then __init__ -/
def tMake (C : Addr) (sp : Sp) (dvs : List V) (E : XK) (t : TA) : TE := fun σ H Q => t σ H fun vs H1 => ∀ x dx, H1 x = none → H1 dx = none → dx ≠ x →
  sp (.ref x :: (vs ++ dvs)) (upd (upd H1 dx (.own x)) x (.ins C dx [])) (fun v H2 => v = .non ∧ Q (.ref x) H2) E

/-- how the parameters are bound: us the positional arguments, kw the keywords' values by name, ds the defaults that fill up -/
def Binds (K : PySem.W.Frag) (fd : FuncData) (ps : List Str) (ds : List Value) : Prop :=
  ∀ (s : Shared) (us : List Value), K.In s.heap → (us ++ ds).length = ps.length → BindsTo s fd ⟨us, []⟩ (ps.zip (us ++ ds))
/-- every parameter is given -/
theorem Binds.all {K : PySem.W.Frag} {fd : FuncData} {ps : List Str} (h : ∀ us : List Value, us.length = ps.length → bindArgs fd ⟨us, []⟩ = pure (ps.zip us)) : Binds K fd ps [] := fun s us _ hl => by
  rw [List.append_nil] at hl ⊢
  exact .of_eq (h us hl)

/-- an exception of a callee reaches what this body wants of exceptions -/
def Passes (CX : CXT) (X : Cx) (E : XK) : Prop := ∀ (pins : List (Addr × Obj)) (σ : St) (H : Hp) (s : Shared) (e : Value) (s' : Shared), Inv X pins σ H s → CX X.stack H s E e s' → X.xe e s'

section
variable {X : Cx} {CX : CXT} {k : Nat} {f C : Addr} {fd : FuncData} {ps : List Str} {sp : Sp} {dvs : List V} {ds : List Value} {E : XK} {x m : Str} {p pos apos : Pos} {e o : Expr} {es : List Expr} {ta : TE} {t : TA}

/-- the callee runs -/
theorem run_fn {pins : List (Addr × Obj)} {σ : St} {H : Hp} {s : Shared} {Q : VK} {us : List Value} {vs : List V} (F : FnOk X.prog X.w X.K X.mg X.base CX k f fd ps sp) (hr : Room k X.A) (hb : Binds X.K fd ps ds) (hd : Vals dvs ds) (hx : Passes CX X E)
    (I : Inv X pins σ H s) (r : Vals vs us) (h : sp (vs ++ dvs) H Q E) : wpAny (model X.prog X.w) X.A (call (.ref f) us) (EP X pins σ Q) X.xe s := by
  have r2 : Vals (vs ++ dvs) (us ++ ds) := r.append hd
  have hl : (us ++ ds).length = ps.length := by rw [← r2.length]; exact F.len _ _ _ _ h
  refine wpAny_call (codeAny_mono (F.run X.A X.stack s H ⟨us, []⟩ (us ++ ds) (vs ++ dvs) Q E hr I.env0 (hb s us I.kIn hl) r2 h) fun r s' hq => ?_)
  cases r with
  | error e => exact hx pins σ H s e s' I hq
  | ok fl =>
    cases fl with
    | ret u => exact I.after hq
    | next => exact False.elim hq
    | brk => exact False.elim hq
    | cont => exact False.elim hq

theorem pe_call (F : FnOk X.prog X.w X.K X.mg X.base CX k f fd ps sp) (hr : Room k X.A) (hg : Gl X x) (hm : X.mg x = some (.ref f)) (hk : PySem.W.keepIn X.K (.ref f) = true) (hb : Binds X.K fd ps ds) (hd : Vals dvs ds) (hx : Passes CX X E)
    (ha : PA X (e :: es) t) (hdb : (x == ("__debug__" : Str)) = false := by decide) (he : starEach (e :: es) X.env = (false, eval e X.env) :: starEach es X.env := by rfl) (hpl : (backTo pos (starEach es X.env)).any (·.1) = false := by rfl) :
    PE X (.Call (.Name x p) (e :: es) [] pos) (tCall sp dvs E t) := .mk <| by
  intro pins s σ H Q I h
  refine wpAny_Call_Name_kw (ld_glob I hg hm ?_ hdb)
  refine PySem.W.callWith_K (h₀ := X.base) I.ok.mod.kin hk (thn (ha pos pins s σ H _ I h) fun us s1 ⟨vs, H1, I1, r, q⟩ => ⟨I1.kIn, ?_⟩) he hpl
  exact run_fn F hr hb hd hx I1 r q
/-- what a class must have to be made -/
structure Mk (K : PySem.W.Frag) (C f : Addr) : Prop where
  makes : PySem.W.makesIn K C = true
  init : PySem.W.findIn K (.ref C) "__init__" = some (some (.ref f))
  fn : PySem.W.isFn K (.ref f) = true
  kp : PySem.W.keepIn K (.ref C) = true

end

/-! ### keywords -/
/-- the values of the keywords, from the left -/
def PK (X : Cx) (kws : List Keyword) (t : TA) : Prop :=
  ∀ (pos : Pos) (pins : List (Addr × Obj)) (s : Shared) (σ : St) (H : Hp) (Q : List V → Hp → Prop), Inv X pins σ H s → t σ H Q → wpAny (model X.prog X.w) X.A (evalAll ((backToKw pos (keywordEach kws X.env)).map (·.2))) (AP X pins σ Q) X.xe s
section
variable {X : Cx} {CX : CXT} {k : Nat} {f C : Addr} {fd : FuncData} {ps ks : List Str} {sp : Sp} {E : XK} {x m : Str} {p pos apos kpos : Pos} {e o : Expr} {es : List Expr} {kws : List Keyword} {te ta : TE} {t tk : TA} {nm : Option Str}
/-- how a call with keywords binds: g puts the positional values us and the keywords' values ws (names ks) in the parameters' order, defaults among them -/
structure KBinds (K : PySem.W.Frag) (fd : FuncData) (ps ks : List Str) (g : List Value → List Value → List Value) (gV : List V → List V → List V) : Prop where
  to : ∀ (s : Shared) (us ws : List Value), K.In s.heap → (g us ws).length = ps.length → BindsTo s fd ⟨us, ks.zip ws⟩ (ps.zip (g us ws))
  rel : ∀ {vs : List V} {us : List Value} {zs : List V} {ws : List Value}, Vals vs us → Vals zs ws → Vals (gV vs zs) (g us ws)
def tCallK (sp : Sp) (gV : List V → List V → List V) (E : XK) (t tk : TA) : TE := fun σ H Q => t σ H fun vs H1 => tk σ H1 fun zs H2 => sp (gV vs zs) H2 Q E
variable {g : List Value → List Value → List Value} {gV : List V → List V → List V}
end

/-! ### a def's body keeps its promise -/
/-- names: the parameters first -/
structure FnScope (N P : List Str) (sc : Scope) : Prop where
  kind : sc.kind = .function
  co : sc.isCoroutine = false
  gen : sc.isGenerator = false
  nd : N.Nodup
  pre : N.take P.length = P
  par : ∀ x ∈ P, sc.names.lookup x = some .local ∨ sc.names.lookup x = some .cell
  nofree : ∀ y ∈ sc.names, y.2 ≠ .free

theorem bindL_out {kindOf : Str → Option NameKind} {x : Str} : ∀ {binds : List (Str × Value)} {m : Str → Option Value}, (∀ v, (x, v) ∉ binds) → bindL kindOf binds m x = m x
  | [], _, _ => rfl
  | (n, v) :: r, m, h => by
    unfold bindL
    rw [bindL_out fun w hw => h w (List.mem_cons_of_mem _ hw)]
    split
    · have : x ≠ n := by rintro rfl; exact h v List.mem_cons_self
      simp [this]
    · rfl
theorem bindC_out {kindOf : Str → Option NameKind} {x : Str} : ∀ {binds : List (Str × Value)} {m : Str → Option Value}, (∀ v, (x, v) ∉ binds) → bindC kindOf binds m x = m x
  | [], _, _ => rfl
  | (n, v) :: r, m, h => by
    unfold bindC
    rw [bindC_out fun w hw => h w (List.mem_cons_of_mem _ hw)]
    split
    · rfl
    · have : x ≠ n := by rintro rfl; exact h v List.mem_cons_self
      simp [this]
theorem bindL_get {kindOf : Str → Option NameKind} {x : Str} {v : Value} : ∀ {P : List Str} {vs : List Value} {i : Nat} {m : Str → Option Value}, P.Nodup → P[i]? = some x → vs[i]? = some v → kindOf x = some .local →
    bindL kindOf (P.zip vs) m x = some v
  | [], _, _, _, _, h, _, _ => by simp at h
  | _ :: _, [], _, _, _, _, h, _ => by simp at h
  | p :: P, w :: vs, 0, m, nd, h1, h2, hk => by
    simp at h1 h2; subst h1; subst h2
    show bindL kindOf ((p, w) :: P.zip vs) m p = _
    unfold bindL
    rw [bindL_out fun v hv => (List.nodup_cons.mp nd).1 (List.of_mem_zip hv).1, if_pos hk]
    simp
  | p :: P, w :: vs, i + 1, m, nd, h1, h2, hk => by
    show bindL kindOf ((p, w) :: P.zip vs) m x = _
    unfold bindL
    exact bindL_get (i := i) (List.nodup_cons.mp nd).2 (by simpa using h1) (by simpa using h2) hk
theorem bindC_get {kindOf : Str → Option NameKind} {x : Str} {v : Value} : ∀ {P : List Str} {vs : List Value} {i : Nat} {m : Str → Option Value}, P.Nodup → P[i]? = some x → vs[i]? = some v → kindOf x ≠ some .local →
    bindC kindOf (P.zip vs) m x = some v
  | [], _, _, _, _, h, _, _ => by simp at h
  | _ :: _, [], _, _, _, _, h, _ => by simp at h
  | p :: P, w :: vs, 0, m, nd, h1, h2, hk => by
    simp at h1 h2; subst h1; subst h2
    show bindC kindOf ((p, w) :: P.zip vs) m p = _
    unfold bindC
    rw [bindC_out fun v hv => (List.nodup_cons.mp nd).1 (List.of_mem_zip hv).1, if_neg hk]
    simp
  | p :: P, w :: vs, i + 1, m, nd, h1, h2, hk => by
    show bindC kindOf ((p, w) :: P.zip vs) m x = _
    unfold bindC
    exact bindC_get (i := i) (List.nodup_cons.mp nd).2 (by simpa using h1) (by simpa using h2) hk

/-- the names' values at the entry -/
def start (N : List Str) (vs : List V) : St := vs.map some ++ List.replicate (N.length - vs.length) none

/-- the context of a def's body, at its entry; an exception leaves the frame, then lies as CX says -/
def cxOf (CX : CXT) (P : Program) (w : World) (K : PySem.W.Frag) (mg : Str → Option Value) (base : Heap) (N : List Str) (qual : Str) (scope : Scope) (f : Addr) (cd : Value) (A : Around) (outer : List Env) (s : Shared) (H : Hp) (E : XK) : Cx where
  prog := P
  w := w
  K := K
  mg := mg
  base := base
  A := A.deeper (envOfC qual scope s.heap.objs.size f cd)
  N := N
  s₀ := s
  H₀ := H
  env := envOfC qual scope s.heap.objs.size f cd
  outer := outer
  stack := envOfC qual scope s.heap.objs.size f cd :: outer
  ex := []
  calm := true
  fn := fun _ => true
  pn := []
  xe := fun e s' => wpAny (model P w) (A.deeper (envOfC qual scope s.heap.objs.size f cd)) (leaving (envOfC qual scope s.heap.objs.size f cd) e) (fun _ s'' => CX outer H s E e s'') (fun e' s'' => CX outer H s E e' s'') s'

theorem cell_has {sc : Scope} {n : Nat} {x : Str} (h : sc.names.lookup x = some .cell) : ∃ c, (cellsFrom n sc.names []).lookup x = some c := by
  have q := PySem.W.cellsFrom_some sc.names n [] (.inl h)
  exact Option.isSome_iff_exists.mp q

theorem inv_start {CX : CXT} {P : Program} {w : World} {K : PySem.W.Frag} {mg : Str → Option Value} {base : Heap} {N ps : List Str} {qual : Str} {scope : Scope} {f : Addr} {cd : Value} {A : Around} {outer : List Env} {s s1 : Shared} {H : Hp} {E : XK} {us : List Value} {vs : List V}
    (S : FnScope N ps scope) (hd : A.handled = none) (e0 : Env0 P w K mg base A outer s H) (hl : vs.length = ps.length) (r : Vals vs us)
    (x : InCallC s s.heap.objs.size (bindL (envOfC qual scope s.heap.objs.size f cd).kindOf (ps.zip us) fun _ => none) (cellsFrom (s.heap.objs.size + 1) scope.names []) (bindC (envOfC qual scope s.heap.objs.size f cd).kindOf (ps.zip us) fun _ => none) s1) :
    Inv (cxOf CX P w K mg base N qual scope f cd A outer s H E) [] (start N vs) H s1 := by
  have hpl : ps.length ≤ N.length := by have := congrArg List.length S.pre; rw [List.length_take] at this; omega
  obtain ⟨h1, tk, rfl, hk⟩ := x.done
  have noA : ∀ b : Addr, b ∉ (cxOf CX P w K mg base N qual scope f cd A outer s H E).ex := fun b z => absurd (show b ∈ ([] : List Addr) from z) (by simp)
  refine ⟨⟨e0.mod, S.kind, rfl, rfl, Nat.le_refl _, fun y z c h1 h2 => ?_, fun y hy => ?_, fun y c _ h => ?_, fun _ => hd, Around.frames_deeper e0.frames, .inr ⟨rfl, rfl⟩, fun b z => absurd z (noA b), e0.bs, e0.bsz, fun b _ _ => noA b, fun b z => absurd z (noA b), e0.funs, e0.frf, e0.tt⟩,
    rfl, e0.bare, Un.kept hk, ⟨_, x.toInCall.ns, fun i y v h1 h2 h3 => ?_⟩, fun y c h => ⟨_, x.cell y c h⟩, e0.hok.fresh (Nat.le_refl _), fun y c h => ?_, fun p hp => absurd (show p ∈ ([] : List (Addr × Obj)) from hp) (by simp), e0.hok.kept hk, ?_⟩
  · exact name_of_addr x.apart (PySem.mem_of_lookup h1) (PySem.mem_of_lookup h2)
  · have hy : scope.names.lookup y = some .cell ∨ scope.names.lookup y = some .free := hy
    rcases hy with hy | hy
    · exact cell_has hy
    · exact absurd rfl (S.nofree _ (PySem.mem_of_lookup hy))
  · exact Nat.le_of_lt (x.above y c (PySem.mem_of_lookup h))
  · have hi : i < vs.length := by
      unfold start at h2
      by_cases hi : i < vs.length
      · exact hi
      · rw [List.getElem?_append_right (by simpa using hi)] at h2
        rw [List.getElem?_replicate] at h2
        split at h2 <;> cases h2
    have ha : vs[i]? = some v := by
      unfold start at h2
      rw [List.getElem?_append_left (by simpa using hi), List.getElem?_map] at h2
      cases e : vs[i]? with
      | none => rw [e] at h2; cases h2
      | some a => rw [e] at h2; cases h2; rfl
    obtain ⟨u, hu, rv⟩ := r.get ha
    have hp : ps[i]? = some y := by
      rw [← S.pre, List.getElem?_take_of_lt (by omega)]; exact h1
    have ndP : ps.Nodup := by rw [← S.pre]; exact S.nd.sublist (List.take_sublist _ _)
    refine ⟨u, rv, ?_⟩
    rcases S.par y (List.mem_of_getElem? hp) with k | k
    · exact .inl ⟨k, bindL_get ndP hp hu k⟩
    · obtain ⟨c, e⟩ := cell_has (n := s.heap.objs.size + 1) k
      refine .inr ⟨.inl k, c, e, ?_⟩
      have q := x.cell y c e
      rw [bindC_get ndP hp hu (by show scope.names.lookup y ≠ _; rw [k]; decide)] at q
      exact q
  · exact e0.hok.fresh (Nat.le_of_lt (x.above y c (PySem.mem_of_lookup h)))
  · unfold start
    show _ = N.length
    rw [List.length_append, List.length_map, List.length_replicate]
    omega

/-- THE RULE: a def (or a method) of the text, by its body. The body's reading t is chosen for each entry; it is run at the parameters' values -/
theorem fn_of {CX : CXT} {P : Program} {w : World} {K : PySem.W.Frag} {mg : Str → Option Value} {base : Heap} {k : Nat} {f : Addr} {name qual : Str} {params : Arguments} {body : List Stmt} {scope : Scope} {dV kV doc pm cdv ct oc : Value} {an od : Option Addr}
    {osl : Array (Option Value)} {N ps : List Str} {sp : Sp} (lk : K.lookup f = some ⟨oc, od, .func (PySem.W.fnOf name qual params body scope dV kV doc pm an cdv ct), osl⟩) (hcd : PySem.W.codeIn K cdv qual = true) (S : FnScope N ps scope)
    (len : ∀ vs H Q E, sp vs H Q E → vs.length = ps.length)
    (hbody : ∀ (A : Around) (outer : List Env) (s : Shared) (H : Hp) (vs : List V) (Q : VK) (E : XK), Room k (A.deeper (envOfC qual scope s.heap.objs.size f cdv)) → sp vs H Q E →
      ∃ t, PSs (cxOf CX P w K mg base N qual scope f cdv A outer s H E) body t ∧ t { nx := fun _ H' => Q .non H', rt := Q } (start N vs) H) :
    FnOk P w K mg base CX (k + 1) f (PySem.W.fnOf name qual params body scope dV kV doc pm an cdv ct) ps sp := by
  refine ⟨len, fun A outer s H args us vs Q E hr e0 hb r hsp => ?_⟩
  have hl := len _ _ _ _ hsp
  have KX : K.In s.heap := e0.mod.kin.keeps fun b o e => (e0.bs b o e).1
  have lim : s.heap.NoLimit := e0.mod.nolimit.keeps fun b o e => (e0.bs b o e).1
  have hkind : ∀ y ∈ ps.zip us, scope.names.lookup y.1 = some .local ∨ (scope.names.lookup y.1 = some .cell ∧ ((cellsFrom (s.heap.objs.size + 1) scope.names []).lookup y.1).isSome = true) := fun ⟨n, v⟩ hy => by
    rcases S.par n (List.of_mem_zip hy).1 with q | q
    · exact .inl q
    · exact .inr ⟨q, PySem.W.cellsFrom_some _ _ _ (.inl q)⟩
  refine codeAny_call_function hr.depth (KX _ _ lk) rfl S.co S.gen rfl (PySem.W.codeRec_of KX hcd) (hb _ _ _ _ ?_)
  refine wpAny_newFunctionEnv_cells S.kind hkind fun env he s1 x => ?_
  subst he
  refine ⟨lim.keeps x.toInCall.keep, codeAny_func ?_⟩
  obtain ⟨t, ht, hq⟩ := hbody A outer s H vs Q E (hr.deeper _) hsp
  have I : Inv (cxOf CX P w K mg base N qual scope f cdv A outer s H E) [] (start N vs) H s1 := inv_start S hr.hd e0 hl r x
  refine wpAny_mono (ht [] s1 (start N vs) H _ I hq) (fun fl s' hs => ?_) fun e s' hs => hs
  have fin : ∀ {σ' : St} {H' : Hp} {v : V} {u : Value}, Inv (cxOf CX P w K mg base N qual scope f cdv A outer s H E) [] σ' H' s' → RelV v u → Q v H' → CE outer P w H s Q u s' :=
    fun {σ' H' v u} J rv q => ⟨v, H', J.os, J.bare, J.base, J.hok, rv, q⟩
  cases fl with
  | ret u =>
    obtain ⟨v, σ', H', J, rv, q⟩ := hs
    exact fin J rv q
  | next =>
    obtain ⟨σ', H', J, q⟩ := hs
    exact fin (v := V.non) (u := Value.none) J rfl q
  | brk =>
    obtain ⟨_, _, _, q⟩ := hs
    exact False.elim q
  | cont =>
    obtain ⟨_, _, _, q⟩ := hs
    exact False.elim q
end L2

namespace L2
open PySem PySem.Spec PyProof.Rows
section
variable {X : Cx} {x : Str} {p pos : Pos} {e : Expr} {es : List Expr} {t : TA} {id T : String} {r : List V → Hp → VK → Prop}

def tCB (r : List V → Hp → VK → Prop) (t : TA) : TE := fun σ H Q => t σ H fun vs H1 => r vs H1 Q
/-- f(e, ..), f a built-in function -/
theorem pe_callB (hc : CallR X (.builtin id) r) (hg : Gl X x) (hm : X.mg x = none) (hv : bootBuiltins x = some (.builtin id)) (ha : PA X (e :: es) t) (hn : x ≠ "__name__" := by decide) (hdb : (x == ("__debug__" : Str)) = false := by decide)
    (he : starEach (e :: es) X.env = (false, eval e X.env) :: starEach es X.env := by rfl) (hpl : (backTo pos (starEach es X.env)).any (·.1) = false := by rfl) : PE X (.Call (.Name x p) (e :: es) [] pos) (tCB r t) := .mk <| by
  intro pins s σ H Q I h
  refine wpAny_Call_Name_kw (ld_blt I hg hm hv ?_ hn hdb)
  exact PyProof.Rows.callWith_builtin1 (thn (ha pos pins s σ H _ I h) fun us s1 ⟨vs, H1, I1, r1, q1⟩ => hc pins s1 σ H1 vs us Q I1 r1 q1) he hpl
/-- T(e, ..), T a built-in type -/
theorem pe_callTy (hc : CallR X (.type T) r) (hg : Gl X x) (hm : X.mg x = none) (hv : bootBuiltins x = some (.type T)) (ha : PA X (e :: es) t) (hn : x ≠ "__name__" := by decide) (hdb : (x == ("__debug__" : Str)) = false := by decide)
    (he : starEach (e :: es) X.env = (false, eval e X.env) :: starEach es X.env := by rfl) (hpl : (backTo pos (starEach es X.env)).any (·.1) = false := by rfl) : PE X (.Call (.Name x p) (e :: es) [] pos) (tCB r t) := .mk <| by
  intro pins s σ H Q I h
  refine wpAny_Call_Name_kw (ld_blt I hg hm hv ?_ hn hdb)
  exact PyProof.Rows.callWith_type1 (thn (ha pos pins s σ H _ I h) fun us s1 ⟨vs, H1, I1, r1, q1⟩ => hc pins s1 σ H1 vs us Q I1 r1 q1) he hpl
end
end L2

namespace HT
open PySem PyProof.Rows

/-- t < u of tuples of ints -/
def lexLt : List Int → List Int → Bool
  | [], [] => false
  | [], _ :: _ => true
  | _ :: _, [] => false
  | x :: xs, y :: ys => if x = y then lexLt xs ys else decide (x < y)
section
open PySem.SeqAt
open PySem.AutoSeq1 (wpAny_loadPart')
open PySem.MeetsSeq PySem.MeetsSeq2 PySem.MeetsSeq3

end

section
variable {prog : Program} {w : World} {A : Around} {E : Value → Shared → Prop} {s : Shared}

/-! ### t[a:b], not the whole -/
/-- a slice's bound as a place among n (d where it is left out) -/
def sIx (n d : Nat) : Option Int → Nat
  | none => d
  | some v => if v < 0 then (v + (n : Int)).toNat else min v.toNat n
theorem sIx_none (n d : Nat) : sIx n d none = d := rfl
theorem sIx_nat (n d k : Nat) : sIx n d (some (k : Int)) = min k n := by
  show (if (k : Int) < 0 then ((k : Int) + (n : Int)).toNat else min (k : Int).toNat n) = min k n
  rw [if_neg (by omega), Int.toNat_natCast]
end
end HT

namespace L2
open PySem PySem.Spec PyProof.Rows

/-! ### the parts of a slice -/
abbrev TO := St → Hp → (Option Int → Hp → Prop) → Prop
/-- a slice's part (left out, or an int) -/
def PO (X : Cx) (e : Option Expr) (t : TO) : Prop :=
  ∀ (pins : List (Addr × Obj)) (s : Shared) (σ : St) (H : Hp) (Q : Option Int → Hp → Prop), Inv X pins σ H s → t σ H Q →
    wpAny (model X.prog X.w) X.A (evalPart e X.env) (fun u s' => ∃ o H', Inv X pins σ H' s' ∧ IsPart u o ∧ Q o H') X.xe s
def tNoPart : TO := fun _ H Q => Q none H
def tPart (t : TE) : TO := fun σ H Q => t σ H fun x H1 => ∃ i, x = .int i ∧ Q (some i) H1

section
variable {X : Cx} {e : Expr} {te : TE} {lo hi : Option Expr} {tl th : TO} {pos p2 : Pos}

theorem po_none : PO X none tNoPart := by
  intro pins s σ H Q I h
  rw [evalPart_none]
  exact wpAny_pure ⟨none, H, I, .none, h⟩
theorem po_some (h : PE X e te) : PO X (some e) (tPart te) := by
  intro pins s σ H Q I hw
  rw [evalPart_some]
  refine thn (h pins s σ H _ I hw) fun u s1 ⟨x, H1, I1, r1, q1⟩ => ?_
  obtain ⟨i, rfl, q⟩ := q1
  obtain ⟨t, rfl⟩ := r1
  exact ⟨some i, H1, I1, .int i t, q⟩

/-- what a slice of a value is, by values: the slice object stands at sl -/
def SlR (X : Cx) (r : V → Option Int → Option Int → Hp → VK → Prop) : Prop :=
  ∀ (pins : List (Addr × Obj)) (s : Shared) (σ : St) (H : Hp) (x : V) (v vl vu : Value) (lo hi : Option Int) (sl : Addr) (Q : VK), Inv X pins σ H s → RelV x v → s.heap.IsSliceOf sl vl vu .none → IsPart vl lo → IsPart vu hi → r x lo hi H Q →
    ∃ T id, typeLookup (.type T) "__getitem__" = pure (some (.builtin id)) ∧ s.TypeIs v T ∧ wpAny (model X.prog X.w) X.A (getItem v (.ref sl)) (EP X pins σ Q) X.xe s
theorem SlR.or {r r' : V → Option Int → Option Int → Hp → VK → Prop} (h : SlR X r) (h' : SlR X r') : SlR X (fun x lo hi H Q => r x lo hi H Q ∨ r' x lo hi H Q) := by
  intro pins s σ H x v vl vu lo hi sl Q I rx hs pl pu q
  rcases q with q | q
  · exact h pins s σ H x v vl vu lo hi sl Q I rx hs pl pu q
  · exact h' pins s σ H x v vl vu lo hi sl Q I rx hs pl pu q
def tSl (r : V → Option Int → Option Int → Hp → VK → Prop) (te : TE) (tl th : TO) : TE := fun σ H Q => te σ H fun x H1 => tl σ H1 fun l H2 => th σ H2 fun u H3 => r x l u H3 Q
/-- a[lo:hi], any a -/
theorem pe_slice {r : V → Option Int → Option Int → Hp → VK → Prop} (hr : SlR X r) (he : PE X e te) (hl : PO X lo tl) (hu : PO X hi th) : PE X (.Subscript e (.Slice lo hi none p2) pos) (tSl r te tl th) := .mk <| by
  intro pins s σ H Q I h
  refine Subscript_ (thn (he pins s σ H _ I h) fun v s1 ⟨x, H1, I1, r1, q1⟩ => ?_)
  refine wpAny_Slice (thn (hl pins s1 σ H1 _ I1 q1) fun vl s2 ⟨l, H2, I2, pl, q2⟩ => thn (hu pins s2 σ H2 _ I2 q2) fun vu s3 ⟨u, H3, I3, pu, q3⟩ => ?_)
  rw [evalPart_none]
  refine wpAny_pure ?_
  have I4 : Inv X pins σ H3 { s3 with heap := s3.heap.push { cls := .type "slice", data := .fields #[vl, vu, .none] } } := I3.kept (t' := s3.toks) fun b ob q => Heap.get?_push_of_some _ q
  obtain ⟨T, id, hT, ht, hg⟩ := hr pins { s3 with heap := s3.heap.push { cls := .type "slice", data := .fields #[vl, vu, .none] } } σ H3 x v vl vu l u s3.heap.objs.size Q I4 r1 (Heap.IsSliceOf.new ..) pl pu q3
  show wpAny (model X.prog X.w) X.A (subscriptTail e (.Slice lo hi none p2) v (.ref s3.heap.objs.size)) (EP X pins σ Q) X.xe { s3 with heap := s3.heap.push { cls := .type "slice", data := .fields #[vl, vu, .none] } }
  exact tail_any (ops := [.ref s3.heap.objs.size, v]) ht hT hg (by with_unfolding_all rfl)

/-- the items of xs[lo:hi] -/
def cutV (xs : List V) (lo hi : Option Int) : List V := (xs.drop (HT.sIx xs.length 0 lo)).take (HT.sIx xs.length xs.length hi - HT.sIx xs.length 0 lo)
theorem cutV_length (xs : List V) (lo hi : Option Int) : (cutV xs lo hi).length ≤ xs.length := by
  unfold cutV
  rw [List.length_take, List.length_drop]
  omega
/-- t[lo:hi], not the whole of it (the whole would be t itself) -/
def rSlT (K : PySem.W.Frag) : V → Option Int → Option Int → Hp → VK → Prop := fun x lo hi H Q => ∃ a xs, x = .ref a ∧ SqT K H a xs ∧
  ¬ (HT.sIx xs.length 0 lo = 0 ∧ HT.sIx xs.length xs.length hi = xs.length) ∧ ∀ p, H p = none → Q (.ref p) (upd H p (.tup (cutV xs lo hi)))
/-! ### t < u, t + u -/
def rLtT (K : PySem.W.Frag) : R2 := fun x y H Q => ∃ a b ns ms, x = .ref a ∧ y = .ref b ∧ SqT K H a (ns.map V.int) ∧ SqT K H b (ms.map V.int) ∧ Q (.bl (HT.lexLt ns ms)) H
/-- t + u, t not empty: u empty gives t itself -/
def rCatT (K : PySem.W.Frag) : R2 := fun x y H Q => ∃ a b xs ys, x = .ref a ∧ y = .ref b ∧ SqT K H a xs ∧ SqT K H b ys ∧ xs ≠ [] ∧ xs.length + ys.length ≤ sizeLine ∧
  (ys = [] → Q (.ref a) H) ∧ (ys ≠ [] → ∀ p, H p = none → Q (.ref p) (upd H p (.tup (xs ++ ys))))
end
end L2

namespace L2
open PySem PySem.Spec PyProof.Rows

/-! ### places -/
/-- the place that an index of any sign means -/
def ixN (n : Nat) (i : Int) : Option Nat := if 0 ≤ i then (if i < n then some i.toNat else none) else if -(n : Int) ≤ i then some (i + n).toNat else none
def atI {α : Type} (xs : List α) (i : Int) : Option α := (ixN xs.length i).bind fun j => xs[j]?
theorem ixN_seq {n : Nat} {i : Int} {j : Nat} (h : ixN n i = some j) : seqIndex? i n = some j ∧ j < n ∧ -(n : Int) ≤ i ∧ i < n := by
  unfold ixN at h
  by_cases h0 : 0 ≤ i
  · rw [if_pos h0] at h
    by_cases h1 : i < n
    · rw [if_pos h1] at h
      have e : i.toNat = j := Option.some.inj h
      exact ⟨by rw [seqIndex_of h0 h1, e], by omega, by omega, h1⟩
    · rw [if_neg h1] at h; cases h
  · rw [if_neg h0] at h
    by_cases h1 : -(n : Int) ≤ i
    · rw [if_pos h1] at h
      have e : (i + n).toNat = j := Option.some.inj h
      exact ⟨by rw [seqIndex_neg (by omega) h1, e], by omega, h1, by omega⟩
    · rw [if_neg h1] at h; cases h
theorem atI_get {α : Type} {xs : List α} {i : Int} {v : α} (h : atI xs i = some v) : ∃ j, seqIndex? i xs.length = some j ∧ xs[j]? = some v ∧ j < xs.length ∧ -(xs.length : Int) ≤ i ∧ i < xs.length := by
  unfold atI at h
  cases e : ixN xs.length i with
  | none => rw [e] at h; cases h
  | some j =>
    rw [e] at h
    obtain ⟨h1, h2, h3, h4⟩ := ixN_seq e
    exact ⟨j, h1, h, h2, h3, h4⟩
theorem atI_nat {α : Type} {xs : List α} {j : Nat} {v : α} (h : xs[j]? = some v) : atI xs (j : Int) = some v := by
  have hj : j < xs.length := (List.getElem?_eq_some_iff.mp h).1
  have e : ixN xs.length (j : Int) = some j := by
    unfold ixN
    rw [if_pos (by omega), if_pos (by omega)]; simp
  unfold atI; rw [e]; exact h
/-! ### what may be subscripted -/
/-- what stands as an index of a plain subscript -/
def PlainIx (b : Expr) : Prop := ∀ o i, subscripted b false o i = operate [o, i] (getItem o i)
/-- a subscript by values -/
def IxR (X : Cx) (r : R2) : Prop :=
  ∀ (value slice : Expr) (pins : List (Addr × Obj)) (s : Shared) (σ : St) (H : Hp) (x y : V) (v u : Value) (Q : VK), Inv X pins σ H s → RelV x v → RelV y u → r x y H Q →
    subscripted slice false v u = operate [v, u] (getItem v u) → wpAny (model X.prog X.w) X.A (subscriptTail value slice v u) (EP X pins σ Q) X.xe s
/-- a call of a builtin's method by values: the receiver, the arguments -/
def MtR (X : Cx) (id : String) (r : V → List V → Hp → VK → Prop) : Prop :=
  ∀ (pins : List (Addr × Obj)) (s : Shared) (σ : St) (H : Hp) (x : V) (xs : List V) (v : Value) (us : List Value) (Q : VK), Inv X pins σ H s → RelV x v → Vals xs us → r x xs H Q →
    wpAny (model X.prog X.w) X.A (call (.builtin id) (v :: us)) (EP X pins σ Q) X.xe s
section
variable {X : Cx} {a b : Expr} {ta tb : TE} {pos : Pos}
theorem IxR.or {r r' : R2} (h : IxR X r) (h' : IxR X r') : IxR X (fun x y H Q => r x y H Q ∨ r' x y H Q) := by
  intro value slice pins s σ H x y v u Q I rx ry q hs
  rcases q with q | q
  · exact h value slice pins s σ H x y v u Q I rx ry q hs
  · exact h' value slice pins s σ H x y v u Q I rx ry q hs
theorem MtR.or {id : String} {r r' : V → List V → Hp → VK → Prop} (h : MtR X id r) (h' : MtR X id r') : MtR X id (fun x xs H Q => r x xs H Q ∨ r' x xs H Q) := by
  intro pins s σ H x xs v us Q I rx rs q
  rcases q with q | q
  · exact h pins s σ H x xs v us Q I rx rs q
  · exact h' pins s σ H x xs v us Q I rx rs q
/-- a[b] -/
theorem pe_ix {r : R2} (hr : IxR X r) (ha : PE X a ta) (hb : PE X b tb) (hs : PlainIx b) : PE X (.Subscript a b pos) (tOp r ta tb) := .mk <| by
  intro pins s σ H Q I h
  exact Subscript_ (binT ha hb I h fun v u s2 x y H2 I2 rx ry q => hr a b pins s2 σ H2 x y v u Q I2 rx ry q (hs _ _))

def rIxL (K : PySem.W.Frag) : R2 := fun x y H Q => ∃ p xs i v, x = .ref p ∧ y = .int i ∧ SqL K H p xs ∧ atI xs i = some v ∧ Q v H
def rIxT (K : PySem.W.Frag) : R2 := fun x y H Q => ∃ p xs i v, x = .ref p ∧ y = .int i ∧ SqT K H p xs ∧ atI xs i = some v ∧ Q v H
def rIxS : R2 := fun x y H Q => ∃ z i c, x = .str z ∧ y = .int i ∧ z.length ≤ sizeLine ∧ atI z.cps.toList i = some c ∧ Q (.str ⟨#[c]⟩) H
theorem ix_list : IxR X (rIxL X.K) := by
  intro value slice pins s σ H x y v u Q I rx ry h hs
  obtain ⟨p, xs, i, z, rfl, rfl, hq, he, q⟩ := h
  cases rx
  obtain ⟨t, rfl⟩ := ry
  obtain ⟨its, r, pl, hz⟩ := I.list hq
  obtain ⟨j, h1, h2, h3, h4, h5⟩ := atI_get he
  obtain ⟨w, ew, rw'⟩ := r.get h2
  have hl := r.length
  have hn := line63
  have fin : EP X pins σ Q w s := ⟨z, H, I, rw', q⟩
  by_cases h0 : 0 ≤ i
  · have hj : i.toNat = j := by
      rw [seqIndex_of h0 h5] at h1
      exact Option.some.inj h1
    exact item_listR pl.isList h0 (by omega) (by rw [hj]; simpa using ew) fin hs
  · have hj : (i + (its.toArray.size : Int)).toNat = j := by
      rw [seqIndex_neg (by omega) h4] at h1
      rw [List.size_toArray, ← hl]
      exact Option.some.inj h1
    exact subscriptTail_builtinR (x := w) pl.isList.typeIs slot_list_getitem.lookup
      (wpAny_getItem_list_neg (Q := fun r s' => r = w ∧ EP X pins σ Q r s') pl.isList (by omega) (by rw [List.size_toArray] <;> omega) (by omega) (by rw [hj]; simpa using ew) ⟨rfl, fin⟩) hs
theorem ix_tup : IxR X (rIxT X.K) := by
  intro value slice pins s σ H x y v u Q I rx ry h hs
  obtain ⟨p, xs, i, z, rfl, rfl, hq, he, q⟩ := h
  cases rx
  obtain ⟨t, rfl⟩ := ry
  obtain ⟨its, r, pl, hz⟩ := I.tuple hq
  obtain ⟨j, h1, h2, h3, h4, h5⟩ := atI_get he
  obtain ⟨w, ew, rw'⟩ := r.get h2
  have hl := r.length
  have hn := line63
  have fin : EP X pins σ Q w s := ⟨z, H, I, rw', q⟩
  exact subscriptTail_builtinR (x := w) pl.typeIs slot_tuple_getitem.lookup
    (getItem_tuple (j := j) (Q := fun r s' => r = w ∧ EP X pins σ Q r s') pl (by omega) (by omega) (by rw [List.size_toArray, ← hl]; exact h1) (by simpa using ew) ⟨rfl, fin⟩) hs
/-- list, tuple or str -/
def rIx (K : PySem.W.Frag) : R2 := fun x y H Q => rIxL K x y H Q ∨ rIxT K x y H Q ∨ rIxS x y H Q
/-! ### xs[i] = v, any sign -/
theorem Inv.lst {pins : List (Addr × Obj)} {σ : St} {H : Hp} {s : Shared} {p : Addr} {xs : List V} (I : Inv X pins σ H s) (h : H p = some (.lst xs)) :
    ∃ (its : List Value) (n : Nat), Vals xs its ∧ s.heap.get? p = some { cls := .type "list", data := .seq its.toArray n } ∧ xs.length ≤ sizeLine := by
  obtain ⟨z, its, n, r, e⟩ := I.hok p _ h
  exact ⟨its, n, r, e, z⟩
def rSetL : V → V → V → Hp → (Hp → Prop) → Prop := fun o i v H Q => ∃ p xs k j, o = .ref p ∧ i = .int k ∧ H p = some (.lst xs) ∧ ixN xs.length k = some j ∧ Q (upd H p (.lst (xs.set j v)))
/-! ### slices -/
theorem slice_bounds (lo hi : Option Int) (n : Nat) : (sliceBounds lo hi none n).1 = ((HT.sIx n 0 lo : Nat) : Int) ∧ (sliceBounds lo hi none n).2.1 = ((HT.sIx n n hi : Nat) : Int) ∧ (sliceBounds lo hi none n).2.2 = 1 := by
  refine ⟨?_, ?_, rfl⟩
  · cases lo with
    | none => simp [sliceBounds, HT.sIx]
    | some i =>
      simp only [sliceBounds, HT.sIx, Option.getD_none, show (1 : Int) > 0 by decide, if_true]
      by_cases h : i < 0
      · simp only [h, if_true] <;> omega
      · simp only [h, if_false] <;> omega
  · cases hi with
    | none => simp [sliceBounds, HT.sIx]
    | some i =>
      simp only [sliceBounds, HT.sIx, Option.getD_none, show (1 : Int) > 0 by decide, if_true]
      by_cases h : i < 0
      · simp only [h, if_true] <;> omega
      · simp only [h, if_false] <;> omega
theorem slicePick_cut (its : List Value) (lo hi : Option Int) : slicePick its.toArray lo hi none = ((its.drop (HT.sIx its.length 0 lo)).take (HT.sIx its.length its.length hi - HT.sIx its.length 0 lo)).toArray := by
  obtain ⟨h1, h2, h3⟩ := slice_bounds lo hi its.toArray.size
  unfold slicePick
  rw [h1, h2, h3]
  simp only [sliceRange_one, pick_run, List.size_toArray] <;> rfl
/-- xs[lo:hi] of a list: a new list -/
def rSlL (K : PySem.W.Frag) : V → Option Int → Option Int → Hp → VK → Prop := fun x lo hi H Q => ∃ a xs, x = .ref a ∧ SqL K H a xs ∧ ∀ p, H p = none → Q (.ref p) (upd H p (.lst (cutV xs lo hi)))
theorem sl_list : SlR X (rSlL X.K) := by
  intro pins s σ H x v vl vu lo hi sl Q I rx hs pl pu h
  obtain ⟨a, xs, rfl, hx, q⟩ := h
  cases rx
  obtain ⟨its, r, ht, hz⟩ := I.list hx
  have hlen := r.length
  refine ⟨"list", _, slot_list_getitem.lookup, ht.isList.typeIs, ?_⟩
  refine wpAny_getItem_list_slice ht.isList hs pl pu .none (by simp) ?_ (by rw [List.size_toArray] <;> omega)
  rw [slicePick_cut, ← hlen]
  refine ⟨.ref s.heap.objs.size, _, I.laid (t' := s.toks) (o := .lst (cutV xs lo hi)) (fun b ob q => Heap.get?_push_of_some _ q) (Nat.le_refl _) ?_, rfl, q _ (I.hok.fresh (Nat.le_refl _))⟩
  exact ⟨Nat.le_trans (cutV_length xs lo hi) hz, _, 0, (r.drop (HT.sIx xs.length 0 lo)).take (HT.sIx xs.length xs.length hi - HT.sIx xs.length 0 lo), Heap.get?_push_size _ rfl⟩

/-! ### in, not in: flat items -/
def flatV : V → Bool
  | .non => true
  | .bl _ => true
  | .int _ => true
  | .str _ => true
  | _ => false
/-- == of flat values -/
def eqV : V → V → Bool
  | .non, .non => true
  | .bl a, .bl b => a == b
  | .bl a, .int b => (if a then 1 else 0) == b
  | .int a, .bl b => a == (if b then 1 else 0)
  | .int a, .int b => a == b
  | .str a, .str b => a == b
  | _, _ => false
/-- the items' answers, read off the values (a value's own answer does not lean on its token) -/
def eqU (x : V) (u : Value) : Bool := match u with
  | .none => eqV .non x
  | .bool b => eqV (.bl b) x
  | .int i _ => eqV (.int i) x
  | .str z _ => eqV (.str z) x
  | _ => false
def inV (x : V) (xs : List V) : Bool := xs.any fun y => eqV y x
/-- x in a list or tuple of flat items -/
def rIn (K : PySem.W.Frag) (neg : Bool) : R2 := fun x y H Q => ∃ p xs, y = .ref p ∧ (SqL K H p xs ∨ SqT K H p xs) ∧ flatV x = true ∧ xs.all flatV = true ∧ Q (.bl (if neg then !inV x xs else inV x xs)) H
/-! ### len, list(x), tuple(x) of any list or tuple that is read -/
theorem CallR.or {f : Value} {r r' : List V → Hp → VK → Prop} (h : CallR X f r) (h' : CallR X f r') : CallR X f (fun xs H Q => r xs H Q ∨ r' xs H Q) := by
  intro pins s σ H xs us Q I rs q
  rcases q with q | q
  · exact h pins s σ H xs us Q I rs q
  · exact h' pins s σ H xs us Q I rs q
theorem call_list_of : CallR X (.type "list") (fun xs H Q => ∃ p ys, xs = [.ref p] ∧ (SqL X.K H p ys ∨ SqT X.K H p ys) ∧ ∀ l, H l = none → Q (.ref l) (upd H l (.lst ys))) := by
  intro pins s σ H xs us Q I r h
  obtain ⟨p, ys, rfl, hq, q⟩ := h
  obtain ⟨u, rfl, rx⟩ := vals1 r
  cases rx
  have fin : ∀ (its : List Value), Vals ys its → ys.length ≤ sizeLine → ∀ (h' : Heap) (c' : Nat), (∀ b o', s.heap.get? b = some o' → h'.get? b = some o') →
      h'.get? s.heap.objs.size = some { cls := .type "list", dict := none, data := .seq its.toArray c', slots := #[] } → EP X pins σ Q (.ref s.heap.objs.size) { s with heap := h' } := fun its r' hz h' c' kp e =>
    ⟨.ref s.heap.objs.size, _, I.laid (t' := s.toks) kp (Nat.le_refl _) (show ObjOk X.prog X.w _ h' _ (.lst ys) from ⟨hz, its, c', r', e⟩), rfl, q _ (I.hok.fresh (Nat.le_refl _))⟩
  rcases hq with hq | hq
  · obtain ⟨its, r', pl, hz⟩ := I.list hq
    have hlen := r'.length
    obtain ⟨o, ho, hc, n, hd⟩ := pl.isList
    exact call_list_seq p (.inl rfl) ho hc hd (fun h' c' kp e => fin its r' hz h' c' kp e) (by simp only [List.size_toArray] <;> omega)
  · obtain ⟨its, r', pl, hz⟩ := I.tuple hq
    have hlen := r'.length
    obtain ⟨o, ho, hc, n, hd⟩ := pl
    exact call_list_seq p (.inr rfl) ho hc hd (fun h' c' kp e => fin its r' hz h' c' kp e) (by simp only [List.size_toArray] <;> omega)
theorem call_tuple_of : CallR X (.type "tuple") (fun xs H Q => ∃ p ys, xs = [.ref p] ∧ ((SqL X.K H p ys ∧ ∀ l, H l = none → Q (.ref l) (upd H l (.tup ys))) ∨ (SqT X.K H p ys ∧ Q (.ref p) H))) := by
  intro pins s σ H xs us Q I r h
  obtain ⟨p, ys, rfl, h⟩ := h
  obtain ⟨u, rfl, rx⟩ := vals1 r
  cases rx
  rcases h with ⟨hq, q⟩ | ⟨hq, q⟩
  · obtain ⟨its, r', pl, hz⟩ := I.list hq
    have hlen := r'.length
    refine call_tuple_list pl.isList (fun h' kp => ?_) (by simp only [List.size_toArray] <;> omega)
    have I1 : Inv X pins σ H { s with heap := h' } := I.kept (t' := s.toks) kp
    have I2 : Inv X pins σ (upd H h'.objs.size (.tup ys)) { s with heap := h'.push { cls := .type "tuple", data := .seq its.toArray } } :=
      I1.laid (t' := s.toks) (fun b o e => Heap.get?_push_of_some _ e) (Nat.le_refl _) (show ObjOk X.prog X.w _ _ _ (.tup ys) from ⟨hz, its, r', IsTup.new _ _⟩)
    exact ⟨.ref h'.objs.size, _, I2, rfl, q _ (I1.hok.fresh (Nat.le_refl _))⟩
  · obtain ⟨its, r', pl, hz⟩ := I.tuple hq
    exact call_tuple_same pl ⟨.ref p, H, I, rfl, q⟩

/-! ### the call of a builtin's method: o.m(..) -/
/-- the value is of that builtin type -/
def tyV (K : PySem.W.Frag) (T : String) (x : V) (H : Hp) : Prop := match x with
  | .str _ => T = "str"
  | .int _ => T = "int"
  | .ref p => (T = "list" ∧ ∃ xs, SqL K H p xs) ∨ (T = "tuple" ∧ ∃ o, K.lookup p = some o ∧ o.cls = .type "tuple" ∧ o.dict = none) ∨
      (T = "dict" ∧ ((∃ kvs, H p = some (.dK kvs)) ∨ ∃ kvs, H p = some (.dT kvs))) ∨ (T = "set" ∧ ∃ S n, H p = some (.set S n))
  | _ => False
theorem tyV_is {pins : List (Addr × Obj)} {σ : St} {H : Hp} {s : Shared} {T : String} {x : V} {v : Value} (I : Inv X pins σ H s) (r : RelV x v) (ty : tyV X.K T x H) :
    s.TypeIs v T ∧ ∀ a, v = .ref a → ∃ ob, s.heap.get? a = some ob ∧ ob.dict = none := by
  cases x with
  | str z =>
    obtain ⟨t, rfl⟩ := r
    cases (show T = "str" from ty)
    exact ⟨typeIs_str s z t, fun _ e => nomatch e⟩
  | int i =>
    obtain ⟨t, rfl⟩ := r
    cases (show T = "int" from ty)
    exact ⟨typeIs_int s i t, fun _ e => nomatch e⟩
  | ref p =>
    cases r
    rcases ty with ⟨rfl, xs, hq⟩ | ⟨rfl, o, hk, hc, hd⟩ | ⟨rfl, hk⟩ | ⟨rfl, S, n, hk⟩
    · obtain ⟨its, _, pl, _⟩ := I.list hq
      refine ⟨pl.isList.typeIs, fun a e => ?_⟩
      cases e
      obtain ⟨o, n, e, c, hd, _⟩ := pl
      exact ⟨o, e, hd⟩
    · refine ⟨⟨o, I.kIn p o hk, hc⟩, fun a e => ?_⟩
      cases e
      exact ⟨o, I.kIn _ o hk, hd⟩
    · have z : ∃ o, s.heap.get? p = some o ∧ o.ExactDict := by
        rcases hk with ⟨kvs, hk⟩ | ⟨kvs, hk⟩
        · obtain ⟨_, _, _, _, o, _, _, e, ex, _⟩ := I.hok p _ hk
          exact ⟨o, e, ex⟩
        · obtain ⟨_, _, _, _, o, _, _, e, ex, _⟩ := I.hok p _ hk
          exact ⟨o, e, ex⟩
      obtain ⟨o, e, ex⟩ := z
      refine ⟨⟨o, e, ex.1⟩, fun a e2 => ?_⟩
      cases e2
      exact ⟨o, e, ex.2.1⟩
    · obtain ⟨o, _, _, _, e, ex, _⟩ := I.hok p _ hk
      refine ⟨⟨o, e, ex.1⟩, fun a e2 => ?_⟩
      cases e2
      exact ⟨o, e, ex.2.1⟩
  | _ => exact False.elim ty
def tBM0 (K : PySem.W.Frag) (T : String) (r : V → List V → Hp → VK → Prop) (to : TE) : TE := fun σ H Q => to σ H fun x H1 => tyV K T x H1 ∧ r x [] H1 Q
def tBM (K : PySem.W.Frag) (T : String) (r : V → List V → Hp → VK → Prop) (to : TE) (t : TA) : TE := fun σ H Q => to σ H fun x H1 => tyV K T x H1 ∧ t σ H1 fun xs H2 => r x xs H2 Q
variable {o e : Expr} {es : List Expr} {to : TE} {t : TA} {name : Str} {apos cpos : Pos} {T id : String} {r : V → List V → Hp → VK → Prop}
theorem pe_bm0 (pa : PlainAttrs T) (slot : Slot T name id) (hty : typeOf (.builtin id) = pure (.type "method_descriptor")) (hm : MtR X id r) (ho : PE X o to)
    (hbase : attributeBase o name X.env (eval o X.env) = eval o X.env := by rfl) (hline : (apos.endLine == cpos.line) = true := by rfl) : PE X (.Call (.Attribute o name apos) [] [] cpos) (tBM0 X.K T r to) := .mk <| by
  intro pins s σ H Q I h
  refine wpAny_Call_method0_late hbase hline (thn (ho pins s σ H _ I h) fun v s1 ⟨x, H1, I1, r1, ty, q1⟩ => ?_)
  obtain ⟨h1, h2⟩ := tyV_is I1 r1 ty
  exact ⟨T, id, pa, slot, hty, h1, h2, Calls.callWith_builtin rfl (PySem.evalArgs_none (hm pins s1 σ H1 x [] v [] Q I1 r1 .nil q1))⟩
theorem pe_bm (pa : PlainAttrs T) (slot : Slot T name id) (hty : typeOf (.builtin id) = pure (.type "method_descriptor")) (hm : MtR X id r) (ho : PE X o to) (ha : PA X (e :: es) t)
    (hbase : attributeBase o name X.env (eval o X.env) = eval o X.env := by rfl)
    (hfew : ((backTo cpos (starEach (e :: es) X.env)).all (fun x => !x.1) && (backToKw cpos (keywordEach [] X.env)).all (fun x => x.1.isSome)
      && decide ((e :: es).length + ([] : List Keyword).length + (if ([] : List Keyword).isEmpty then 0 else 1) < 30)) = true := by rfl)
    (hline : (apos.endLine == cpos.line) = true := by rfl) (hs : starEach (e :: es) X.env = (false, eval e X.env) :: starEach es X.env := by rfl) (hplain : (backTo cpos (starEach es X.env)).any (·.1) = false := by rfl) :
    PE X (.Call (.Attribute o name apos) (e :: es) [] cpos) (tBM X.K T r to t) := .mk <| by
  intro pins s σ H Q I h
  refine wpAny_Call_method_late hbase hfew hline rfl (thn (ho pins s σ H _ I h) fun v s1 ⟨x, H1, I1, r1, ty, q1⟩ => ?_)
  obtain ⟨h1, h2⟩ := tyV_is I1 r1 ty
  refine ⟨T, id, pa, slot, hty, h1, h2, ?_⟩
  have hA := ha cpos pins s1 σ H1 _ I1 q1
  rw [hs] at hA ⊢
  refine Calls.callWith_builtin (by show (false || (backTo cpos (starEach es X.env)).any (·.1)) = false; rw [hplain] <;> rfl) (Calls.evalArgs_plain ?_)
  exact thn hA fun us s2 ⟨vs, H2, I2, r2, q2⟩ => hm pins s2 σ H2 x vs v us Q I2 r1 r2 q2
/- xs.append(e), list.index on a module's tuple .. are MtR facts of 06m -/
end
end L2

namespace L2
open PySem PySem.Spec PyProof.Rows

def MtM (X : Cx) (id : String) (r : V → List V → Hp → VK → Prop) : Prop :=
  ∀ (pins : List (Addr × Obj)) (s : Shared) (σ : St) (H : Hp) (x : V) (xs : List V) (v : Value) (us : List Value) (Q : VK), Inv X pins σ H s → RelV x v → Vals xs us → r x xs H Q →
    wpAny (model X.prog X.w) X.A (call (.builtin id) (v :: us)) (EP X pins σ Q) X.xe s

/-! ### lists of values -/
theorem Vals.one : ∀ {x : V} {us : List Value}, Vals [x] us → ∃ u, us = [u] ∧ RelV x u
  | _, _, .cons r .nil => ⟨_, rfl, r⟩
theorem Vals.two : ∀ {x y : V} {us : List Value}, Vals [x, y] us → ∃ u v, us = [u, v] ∧ RelV x u ∧ RelV y v
  | _, _, _, .cons r (.cons q .nil) => ⟨_, _, rfl, r, q⟩
theorem Vals.zero : ∀ {us : List Value}, Vals [] us → us = []
  | _, .nil => rfl
theorem Vals.dropLast {xs : List V} {us : List Value} (h : Vals xs us) : Vals xs.dropLast us.dropLast := by
  induction h with
  | nil => exact .nil
  | cons r t ih =>
    cases t with
    | nil => exact .nil
    | cons q t' => exact .cons r ih
theorem Vals.eraseIdx : ∀ {xs : List V} {us : List Value} (i : Nat), Vals xs us → Vals (xs.eraseIdx i) (us.eraseIdx i)
  | _, _, _, .nil => .nil
  | _, _, 0, .cons _ t => t
  | _, _, i + 1, .cons r t => .cons r (Vals.eraseIdx i t)
theorem Vals.reverse {xs : List V} {us : List Value} (h : Vals xs us) : Vals xs.reverse us.reverse := by
  induction h with
  | nil => exact .nil
  | cons r t ih => rw [List.reverse_cons, List.reverse_cons]; exact Vals.append ih (.cons r .nil)
theorem erase_last {α : Type} (l : List α) : l.eraseIdx (l.length - 1) = l.dropLast := by
  induction l with
  | nil => rfl
  | cons a r ih =>
    cases r with
    | nil => rfl
    | cons b r =>
      have e : (a :: b :: r).length - 1 = ((b :: r).length - 1) + 1 := by
        have h1 : (a :: b :: r).length = r.length + 2 := rfl
        have h2 : (b :: r).length = r.length + 1 := rfl
        omega
      rw [e, List.eraseIdx_cons_succ, ih]
      all_goals rfl
theorem len_erase {α : Type} : ∀ (l : List α) (i : Nat), (l.eraseIdx i).length ≤ l.length
  | [], _ => Nat.le_refl _
  | _ :: _, 0 => Nat.le_succ _
  | _ :: r, i + 1 => Nat.succ_le_succ (len_erase r i)
section
variable {X : Cx} {pins : List (Addr × Obj)} {σ : St} {H : Hp} {s : Shared} {l b : Addr} {xs ys zs : List V}

/-! ### the two steps: a tracked list is rewritten, a new list is laid -/
theorem Inv.lset {its its' : List Value} {n : Nat} {f : Array Value → Array Value} {t' : Nat} (I : Inv X pins σ H s) (hH : H l = some (.lst xs))
    (e : s.heap.get? l = some { cls := .type "list", data := .seq its.toArray n }) (hf : f its.toArray = its'.toArray) (hv : Vals ys its') (hz : ys.length ≤ sizeLine) :
    Inv X pins σ (upd H l (.lst ys)) { s with heap := s.heap.update l (Obj.mapSeq f), toks := t' } := by
  have q := PySem.IsL.update e f
  rw [hf] at q
  refine I.write (x := l) (e := l) (by rw [hH]; exact trivial) (.inl rfl) (fun b' u hb hu => (Heap.get?_update_other s.heap (Obj.mapSeq f) (Ne.symm hb)).trans hu) ⟨_, q⟩ ?_
  exact ⟨hz, its', _, hv, q⟩
theorem Inv.lnew {its : List Value} {t' : Nat} (I : Inv X pins σ H s) (hv : Vals ys its) (hz : ys.length ≤ sizeLine) :
    Inv X pins σ (upd H s.heap.objs.size (.lst ys)) { s with heap := s.heap.push { cls := .type "list", data := .seq its.toArray }, toks := t' } :=
  I.laid (fun _ _ q => Heap.get?_push_of_some _ q) (Nat.le_refl _) ⟨hz, its, 0, hv, Heap.get?_push_size _ rfl⟩
theorem Inv.fresh (I : Inv X pins σ H s) : H s.heap.objs.size = none := I.hok.fresh (Nat.le_refl _)
theorem Inv.lstM (I : Inv X pins σ H s) (hH : H l = some (.lst xs)) : xs.length ≤ sizeLine ∧ ∃ (its : List Value) (n : Nat), Vals xs its ∧ xs.length = its.length ∧ s.heap.get? l = some { cls := .type "list", data := .seq its.toArray n } := by
  obtain ⟨z, its, n, r, e⟩ := I.hok l _ hH
  exact ⟨z, its, n, r, r.length, e⟩

theorem notLongL {n : Nat} (h : n ≤ sizeLine) : Builtin.List.listTooLong n = false := by
  unfold Builtin.List.listTooLong
  exact decide_eq_false (by omega)
end

section
variable {X : Cx}

/-! ### methods -/
def rAppend : V → List V → Hp → VK → Prop := fun x vs H Q => ∃ l xs y, x = .ref l ∧ vs = [y] ∧ H l = some (.lst xs) ∧ xs.length < sizeLine ∧ Q .non (upd H l (.lst (xs ++ [y])))
theorem mt_append : MtM X "list.append" rAppend := by
  intro pins s σ H x vs v us Q I rx rv h
  obtain ⟨l, xs, y, rfl, rfl, hH, hz, q⟩ := h
  cases rx
  obtain ⟨u, rfl, ru⟩ := rv.one
  obtain ⟨z, its, n, r, hl, e⟩ := I.lstM hH
  refine call_meets F.slot_list_append ⟨_, e, rfl⟩ F.entry_list_append (F.args_list_append_2 _ _) (PySem.list_append l its.toArray n u (by rw [List.size_toArray]; omega)) ⟨e, ?_⟩
  refine ⟨.non, _, I.lset (its' := its ++ [u]) hH e (by simp) (r.append (.cons ru .nil)) ?_, rfl, q⟩
  rw [List.length_append, List.length_singleton]
  omega

def rExtend : V → List V → Hp → VK → Prop := fun x vs H Q => ∃ l b xs zs, x = .ref l ∧ vs = [.ref b] ∧ H l = some (.lst xs) ∧ H b = some (.lst zs) ∧ xs.length + zs.length ≤ sizeLine ∧ Q .non (upd H l (.lst (xs ++ zs)))
theorem mt_extend : MtM X "list.extend" rExtend := by
  intro pins s σ H x vs v us Q I rx rv h
  obtain ⟨l, b, xs, zs, rfl, rfl, hH, hB, hz, q⟩ := h
  cases rx
  obtain ⟨u, rfl, ru⟩ := rv.one
  cases ru
  obtain ⟨z, its, n, r, hl, e⟩ := I.lstM hH
  obtain ⟨z2, its2, n2, r2, hl2, e2⟩ := I.lstM hB
  have hsz : its.toArray.size + its2.toArray.size ≤ sizeLine := by rw [List.size_toArray, List.size_toArray]; omega
  have hlong : ¬ (!its.toArray.isEmpty && Builtin.List.listTooLong (its.toArray.size + its2.toArray.size)) = true := by
    rw [notLongL hsz, Bool.and_false]
    exact Bool.false_ne_true
  refine call_meets F.slot_list_extend ⟨_, e, rfl⟩ F.entry_list_extend (F.args_list_extend_2 _ _)
    (AutoSeq1.list_extend_list_list_0 l its.toArray n b its2.toArray n2 hlong (by rw [List.size_toArray]; omega) (by omega)) ⟨e, e2, ?_⟩
  refine ⟨.non, _, I.lset (its' := its ++ its2) hH e (by simp) (r.append r2) ?_, rfl, q⟩
  rw [List.length_append]
  omega

def rPop : V → List V → Hp → VK → Prop := fun x vs H Q => ∃ l xs y, x = .ref l ∧ vs = [] ∧ H l = some (.lst xs) ∧ xs[xs.length - 1]? = some y ∧ Q y (upd H l (.lst xs.dropLast))
theorem mt_pop : MtM X "list.pop" rPop := by
  intro pins s σ H x vs v us Q I rx rv h
  obtain ⟨l, xs, y, rfl, rfl, hH, hy, q⟩ := h
  cases rx
  have hus := rv.zero
  subst hus
  obtain ⟨z, its, n, r, hl, e⟩ := I.lstM hH
  obtain ⟨u, hu, ru⟩ := r.get hy
  have hy' : its.toArray[its.toArray.size - 1]? = some u := by
    show its.toArray[its.length - 1]? = some u
    rw [← Array.getElem?_toList, ← hl]
    exact hu
  refine call_meets F.slot_list_pop ⟨_, e, rfl⟩ F.entry_list_pop (F.args_list_pop_1 _) (MeetsSeq.list_pop_last l its.toArray n u hy' (by rw [List.size_toArray]; omega)) ⟨e, ?_⟩
  refine ⟨y, _, I.lset (its' := its.dropLast) hH e ?_ r.dropLast ?_, ru, q⟩
  · show its.toArray.eraseIdxIfInBounds (its.toArray.size - 1) = its.dropLast.toArray
    rw [List.size_toArray, List.eraseIdxIfInBounds_toArray, erase_last]
  · rw [List.length_dropLast]
    omega

def rPopAt : V → List V → Hp → VK → Prop := fun x vs H Q => ∃ l xs i k y, x = .ref l ∧ vs = [.int i] ∧ H l = some (.lst xs) ∧ -(2 ^ 63) ≤ i ∧ i < 2 ^ 63 ∧ seqIndex? i xs.length = some k ∧ xs[k]? = some y ∧ Q y (upd H l (.lst (xs.eraseIdx k)))
theorem mt_popAt : MtM X "list.pop" rPopAt := by
  intro pins s σ H x vs v us Q I rx rv h
  obtain ⟨l, xs, i, k, y, rfl, rfl, hH, h1, h2, hk, hy, q⟩ := h
  cases rx
  obtain ⟨u, rfl, ru⟩ := rv.one
  obtain ⟨t, rfl⟩ := ru
  obtain ⟨z, its, n, r, hl, e⟩ := I.lstM hH
  obtain ⟨w, hw, rw'⟩ := r.get hy
  refine call_meets F.slot_list_pop ⟨_, e, rfl⟩ F.entry_list_pop (F.args_list_pop_2 _ _)
    (MeetsSeq.list_pop_at l its.toArray n i t k w (fitsIndex_both h1 h2) (by rw [List.size_toArray, ← hl]; exact hk) (by rw [← Array.getElem?_toList]; exact hw) (by rw [List.size_toArray]; omega)) ⟨e, ?_⟩
  refine ⟨y, _, I.lset (its' := its.eraseIdx k) hH e ?_ (r.eraseIdx k) ?_, rw', q⟩
  · show its.toArray.eraseIdxIfInBounds k = (its.eraseIdx k).toArray
    rw [List.eraseIdxIfInBounds_toArray]
  · have := len_erase xs k
    omega

def rReverse : V → List V → Hp → VK → Prop := fun x vs H Q => ∃ l xs, x = .ref l ∧ vs = [] ∧ H l = some (.lst xs) ∧ Q .non (upd H l (.lst xs.reverse))
def rClear : V → List V → Hp → VK → Prop := fun x vs H Q => ∃ l xs, x = .ref l ∧ vs = [] ∧ H l = some (.lst xs) ∧ Q .non (upd H l (.lst []))
/-! ### list + list, list += list, list * int -/
def rCat : R2 := fun x y H Q => ∃ l b xs zs, x = .ref l ∧ y = .ref b ∧ H l = some (.lst xs) ∧ H b = some (.lst zs) ∧ xs.length + zs.length ≤ sizeLine ∧ ∀ p, H p = none → Q (.ref p) (upd H p (.lst (xs ++ zs)))
/-- a list times an int (a negative one is nothing) -/
def rRep : R2 := fun x y H Q => ∃ l k xs, x = .ref l ∧ y = .int k ∧ H l = some (.lst xs) ∧ -(2 ^ 63) ≤ k ∧ k < 2 ^ 63 ∧ xs.length * k.toNat ≤ sizeLine ∧
  ∀ p, H p = none → Q (.ref p) (upd H p (.lst (List.replicate k.toNat xs).flatten))
/-! ### del xs[i] -/
end

/-! ### xs[a:b] = ys -/
section
variable {prog : Program} {w : World} {A : Around} {E : Value → Shared → Prop} {s : Shared}
set_option maxRecDepth 100000 in
end

section
variable {X : Cx}
end
end L2

namespace L2
open PySem PySem.Spec PyProof.Rows

/-! ### lists of pairs as tables -/
section
variable {κ : Type} [DecidableEq κ]
def valV (kvs : List (κ × V)) (k : κ) : Option V := (kvs.find? fun kv => decide (kv.1 = k)).map (·.2)
/-- in its place, or at the end -/
def putK (kvs : List (κ × V)) (k : κ) (v : V) : List (κ × V) :=
  if (kvs.any fun kv => decide (kv.1 = k)) = true then kvs.map (fun kv => if kv.1 = k then (kv.1, v) else kv) else kvs ++ [(k, v)]
def dropK (kvs : List (κ × V)) (k : κ) : List (κ × V) := kvs.filter fun kv => decide (kv.1 ≠ k)

theorem valV_pos {p : κ × V} {r : List (κ × V)} {k : κ} (e : p.1 = k) : valV (p :: r) k = some p.2 := by simp [valV, List.find?_cons, e]
theorem valV_neg {p : κ × V} {r : List (κ × V)} {k : κ} (e : ¬ p.1 = k) : valV (p :: r) k = valV r k := by simp [valV, List.find?_cons, e]
theorem valV_any (k : κ) : ∀ kvs : List (κ × V), (kvs.any fun kv => decide (kv.1 = k)) = (valV kvs k).isSome
  | [] => rfl
  | p :: r => by
    rw [List.any_cons]
    by_cases e : p.1 = k
    · simp only [valV_pos e, decide_eq_true e, Bool.true_or, Option.isSome_some]
    · rw [valV_neg e, decide_eq_false e, Bool.false_or]; exact valV_any k r
theorem length_putK (kvs : List (κ × V)) (k : κ) (v : V) : (putK kvs k v).length ≤ kvs.length + 1 := by
  unfold putK
  split
  · rw [List.length_map]; omega
  · rw [List.length_append, List.length_cons, List.length_nil]; omega
theorem RelO.isSome_eq {o : Option V} {u : Option Value} (r : RelO o u) : o.isSome = u.isSome := by
  cases o with
  | none => cases u with
    | none => rfl
    | some _ => exact (show False from r).elim
  | some _ => cases u with
    | none => exact (show False from r).elim
    | some _ => rfl
theorem RelO.getD {o : Option V} {u : Option Value} {d : V} {d' : Value} (r : RelO o u) (rd : RelV d d') : RelV (o.getD d) (u.getD d') := by
  cases o with
  | none => cases u with
    | none => exact rd
    | some _ => exact (show False from r).elim
  | some _ => cases u with
    | none => exact (show False from r).elim
    | some _ => exact r

/-- raw tables of the same keys -/
theorem KV.val {kvs : List (κ × V)} {vs : List (κ × Value)} (r : KV kvs vs) (k : κ) : RelO (valV kvs k) (valueAt vs k) := by
  unfold KV at r
  induction r with
  | nil => exact True.intro
  | @cons p q ps qs h t ih =>
    obtain ⟨h1, h2⟩ := h
    by_cases e : p.1 = k
    · have e' : q.1 = k := h1.symm.trans e
      have b : valueAt (q :: qs) k = some q.2 := by simp [valueAt, List.find?_cons, e']
      rw [valV_pos e, b]; exact h2
    · have e' : ¬ q.1 = k := fun z => e (h1.trans z)
      have b : valueAt (q :: qs) k = valueAt qs k := by simp [valueAt, List.find?_cons, e']
      rw [valV_neg e, b]; exact ih
theorem KV.any {kvs : List (κ × V)} {vs : List (κ × Value)} (r : KV kvs vs) (k : κ) : (kvs.any fun kv => decide (kv.1 = k)) = vs.any fun kv => decide (kv.1 = k) := by
  unfold KV at r
  induction r with
  | nil => rfl
  | cons h t ih => rw [List.any_cons, List.any_cons, ih, h.1]
theorem KV.repl {kvs : List (κ × V)} {vs : List (κ × Value)} (r : KV kvs vs) (k : κ) {y : V} {u : Value} (ry : RelV y u) :
    KV (kvs.map fun kv => if kv.1 = k then (kv.1, y) else kv) (vs.map fun kv => if kv.1 = k then (kv.1, u) else kv) := by
  unfold KV at r ⊢
  induction r with
  | nil => exact .nil
  | @cons p q ps qs h t ih =>
    rw [List.map_cons, List.map_cons]
    refine .cons ?_ ih
    obtain ⟨h1, h2⟩ := h
    by_cases e : p.1 = k
    · rw [if_pos e, if_pos (h1.symm.trans e)]; exact ⟨h1, ry⟩
    · rw [if_neg e, if_neg (fun z => e (h1.trans z))]; exact ⟨h1, h2⟩
theorem KV.put {kvs : List (κ × V)} {vs : List (κ × Value)} (r : KV kvs vs) (k : κ) {y : V} {u : Value} (ry : RelV y u) : KV (putK kvs k y) (stored vs k u) := by
  unfold putK stored
  rw [r.any k]
  by_cases e : (vs.any fun kv => decide (kv.1 = k)) = true
  · rw [if_pos e, if_pos e]; exact r.repl k ry
  · rw [if_neg e, if_neg e]; exact Paired.snoc r ⟨rfl, ry⟩
theorem KV.drop {kvs : List (κ × V)} {vs : List (κ × Value)} (r : KV kvs vs) (k : κ) : KV (dropK kvs k) (without vs k) := by
  unfold KV at r ⊢
  unfold dropK without
  induction r with
  | nil => exact .nil
  | @cons p q ps qs h t ih =>
    obtain ⟨h1, h2⟩ := h
    rw [List.filter_cons, List.filter_cons]
    by_cases e : p.1 = k
    · have a : ¬ decide (p.1 ≠ k) = true := by simp [e]
      have b : ¬ decide (q.1 ≠ k) = true := by simp [h1.symm.trans e]
      rw [if_neg a, if_neg b]; exact ih
    · have e' : ¬ q.1 = k := fun z => e (h1.trans z)
      have a : decide (p.1 ≠ k) = true := by simp [e]
      have b : decide (q.1 ≠ k) = true := by simp [e']
      rw [if_pos a, if_pos b]; exact .cons ⟨h1, h2⟩ ih
theorem KV.keys {kvs : List (κ × V)} {vs : List (κ × Value)} (r : KV kvs vs) : kvs.map (·.1) = vs.map (·.1) := by
  unfold KV at r
  induction r with
  | nil => rfl
  | cons h t ih => rw [List.map_cons, List.map_cons, ih, h.1]
theorem KV.length {kvs : List (κ × V)} {vs : List (κ × Value)} (r : KV kvs vs) : kvs.length = vs.length := Paired.length r
end


/-! ### a tracked dict, its keys ints and texts or tuples of these -/
theorem kV_is {P : Program} {w : World} {k : Key} {u : Value} (r : RelV (kV k) u) : (mixKind P w).is k u = true := by
  cases k with
  | inl i => obtain ⟨t, e⟩ := (show ∃ t, u = Value.int i t from r); subst e; exact mixKind_int P w i t
  | inr x => obtain ⟨t, e⟩ := (show ∃ t, u = Value.str x t from r); subst e; exact mixKind_str P w x t
theorem items_are {P : Program} {w : World} : ∀ {ks : List Key} {us : List Value}, Vals (ks.map kV) us → ItemsAre (mixKind P w) ks us
  | [], _, r => by rw [List.map_nil] at r; cases r; exact .nil
  | k :: ks, _, r => by
    rw [List.map_cons] at r
    cases r with
    | cons h t => exact .cons (kV_is h) (items_are t)

/-- raw entries of a dict with tuple keys -/
abbrev KT (H : Hp) : List (List Key × V) → List (List Key × Addr × Value) → Prop := Paired fun p q => p.1 = q.1 ∧ H q.2.1 = some (.tup (p.1.map kV)) ∧ RelV p.2 q.2.2
theorem KT.val {H : Hp} {kvs : List (List Key × V)} {xs : List (List Key × Addr × Value)} (r : KT H kvs xs) (k : List Key) : RelO (valV kvs k) ((atKey xs k).map (·.2)) := by
  induction r with
  | nil => exact True.intro
  | @cons p q ps qs h t ih =>
    obtain ⟨h1, _, h2⟩ := h
    by_cases e : p.1 = k
    · have e' : q.1 = k := h1.symm.trans e
      have b : atKey (q :: qs) k = some q.2 := by simp [atKey, List.find?_cons, e']
      rw [valV_pos e, b]; exact h2
    · have e' : ¬ q.1 = k := fun z => e (h1.trans z)
      have b : atKey (q :: qs) k = atKey qs k := by simp [atKey, List.find?_cons, e']
      rw [valV_neg e, b]; exact ih
theorem KT.repl {H : Hp} {kvs : List (List Key × V)} {xs : List (List Key × Addr × Value)} (r : KT H kvs xs) (k : List Key) {y : V} {u : Value} (ry : RelV y u) :
    KT H (kvs.map fun kv => if kv.1 = k then (kv.1, y) else kv) (xs.map (putAt k u)) := by
  induction r with
  | nil => exact .nil
  | @cons p q ps qs h t ih =>
    rw [List.map_cons, List.map_cons]
    refine .cons ?_ ih
    obtain ⟨h1, h2, h3⟩ := h
    unfold putAt
    by_cases e : p.1 = k
    · rw [if_pos e, if_pos (h1.symm.trans e)]; exact ⟨h1, h2, ry⟩
    · rw [if_neg e, if_neg (fun z => e (h1.trans z))]; exact ⟨h1, h2, h3⟩
theorem KT.put {H : Hp} {kvs : List (List Key × V)} {xs : List (List Key × Addr × Value)} (r : KT H kvs xs) (k : List Key) {b : Addr} {y : V} {u : Value} (hb : H b = some (.tup (k.map kV))) (ry : RelV y u) :
    KT H (putK kvs k y) (storedH xs k b u) := by
  have e : (kvs.any fun kv => decide (kv.1 = k)) = (atKey xs k).isSome := by
    rw [valV_any, (r.val k).isSome_eq, Option.isSome_map]
  unfold putK storedH
  rw [e]
  by_cases q : (atKey xs k).isSome = true
  · rw [if_pos q, if_pos q]; exact r.repl k ry
  · rw [if_neg q, if_neg q]; exact Paired.snoc r ⟨rfl, hb, ry⟩
theorem KT.keeps {H H' : Hp} {kvs : List (List Key × V)} {xs : List (List Key × Addr × Value)} (r : KT H kvs xs) (ht : ∀ b ys, H b = some (.tup ys) → H' b = some (.tup ys)) : KT H' kvs xs :=
  Paired.mapP r fun _ _ z => ⟨z.1, ht _ _ z.2.1, z.2.2⟩

section
variable {P : Program} {w : World} {H : Hp} {h : Heap} {a : Addr}
theorem rd_of {u : HO} (ok : HOk P w H h) (e : Rd H a u) : ObjOk P w H h a u := e.ok ok
theorem dk_rd {kvs : List (Key × V)} (ok : HOk P w H h) (e : Rd H a (.dK kvs)) : kvs.length ≤ sizeLine ∧ (a == sysModules) = false ∧ ∃ vs, KV kvs vs ∧ h.DictOf (mixKind P w) a vs :=
  show ObjOk P w H h a (.dK kvs) from rd_of ok e
theorem dk_of {kvs : List (Key × V)} (ok : HOk P w H h) (e : H a = some (.dK kvs)) : kvs.length ≤ sizeLine ∧ (a == sysModules) = false ∧ ∃ vs, KV kvs vs ∧ h.DictOf (mixKind P w) a vs := dk_rd ok (.inl e)
/-- a tracked tuple of ints and texts is a key -/
theorem key_of {ks : List Key} (ok : HOk P w H h) (e : H a = some (.tup (ks.map kV))) : (tupleKind (mixKind P w)).is h ks a := by
  obtain ⟨_, its, r, o, h1, h2, n, h3⟩ := (show ObjOk P w H h a (.tup (ks.map kV)) from ok a _ e)
  exact ⟨o, its.toArray, n, h1, h2, h3, by simpa using items_are r⟩
theorem dt_rd {kvs : List (List Key × V)} (ok : HOk P w H h) (e : Rd H a (.dT kvs)) : kvs.length ≤ sizeLine ∧ (a == sysModules) = false ∧
    ∃ xs, KT H kvs xs ∧ h.DictOfH (tupleKind (mixKind P w)) a xs := by
  obtain ⟨z, y, xs, r, o, es, ep, h1, h2, h3, h4, h5⟩ := (show ObjOk P w H h a (.dT kvs) from rd_of ok e)
  refine ⟨z, y, xs, r, o, es, ep, h1, h2, h3, h4, fun x hx => ?_, h5⟩
  have all : ∀ {l : List (List Key × V)} {m : List (List Key × Addr × Value)}, KT H l m → ∀ x ∈ m, (tupleKind (mixKind P w)).is h x.1 x.2.1 := by
    intro l m q
    induction q with
    | nil => intro x hx; exact nomatch hx
    | @cons p q ps qs hq t ih =>
      intro x hx
      rcases List.mem_cons.mp hx with e | hx
      · subst e
        exact key_of ok (by rw [← hq.1]; exact hq.2.1)
      · exact ih x hx
  exact all r x hx
theorem dt_of {kvs : List (List Key × V)} (ok : HOk P w H h) (e : H a = some (.dT kvs)) : kvs.length ≤ sizeLine ∧ (a == sysModules) = false ∧
    ∃ xs, KT H kvs xs ∧ h.DictOfH (tupleKind (mixKind P w)) a xs := dt_rd ok (.inl e)
end

/-- what the dict at a holds at the key y -/
def DGet (H : Hp) (a : Addr) (y : V) (r : Option V) : Prop :=
  (∃ kvs k, Rd H a (.dK kvs) ∧ y = kV k ∧ r = valV kvs k) ∨ ∃ kvs k b, Rd H a (.dT kvs) ∧ y = .ref b ∧ H b = some (.tup (k.map kV)) ∧ r = valV kvs k
/-- the heap behind a[y] = v -/
def DPut (H : Hp) (a : Addr) (y v : V) (H' : Hp) : Prop :=
  (∃ kvs k, H a = some (.dK kvs) ∧ y = kV k ∧ kvs.length < sizeLine ∧ H' = upd H a (.dK (putK kvs k v))) ∨
  ∃ kvs k b, H a = some (.dT kvs) ∧ y = .ref b ∧ H b = some (.tup (k.map kV)) ∧ kvs.length < sizeLine ∧ H' = upd H a (.dT (putK kvs k v))
theorem DGet.k {H : Hp} {a : Addr} {kvs : List (Key × V)} {k : Key} (e : H a = some (.dK kvs)) : DGet H a (kV k) (valV kvs k) := .inl ⟨kvs, k, .inl e, rfl, rfl⟩
theorem DGet.t {H : Hp} {a b : Addr} {kvs : List (List Key × V)} {k : List Key} (e : H a = some (.dT kvs)) (eb : H b = some (.tup (k.map kV))) : DGet H a (.ref b) (valV kvs k) := .inr ⟨kvs, k, b, .inl e, rfl, eb, rfl⟩
theorem DPut.k {H : Hp} {a : Addr} {kvs : List (Key × V)} {k : Key} {v : V} (e : H a = some (.dK kvs)) (hl : kvs.length < sizeLine) : DPut H a (kV k) v (upd H a (.dK (putK kvs k v))) := .inl ⟨kvs, k, e, rfl, hl, rfl⟩
theorem DPut.t {H : Hp} {a b : Addr} {kvs : List (List Key × V)} {k : List Key} {v : V} (e : H a = some (.dT kvs)) (eb : H b = some (.tup (k.map kV))) (hl : kvs.length < sizeLine) :
    DPut H a (.ref b) v (upd H a (.dT (putK kvs k v))) := .inr ⟨kvs, k, b, e, rfl, eb, hl, rfl⟩


section
variable {X : Cx} {pins : List (Addr × Obj)} {σ : St} {H : Hp} {s : Shared} {a : Addr} {y v : V} {u r : Value} {o : Option V} {A : Around} {E : Value → Shared → Prop}

theorem Inv.big (I : Inv X pins σ H s) : sysModules < s.heap.objs.size := by
  have h : mainGlobals < s.heap.objs.size := (I.mod.glob.keeps I.bk).lt
  exact Nat.lt_trans (by decide) h

/-- d[y], there -/
theorem d_getItem {Q : Value → Shared → Prop} (hu : A.units + 1 < cLine) (I : Inv X pins σ H s) (g : DGet H a y (some v)) (ry : RelV y u) (h : ∀ w' s', Inv X pins σ H s' → RelV v w' → Q w' s') :
    wpAny (model X.prog X.w) A (getItem (.ref a) u) Q E s := by
  rcases g with ⟨kvs, k, e, ey, l⟩ | ⟨kvs, k, b, e, ey, eb, l⟩
  · subst ey
    obtain ⟨z, hd, vs, rel, dd⟩ := dk_rd I.hok e
    obtain ⟨w', hw, rw'⟩ := RelO.some_of (v := v) (o := valueAt vs k) (by rw [l]; exact rel.val k)
    exact wpAny_getItem_of (kV_is ry) dd.mapOf hw (h w' _ (I.tok _) rw')
  · subst ey
    cases (show u = Value.ref b from ry)
    obtain ⟨z, hd, xs, rel, dd⟩ := dt_rd I.hok e
    obtain ⟨w', hw, rw'⟩ := RelO.some_of (v := v) (o := (atKey xs k).map (·.2)) (by rw [l]; exact rel.val k)
    obtain ⟨p, hp, hp2⟩ := Option.map_eq_some_iff.mp hw
    refine wpAny_getItem_heap (tupleKind_room_in1 hu) (key_of I.hok eb) dd hp ?_
    rw [hp2]
    exact h w' _ (I.tok _) rw'
/-- a dict's object is replaced -/
theorem d_write {h' : Heap} {t' : Nat} {ob : HO} (I : Inv X pins σ H s) (mu : Mut (H a)) (hs : Heap.SameBut a s.heap h') (he : ∃ q, h'.get? a = some q) (new : ObjOk X.prog X.w (upd H a ob) h' a ob) :
    Inv X pins σ (upd H a ob) { s with heap := h', toks := t' } :=
  I.write (x := a) (e := a) mu (.inl rfl) (fun b q hb z => (hs.2 b hb).trans z) he new
theorem dk_new {P : Program} {w : World} {H' : Hp} {h' : Heap} {kvs : List (Key × V)} {vs : List (Key × Value)} (z : kvs.length ≤ sizeLine) (hd : (a == sysModules) = false) (rel : KV kvs vs) (dd : h'.DictOf (mixKind P w) a vs) :
    ObjOk P w H' h' a (.dK kvs) := ⟨z, hd, vs, rel, dd⟩
/-- d[y] = v -/
theorem d_setItem {H' : Hp} {Q : Unit → Shared → Prop} (hu : A.units + 1 < cLine) (I : Inv X pins σ H s) (g : DPut H a y v H') (ry : RelV y u) (rv : RelV v r) (h : ∀ s', Inv X pins σ H' s' → Q () s') :
    wpAny (model X.prog X.w) A (setItem (.ref a) u r) Q E s := by
  rcases g with ⟨kvs, k, e, ey, l, eH⟩ | ⟨kvs, k, b, e, ey, eb, l, eH⟩
  · subst ey eH
    obtain ⟨z, hd, vs, rel, dd⟩ := dk_of I.hok e
    have hz : vs.length ≤ sizeLine := by rw [← rel.length]; exact z
    have hl : (putK kvs k v).length ≤ sizeLine := by have := length_putK kvs k v; omega
    refine wpAny_setItem_pairs (hsz := hz) (kV_is ry) dd fun h' dd' hs => h _ ?_
    have he : ∃ q, h'.get? a = some q := let ⟨q, _, _, hq, _⟩ := dd'; ⟨q, hq⟩
    exact d_write I (by rw [e]; exact True.intro) hs he (dk_new hl hd (rel.put k rv) dd')
  · subst ey eH
    cases (show u = Value.ref b from ry)
    obtain ⟨z, hd, xs, rel, dd⟩ := dt_of I.hok e
    have hz : xs.length ≤ sizeLine := by rw [← Paired.length rel]; exact z
    have hl : (putK kvs k v).length ≤ sizeLine := by have := length_putK kvs k v; omega
    refine wpAny_setItem_heap (hsz := hz) (tupleKind_room_in1 hu) (key_of I.hok eb) dd fun h' dd' hs => h _ ?_
    obtain ⟨q, es, ep, hq, h2, h3, h4, _, h5⟩ := dd'
    refine d_write I (by rw [e]; exact True.intro) hs ⟨q, hq⟩ ⟨hl, hd, _, (rel.put k eb rv).keeps fun c ys ec => ?_, q, es, ep, hq, h2, h3, h4, h5⟩
    rw [upd_ne (ne_of ec e (fun z => nomatch z))]
    exact ec
end

section
variable {X : Cx} {pins : List (Addr × Obj)} {σ : St} {H : Hp} {s : Shared} {a : Addr} {kvs : List (Key × V)} {k : Key} {u : Value} {A : Around} {E : Value → Shared → Prop}
end


/-! ### readings and rules -/
/-- the element of a subscription, not a slice -/
def NoSl (i : Expr) : Prop := ∀ ov iv, subscripted i false ov iv = operate [ov, iv] (getItem ov iv)
theorem subD_of {prog : Program} {w : World} {A : Around} {E : Value → Shared → Prop} {s : Shared} {env : Env} {value slice : Expr} {pos : Pos} {T id : String} {Q : Value → Shared → Prop}
    (hl : typeLookup (.type T) "__getitem__" = pure (some (.builtin id))) (hs : NoSl slice)
    (h : wpAny (model prog w) A (eval value env) (fun o s₁ => wpAny (model prog w) A (eval slice env) (fun i s₂ => s₂.TypeIs o T ∧ wpAny (model prog w) A (getItem o i) Q E s₂) E s₁) E s) :
    wpAny (model prog w) A (eval (.Subscript value slice pos) env) Q E s := by
  refine Subscript_ (wpAny_mono h (fun o s₁ h₁ => wpAny_mono h₁ (fun i s₂ h₂ => ?_) fun _ _ x => x) fun _ _ x => x)
  obtain ⟨hT, h₂⟩ := h₂
  unfold subscriptTail
  refine wpAny_bind ?_
  rw [getitemInPython_of_ne hT.not_modules]
  refine wpAny_bind (wpAny_specialOf hT hl ?_)
  have fin : wpAny (model prog w) A (subscripted slice false o i) (fun r s₃ => wpAny (model prog w) A (letTemporaryGo value o r >>= fun _ => pure r) Q E s₃) E s₂ := by
    rw [hs o i]
    exact wpAny_operating (wpAny_mono h₂ (fun r s₃ h₃ => wpAny_bind (wpAny_letTemporaryGo (wpAny_pure h₃))) fun _ _ x => x)
  first
    | exact wpAny_pure (wpAny_bind fin)
    | exact wpAny_bind (wpAny_pure (wpAny_bind fin))
    | exact wpAny_bind fin

theorem dict_typeIs {X : Cx} {pins : List (Addr × Obj)} {σ : St} {H : Hp} {s : Shared} {a : Addr} {y : V} {o : Option V} (I : Inv X pins σ H s) (g : DGet H a y o) : s.TypeIs (.ref a) "dict" := by
  rcases g with ⟨kvs, k, e, _, _⟩ | ⟨kvs, k, b, e, _, _, _⟩
  · obtain ⟨_, _, vs, _, dd⟩ := dk_rd I.hok e
    exact dd.typeIs
  · obtain ⟨_, _, xs, _, dd⟩ := dt_rd I.hok e
    exact dd.typeIs
/-- d[y] -/
def tDGet (td ty : TE) : TE := fun σ H Q => td σ H fun x H1 => ty σ H1 fun y H2 => ∃ a v, x = .ref a ∧ DGet H2 a y (some v) ∧ Q v H2
/-- y in d, y not in d -/
def tDIn (ty td : TE) : TE := fun σ H Q => ty σ H fun y H1 => td σ H1 fun x H2 => ∃ a o, x = .ref a ∧ DGet H2 a y o ∧ Q (.bl o.isSome) H2
def tDNotIn (ty td : TE) : TE := fun σ H Q => ty σ H fun y H1 => td σ H1 fun x H2 => ∃ a o, x = .ref a ∧ DGet H2 a y o ∧ Q (.bl (!o.isSome)) H2
/-- d[y] = v -/
def sDPut (td ty tv : TE) : TS := fun D σ H => tv σ H fun v H1 => td σ H1 fun x H2 => ty σ H2 fun y H3 => ∃ a H4, x = .ref a ∧ DPut H3 a y v H4 ∧ D.nx σ H4
/-- d[y] op= v -/
def sDAug (td ty tv : TE) (rd : V → V → Hp → VK → Prop) : TS := fun D σ H => td σ H fun x H1 => ty σ H1 fun y H2 => ∃ a v, x = .ref a ∧ DGet H2 a y (some v) ∧
  tv σ H2 fun y2 H3 => rd v y2 H3 fun z H4 => ∃ H5, DPut H4 a y z H5 ∧ D.nx σ H5
/-- del d[y] -/
def sDDel (td ty : TE) : TS := fun D σ H => td σ H fun x H1 => ty σ H1 fun y H2 => ∃ a kvs k, x = .ref a ∧ H2 a = some (.dK kvs) ∧ y = kV k ∧ (valV kvs k).isSome = true ∧ D.nx σ (upd H2 a (.dK (dropK kvs k)))

section
variable {X : Cx} {o i e value : Expr} {pos pos' tpos : Pos} {td ty tv : TE}
theorem pe_dget (hu : X.A.units + 1 < cLine) (ho : PE X o td) (hi : PE X i ty) (hs : NoSl i) : PE X (.Subscript o i pos) (tDGet td ty) := .mk <| by
  intro pins s σ H Q I h
  refine subD_of PySem.F.slot_dict_getitem.lookup hs (thn (ho pins s σ H _ I h) fun u s1 ⟨x, H1, I1, rx, q1⟩ => thn (hi pins s1 σ H1 _ I1 q1) fun iv s2 ⟨y, H2, I2, ry, a, v, ex, g, q2⟩ => ?_)
  subst ex
  obtain rfl : u = Value.ref a := rx
  exact ⟨dict_typeIs I2 g, d_getItem hu I2 g ry fun w' s3 I3 rw' => ⟨v, H2, I3, rw', q2⟩⟩
theorem ps_dput (hu : X.A.units + 1 < cLine) (ho : PE X o td) (hi : PE X i ty) (hv : PE X value tv) (hs : swapsWith value (some (.Subscript o i pos')) pos.line X.env = pure false) :
    PS X (.Assign [.Subscript o i pos'] value pos) (sDPut td ty tv) := .mk <| by
  intro pins s σ H D I h
  refine wpAny_Assign_Subscript (thn (hv pins s σ H _ I h) fun r s1 ⟨v, H1, I1, rv, q1⟩ => thn (ho pins s1 σ H1 _ I1 q1) fun u s2 ⟨x, H2, I2, rx, q2⟩ => thn (hi pins s2 σ H2 _ I2 q2) fun iv s3 ⟨y, H3, I3, ry, a, H4, ex, g, q3⟩ => ?_) hs
  subst ex
  obtain rfl : u = Value.ref a := rx
  exact d_setItem hu I3 g ry rv fun s4 I4 => ⟨σ, H4, I4, q3⟩
end


/-! ### displays -/
theorem dk_empty {P : Program} {w : World} {H : Hp} (h : Heap) (hb : sysModules < h.objs.size) : ObjOk P w H (h.push { cls := .type "dict", data := .dict #[] }) h.objs.size (.dK []) :=
  ⟨Nat.zero_le _, beq_eq_false_iff_ne.mpr (Ne.symm (Nat.ne_of_lt hb)), [], .nil, Heap.DictOf.new h⟩
/-- {}, to be a dict of the kind that is wanted -/
def tDNewK : TE := fun _ H Q => ∀ p, H p = none → Q (.ref p) (upd H p (.dK []))
def tDNewT : TE := fun _ H Q => ∀ p, H p = none → Q (.ref p) (upd H p (.dT []))
section
variable {X : Cx} {pos : Pos}
end

/-- the pairs of a display, from the left -/
def tPairs : List (TE × TE) → St → Hp → (List (V × V) → Hp → Prop) → Prop
  | [], _, H, Q => Q [] H
  | (tk, tv) :: r, σ, H, Q => tk σ H fun x H1 => tv σ H1 fun y H2 => tPairs r σ H2 fun ps H3 => Q ((x, y) :: ps) H3
abbrev VV : List (V × V) → List (Value × Value) → Prop := Paired fun p q => RelV p.1 q.1 ∧ RelV p.2 q.2
def PPs (X : Cx) (pos : Pos) (keys : List (Option Expr)) (values : List Expr) (trs : List (TE × TE)) : Prop :=
  ∀ (pins : List (Addr × Obj)) (s : Shared) (σ : St) (H : Hp) (Q : List (V × V) → Hp → Prop), Inv X pins σ H s → tPairs trs σ H Q →
    wpAny (model X.prog X.w) X.A (evalPairs (pairTrees keys values X.env pos)) (fun vs s' => ∃ ps H', Inv X pins σ H' s' ∧ VV ps vs ∧ Q ps H') X.xe s
theorem pps_nil {X : Cx} {pos : Pos} : PPs X pos [] [] [] := fun pins s σ H Q I h => pairTrees_nil_walk ⟨[], H, I, .nil, h⟩
theorem pps_cons {X : Cx} {pos : Pos} {k v : Expr} {ks : List (Option Expr)} {vs : List Expr} {tk tv : TE} {trs : List (TE × TE)} (hk : PE X k tk) (hv : PE X v tv) (hr : PPs X pos ks vs trs) :
    PPs X pos (some k :: ks) (v :: vs) ((tk, tv) :: trs) := fun pins s σ H Q I h =>
  pairTrees_cons_walk (thn (hk pins s σ H _ I h) fun u s1 ⟨x, H1, I1, rx, q1⟩ => thn (hv pins s1 σ H1 _ I1 q1) fun w2 s2 ⟨y, H2, I2, ry, q2⟩ =>
    thn (hr pins s2 σ H2 _ I2 q2) fun ws s3 ⟨ps, H3, I3, rel, q3⟩ => ⟨(x, y) :: ps, H3, I3, .cons ⟨rx, ry⟩ rel, q3⟩)

def mergeK (kvs more : List (Key × V)) : List (Key × V) := more.foldl (fun acc kv => putK acc kv.1 kv.2) kvs
theorem KV.merge : ∀ {more : List (Key × V)} {rs : List (Key × Value)} {kvs : List (Key × V)} {vs : List (Key × Value)}, KV more rs → KV kvs vs → KV (mergeK kvs more) (merged vs rs) := by
  intro more rs kvs vs r
  unfold KV at r
  induction r generalizing kvs vs with
  | nil => intro q; exact q
  | @cons p q ps qs h t ih =>
    intro r0
    have e : KV (putK kvs p.1 p.2) (stored vs q.1 q.2) := by
      have := r0.put p.1 h.2
      rw [← h.1]; exact this
    exact ih e
theorem length_mergeK : ∀ (more kvs : List (Key × V)), (mergeK kvs more).length ≤ kvs.length + more.length
  | [], kvs => by show kvs.length ≤ kvs.length + 0; omega
  | p :: r, kvs => by
    have h1 := length_mergeK r (putK kvs p.1 p.2)
    have h2 := length_putK kvs p.1 p.2
    show (mergeK (putK kvs p.1 p.2) r).length ≤ _
    rw [List.length_cons]; omega
theorem carries_of {P : Program} {w : World} : ∀ {kvs : List (Key × V)} {ws : List (Value × Value)}, VV (kvs.map fun kv => (kV kv.1, kv.2)) ws → ∃ rs, Carries (mixKind P w) ws rs ∧ KV kvs rs
  | [], _, r => by rw [List.map_nil] at r; cases r; exact ⟨[], True.intro, .nil⟩
  | p :: kvs, _, r => by
    rw [List.map_cons] at r
    cases r with
    | @cons a b as bs h t =>
      obtain ⟨rs, c, q⟩ := carries_of (P := P) (w := w) t
      obtain ⟨b1, b2⟩ := b
      exact ⟨(p.1, b2) :: rs, ⟨kV_is h.1, rfl, c⟩, .cons ⟨rfl, h.2⟩ q⟩
/-- {k: v, ..} with keys ints and texts; the new dict stands empty while the pairs are made -/
def tDisp (trs : List (TE × TE)) : TE := fun σ H Q => ∀ p, H p = none → tPairs trs σ (upd H p (.dK [])) fun ps H2 => H2 p = some (.dK []) ∧ ∃ kvs : List (Key × V), ps = kvs.map (fun kv => (kV kv.1, kv.2)) ∧ kvs.length ≤ 15 ∧ Q (.ref p) (upd H2 p (.dK (mergeK [] kvs)))
theorem pe_disp {X : Cx} {pos : Pos} {keys : List (Option Expr)} {values : List Expr} {trs : List (TE × TE)} (h : PPs X pos keys values trs) (hall : keys.all (·.isSome) = true) (hl : keys.length = values.length) (h0 : keys ≠ [])
    (h15 : keys.length ≤ 15) : PE X (.Dict keys values pos) (tDisp trs) := .mk <| by
  intro pins s σ H Q I q
  have hn := I.hok.fresh (Nat.le_refl s.heap.objs.size)
  have I1 := I.laid (a := s.heap.objs.size) (o := .dK []) (h' := s.heap.push { cls := .type "dict", data := .dict #[] }) (t' := s.toks) (fun _ _ q => Heap.get?_push_of_some _ q) (Nat.le_refl _) (dk_empty s.heap I.big)
  refine wpAny_Dict_walk (knd := mixKind X.prog X.w) hall hl h0 h15 (thn (h pins _ σ _ _ I1 (q _ hn)) fun ws s2 ⟨ps, H2, I2, rel, e, kvs, ep, lk, q2⟩ => ?_)
  subst ep
  obtain ⟨rs, c, rk⟩ := carries_of (P := X.prog) (w := X.w) rel
  obtain ⟨z, hd, vs0, r0, dd⟩ := dk_of I2.hok e
  cases r0
  refine ⟨rs, c, dd, fun h' dd' hs => ⟨.ref s.heap.objs.size, _, ?_, rfl, q2⟩⟩
  have hz : (mergeK [] kvs).length ≤ sizeLine := by
    have h1 := length_mergeK kvs []
    rw [List.length_nil] at h1
    rw [sizeLine_eq]; omega
  have he : ∃ q, h'.get? s.heap.objs.size = some q := let ⟨q, _, _, hq, _⟩ := dd'; ⟨q, hq⟩
  exact d_write I2 (by rw [e]; exact True.intro) hs he (dk_new hz hd (rk.merge .nil) dd')


/-! ### methods -/
/-- a method call o.m(e) of a built-in, with one argument: what must be seen of the text -/
structure M1 (X : Cx) (o : Expr) (m : Str) (apos : Pos) (e : Expr) (cpos : Pos) : Prop where
  base : attributeBase o m X.env (eval o X.env) = eval o X.env
  few : ((backTo cpos (starEach [e] X.env)).all (fun x => !x.1) && (backToKw cpos (keywordEach [] X.env)).all (fun x => x.1.isSome)
    && decide (([e] : List Expr).length + ([] : List Keyword).length + (if ([] : List Keyword).isEmpty then 0 else 1) < 30)) = true
  line : (apos.endLine == cpos.line) = true
  trees : backTo cpos (starEach [e] X.env) = [(false, eval e X.env)]
structure M2 (X : Cx) (o : Expr) (m : Str) (apos : Pos) (e f : Expr) (cpos : Pos) : Prop where
  base : attributeBase o m X.env (eval o X.env) = eval o X.env
  few : ((backTo cpos (starEach [e, f] X.env)).all (fun x => !x.1) && (backToKw cpos (keywordEach [] X.env)).all (fun x => x.1.isSome)
    && decide (([e, f] : List Expr).length + ([] : List Keyword).length + (if ([] : List Keyword).isEmpty then 0 else 1) < 30)) = true
  line : (apos.endLine == cpos.line) = true
  trees : backTo cpos (starEach [e, f] X.env) = [(false, eval e X.env), (false, eval f X.env)]

/-- a is a dict, whatever its keys -/
def IsD (H : Hp) (a : Addr) : Prop := (∃ kvs, Rd H a (.dK kvs)) ∨ ∃ kvs, Rd H a (.dT kvs)
section
variable {X : Cx} {pins : List (Addr × Obj)} {σ : St} {H : Hp} {s : Shared} {a : Addr} {y d : V} {u r : Value} {o : Option V} {A : Around} {E : Value → Shared → Prop}
end

def tDGet1 (td ty : TE) : TE := fun σ H Q => td σ H fun x H1 => ∃ a, x = .ref a ∧ IsD H1 a ∧ ty σ H1 fun y H2 => ∃ o, DGet H2 a y o ∧ Q (o.getD .non) H2
def tDGet2 (td ty tx : TE) : TE := fun σ H Q => td σ H fun x H1 => ∃ a, x = .ref a ∧ IsD H1 a ∧ ty σ H1 fun y H2 => tx σ H2 fun z H3 => ∃ o, DGet H3 a y o ∧ Q (o.getD z) H3
/-- d.pop(k): there; d.pop(k, x): there or not -/
def tDPop1 (td ty : TE) : TE := fun σ H Q => td σ H fun x H1 => ∃ a, x = .ref a ∧ IsD H1 a ∧ ty σ H1 fun y H2 => ∃ kvs k v, H2 a = some (.dK kvs) ∧ y = kV k ∧ valV kvs k = some v ∧ Q v (upd H2 a (.dK (dropK kvs k)))
def tDPop2 (td ty tx : TE) : TE := fun σ H Q => td σ H fun x H1 => ∃ a, x = .ref a ∧ IsD H1 a ∧ ty σ H1 fun y H2 => tx σ H2 fun z H3 => ∃ kvs k, H3 a = some (.dK kvs) ∧ y = kV k ∧
  (∀ v, valV kvs k = some v → Q v (upd H3 a (.dK (dropK kvs k)))) ∧ (valV kvs k = none → Q z H3)
section
variable {X : Cx} {o e f : Expr} {apos cpos : Pos} {td ty tx : TE}
end

/-! ### dict(d): a copy -/
section
variable {X : Cx} {pins : List (Addr × Obj)} {σ : St} {H : Hp} {s : Shared} {a : Addr} {kvs : List (Key × V)} {A : Around} {E : Value → Shared → Prop}
end


section
variable {X : Cx} {pins : List (Addr × Obj)} {σ : St} {H : Hp} {s : Shared} {a : Addr} {y : V} {u : Value} {A : Around} {E : Value → Shared → Prop}
end
end L2

namespace Att
open PySem PySem.W PySem.Calls PyProof.Rows

/-! ### the script -/
theorem ints_of_wellAll {P : Params} {h : Heap} : ∀ (ns : List Int) (vs : List Value), WellAll P h vs (ns.map WData.int) → IntsAre vs ns := by
  intro ns
  induction ns with
  | nil =>
    intro vs w
    rw [List.map_nil] at w
    cases w
    exact .nil
  | cons n ns ih =>
    intro vs w
    rw [List.map_cons] at w
    cases w with
    | cons a b =>
      cases a
      exact .cons _ _ (ih _ b)

theorem script_of {l : OpenLaw} {n : Nat} (hn : l.most = some n) {P : Params} {h : Heap} {args : List WData} {vals : List Value}
    (hpre : l.row.toRowW.claim.pre args = true) (hwl : WellAll P h vals args) :
    ∃ a vs ns, vals = [Value.ref a] ∧ args = [WData.list (ns.map WData.int)] ∧ h.get? a = some { cls := .type "list", data := .seq vs.toArray } ∧ IntsAre vs ns ∧ ns.length ≤ n := by
  have hsh : WShape.hasAll [] args [.list .int] = true := (pre_splitW hpre).1
  have hc : l.pre.holds [] { args := args } = true := (pre_splitW hpre).2
  obtain ⟨d, r, rfl, h1, h2⟩ := hasAllW_cons hsh
  obtain rfl := hasAllW_nil h2
  obtain ⟨xs, rfl, h3⟩ := hasW_list h1
  obtain ⟨ns, rfl⟩ := items_int h3
  have hlen : ns.length ≤ n := by
    unfold OpenLaw.pre at hc
    have h4 : (WTm.not (.lt (.lit (.int (n : Int))) (.len (.arg 0)))).holds [] { args := [.list (ns.map .int)] } = true := by
      have h4 := (holds_andW hc).1
      rw [hn] at h4
      exact h4
    have h5 := condW_of h4 (w_not (w_lt w_lit (w_len_list (w_arg rfl))))
    rw [List.length_map] at h5
    refine Nat.le_of_not_lt fun q => ?_
    have q' : (n : Int) < ((ns.length : Nat) : Int) := by omega
    first
      | (rw [decide_eq_true q'] at h5; exact absurd h5 (by decide))
      | (simp at h5; omega)
  cases hwl with
  | cons w1 w2 =>
    cases w2
    cases w1 with
    | list ho hall => exact ⟨_, _, ns, rfl, rfl, ho, ints_of_wellAll ns _ hall, hlen⟩

theorem post_true (l : OpenLaw) (args : List WData) : l.row.toRowW.claim.post args (.bool true) args = true :=
  postW_of (r := l.row.toRowW) (X := (true == true))
    (show WShape.has [] (.bool true) .bool = true by first | rfl | decide | simp [WShape.has, WShape.arms, WShape.armsAll])
    (show (WTm.eq .res (.lit (.bool true))).value [] { args := args, res := some (.bool true), after := args } = some (.bool (true == true)) from w_eq_bool (w_res rfl) w_lit) rfl

/-! ### the attachment: holds_open's last premise (the goal 'hc' behind k_head) from a wpAny of the law's body -/
/-- the same from a codeAny of the CALL (for a layer whose function contracts speak of calls) -/
theorem attach_call {l : OpenLaw} {n : Nat} {q : Program} {loose : List Str} {XP : (Str → Option Value) → Heap → Prop} {YP : World → Heap → Prop} {d : DefRec}
    (hn : l.most = some n) (hdf : d.params.defaults = [])
    (call : ∀ (w : World) (s₀ s₁ : Shared) (mg mb : Str → Option Value) (fa : Addr) (o : Obj) (pm cd doc : Value) (a : Addr) (vs : List Value) (ns : List Int),
      Ground q loose [] XP w s₀ mg mb s₁.heap → YP w s₁.heap →
      s₁.heap.get? fa = some o → o.data = .func (docDef d.name d.params d.body d.scope pm cd doc) → s₁.heap.CodeRec cd d.name → mg d.name = some (.ref fa) →
      s₁.heap.get? a = some { cls := .type "list", data := .seq vs.toArray } → IntsAre vs ns → ns.length ≤ n → s₁.gens = #[] →
      codeAny (model l.prog w) callerA (.call (.ref fa) ⟨[.ref a], []⟩) (fun r s' => r = .ok (.ret (.bool true)) ∧ OldK s₁.heap s'.heap ∧ s'.os = s₁.os ∧ AllBare s'.gens) s₁) :
    WalkO q loose XP YP l.row.toRowW d [] (fun f vs => PySem.call f vs) := by
  intro w s₀ s₁ mg mb G Y fa o pm cd doc dV kV ho hd hcd hD hmg hg args vals as hpre hlay hrd hwl hlo
  obtain rfl : dV = .none := Dflts.none hD hdf
  obtain rfl : kV = .none := Dflts.noKw hD
  obtain ⟨a, vs, ns, rfl, rfl, hobj, hints, hlen⟩ := script_of hn hpre hwl
  refine enter_call (codeAny_mono (call w s₀ s₁ mg mb fa o pm cd doc a vs ns G Y ho (fd_plain hd) hcd hmg hobj hints hlen hg) fun r s' hq => ?_)
  obtain ⟨rfl, h2, h3, h4⟩ := hq
  exact ⟨.inl ⟨.bool true, .bool true, [], rfl, fun _ => rfl, .bool true, post_true l _, fun _ => ⟨List.Pairwise.nil, fun _ hm => (nomatch hm)⟩⟩, h2, h3, h4⟩

/-! ### rules over ANY heap (no ledger) from facts about the written part K: the library's own take a ledger (News) for what they write -/
section
variable {prog : Program} {w : World} {A : Around} {E : Value → Shared → Prop} {s : Shared} {K : Frag}

/-! the whole heap as the ledger: makes every rule that writes through a ledger a rule over any heap -/
def noObjs (h : Heap) : Heap := { h with objs := #[] }
def ledger (h : Heap) (L d : Addr) : List (Addr × Obj) := (List.range h.objs.size).filterMap fun a => if a = L ∨ a = d then none else (h.get? a).map fun o => (a, o)
end
end Att

namespace L2
open PySem PySem.Spec PyProof.Rows

theorem vals_ints : ∀ {vs : List Value} {ns : List Int}, IntsAre vs ns → Vals (ns.map V.int) vs
  | _, _, .nil => .nil
  | _, _, .cons n t h => .cons ⟨t, rfl⟩ (vals_ints h)

/-- nothing is tracked but the script, known to the object (or it is an object of the module) -/
def Only (_ : Hp) : Prop := True

end L2

namespace L2
open PySem PySem.Spec PyProof.Rows

abbrev KOf {K : PySem.W.Frag} {h : Heap} (_ : K.In h) : PySem.W.Frag := K

end L2

/- THE LAST THEOREM (shape; LID, My.* are yours):
   My.Adr: a structure of the addresses that your layer names (classes, functions); My.Txt K t: a structure (Prop) of the equations over K;
   My.txt_mk : {K} {implicit addresses ..} (e1 : nsIn K mainGlobals "law" = some (some (.ref f))) (e2 : K.lookup f = some ⟨oc, od, .func (fnOf "law" "law" params body scope dV kV doc pm an cdv ct), sl⟩) (e3 : codeIn K cdv "law" = true) .. : ∃ t, My.Txt K t

set_option maxRecDepth 100000 in
set_option maxHeartbeats 0 in
theorem PySem.Challenge.cw_LID_holds : PySem.Challenge.rw_LID.Holds := by
  w_on; o_law; k_head; (case hw => w_witness2)
  k_fill
  refine L2.walk_of (l := PySem.Challenge.rw_LID) (n := 63) (k := 40) (x := "script") (CX := fun w => ..) (sp := fun _ => My.sp_law) rfl (by decide) rfl ⟨rfl, by decide, by decide⟩ (fun w h Y => PySem.W.kIn_of Y) ?F ?S ?C
  case F =>
    intro w mg fa h KX G hmg
    have T : ∃ t, My.Txt (L2.KOf KX) t := by
      dsimp only [L2.KOf]                          -- K must stand as «<heap const> w.params» for k_is
      refine' My.txt_mk ?e1 ?e2 ?e3 ..
      (case e1 => PySem.W.k_is)                    -- in the order: a name -> its address -> its object -> its parts
      (case e2 => PySem.W.k_is)
      ..
    obtain ⟨t, T⟩ := T
    have e0 := hmg.symm.trans (PySem.W.mg_of KX G T.law)
    cases e0                                       -- fa is the law's own address
    exact ⟨_, fun s u => .of_eq rfl, fun base kb nb => My.law_fn T kb nb⟩     -- if «.of_eq rfl» comes too early: refine' ⟨_, ?b, fun base kb nb => My.law_fn T kb nb⟩; exact fun s u => .of_eq rfl
  case S => exact fun w H a ns hl hO hS => ..
  case C => exact ..
(the tactic k_is has no namespace: write k_is) -/

/-! SHORT WORDS over the layer: a def of the text, its body, what a loop and a test want. -/
namespace L2
open PySem PySem.Spec PyProof.Rows

/-! ### the text by places -/
/-- the j-th statement of a class's body -/
def inClass (s : Stmt) (j : Nat) : Stmt := match s with
  | .ClassDef _ _ _ body _ _ _ _ _ _ _ => body.getD j (.Pass ⟨0, 0, 0, 0⟩)
  | _ => .Pass ⟨0, 0, 0, 0⟩
def defArgs (s : Stmt) : Arguments := match s with
  | .FunctionDef _ a _ _ _ _ _ _ _ _ => a
  | _ => { posonlyargs := [], args := [], vararg := none, kwonlyargs := [], kw_defaults := [], kwarg := none, defaults := [] }
def defBody (s : Stmt) : List Stmt := match s with
  | .FunctionDef _ _ b _ _ _ _ _ _ _ => b
  | _ => []
def defScope (s : Stmt) : Scope := match s with
  | .FunctionDef _ _ _ _ _ _ sc _ _ _ => sc
  | _ => { kind := .function, names := [], isGenerator := false, isCoroutine := false }

/-! ### no exception leaves a def -/
abbrev CX0 : CXT := fun _ _ _ _ _ _ => False
abbrev E0 : XK := fun _ _ _ => False
theorem pass0 {X : Cx} : Passes CX0 X E0 := fun _ _ _ _ _ _ _ h => h.elim

/-! ### a def (or method) of the text as it stands behind the top -/
structure Fun (K : PySem.W.Frag) (x qual : Str) (st : Stmt) (f : Addr) (fd : FuncData) : Prop where
  ex : ∃ (oc : Value) (od : Option Addr) (kV doc pm : Value) (an : Option Addr) (cdv ct : Value) (osl : Array (Option Value)),
    fd = PySem.W.fnOf x qual (defArgs st) (defBody st) (defScope st) .none kV doc pm an cdv ct ∧ K.lookup f = some ⟨oc, od, .func fd, osl⟩ ∧ PySem.W.codeIn K cdv qual = true
  kp : PySem.W.keepIn K (.ref f) = true
section
variable {P : Program} {w : World} {K : PySem.W.Frag} {mg : Str → Option Value} {base : Heap}
/-- THE RULE for a def: its body as a term of rules, and the reading of that term -/
theorem Fun.ok {x qual : Str} {st : Stmt} {f : Addr} {fd : FuncData} {N ps : List Str} {k : Nat} {sp : Sp} (F : Fun K x qual st f fd) (S : FnScope N ps (defScope st)) (len : ∀ vs H Q E, sp vs H Q E → vs.length = ps.length)
    (hbody : ∀ (cdv : Value) (A : Around) (outer : List Env) (s : Shared) (H : Hp) (vs : List V) (Q : VK) (E : XK), Room k (A.deeper (envOfC qual (defScope st) s.heap.objs.size f cdv)) → sp vs H Q E →
      ∃ t, PSs (cxOf CX0 P w K mg base N qual (defScope st) f cdv A outer s H E).nox (defBody st) t ∧ t { nx := fun _ H' => Q .non H', rt := Q } (start N vs) H) : FnOk P w K mg base CX0 (k + 1) f fd ps sp := by
  obtain ⟨oc, od, kV, doc, pm, an, cdv, ct, osl, rfl, lk, hcd⟩ := F.ex
  refine fn_of lk hcd S len fun A outer s H vs Q E hr hsp => ?_
  obtain ⟨t, h, q⟩ := hbody cdv A outer s H vs Q E hr hsp
  exact ⟨t, h.nox, q⟩
/-- how its arguments bind (no defaults): h is «fun _ _ _ _ _ _ us hl => match us, hl with | [_, _], _ => rfl», one _ a parameter -/
theorem Fun.binds {x qual : Str} {st : Stmt} {f : Addr} {fd : FuncData} {ps : List Str} (F : Fun K x qual st f fd)
    (h : ∀ (kV doc pm : Value) (an : Option Addr) (cdv ct : Value) (us : List Value), us.length = ps.length → bindArgs (PySem.W.fnOf x qual (defArgs st) (defBody st) (defScope st) .none kV doc pm an cdv ct) ⟨us, []⟩ = pure (ps.zip us)) : Binds K fd ps [] := by
  obtain ⟨oc, od, kV, doc, pm, an, cdv, ct, osl, rfl, lk, hcd⟩ := F.ex
  exact .all (h kV doc pm an cdv ct)
theorem fun_mk {x qual : Str} {st : Stmt} {f : Addr} {oc : Value} {od an : Option Addr} {osl : Array (Option Value)} {kV doc pm cdv ct : Value} (l : K.lookup f = some ⟨oc, od, .func (PySem.W.fnOf x qual (defArgs st) (defBody st) (defScope st) .none kV doc pm an cdv ct), osl⟩)
    (c : PySem.W.codeIn K cdv qual = true) (k : PySem.W.keepIn K (.ref f) = true) : Fun K x qual st f (PySem.W.fnOf x qual (defArgs st) (defBody st) (defScope st) .none kV doc pm an cdv ct) := ⟨⟨oc, od, kV, doc, pm, an, cdv, ct, osl, rfl, l, c⟩, k⟩
end
theorem hu_of {A : Around} {k : Nat} (hr : Room k A) : A.units + 1 < cLine := Nat.lt_of_le_of_lt (Nat.add_le_add_left (by decide : 1 ≤ 64) _) hr.units
theorem small1000 {n : Nat} (h : n ≤ 1000) : n < sizeLine := Nat.lt_of_le_of_lt h (by decide)

/-! ### expressions in short: the name that stands in the i-th slot -/
section
variable {X : Cx}
theorem pv (i : Nat) {x : Str} {pos : Pos} (hN : X.N[i]? = some x := by rfl) (hv : Vis X.env.scope x := by first | exact Or.inl rfl | exact Or.inr (Or.inl rfl) | exact Or.inr (Or.inr rfl)) (hd : (x == ("__debug__" : Str)) = false := by decide)
    (hcd : (x == ("__classdict__" : Str)) = false := by decide) : PE X (.Name x pos) (tVar i) := pe_var hN hv hd hcd
end

/-! ### tests -/
theorem iteF {A B : Prop} (h : B) : if false = true then A else B := by
  rw [if_neg Bool.false_ne_true]
  exact h
theorem iteT {A B : Prop} (h : A) : if true = true then A else B := by
  rw [if_pos rfl]
  exact h
theorem ite2 {c A B : Prop} [Decidable c] (h1 : c → A) (h2 : ¬ c → B) : if c then A else B := by
  by_cases h : c
  · rw [if_pos h]
    exact h1 h
  · rw [if_neg h]
    exact h2 h
theorem iteNS {c A B : Prop} [Decidable c] (hc : c) (h : B) : if (!decide c) = true then A else B := by
  rw [decide_eq_true hc]
  exact iteF h

/-! ### heaps -/
/-- all that was tracked is as it was -/
def Same (H H' : Hp) : Prop := ∀ b o, H b = some o → H' b = some o
theorem Same.refl (H : Hp) : Same H H := fun _ _ h => h
theorem Same.trans {H H1 H2 : Hp} (a : Same H H1) (b : Same H1 H2) : Same H H2 := fun c o h => b c o (a c o h)
theorem Same.free {H H' : Hp} (e : Same H H') {l : Addr} (h : H' l = Option.none) : H l = Option.none := by
  cases q : H l with
  | none => rfl
  | some o =>
    rw [e l o q] at h
    cases h
theorem Same.seq {K : PySem.W.Frag} {H H' : Hp} {a : Addr} {xs : List V} (e : Same H H') (h : SqL K H a xs) : SqL K H' a xs := by
  rcases h with (h | ⟨o, h⟩) | h
  · exact .inl (.inl (e _ _ h))
  · exact .inl (.inr ⟨o, e _ _ h⟩)
  · exact .inr h

/-! ### a dict's pairs: keys that differ -/
section
variable {κ : Type} [DecidableEq κ]
end
end L2


set_option Elab.async false
set_option linter.all false
set_option maxRecDepth 100000
set_option maxHeartbeats 1000000
namespace L2
open PySem PySem.Spec PyProof.Rows
/-! ### comprehensions: the tree's own steps -/
section
variable {prog : Program} {w : World} {A : Around} {E : Value → Shared → Prop} {R : Result → Shared → Prop} {s : Shared}
/-- what a turn does behind its tests: the next clause, or the element laid onto the list -/
def compTail (elt : Expr) (gens : List Comprehension) (scope : Scope) (pos : Pos) (d : Nat) (acc : Value) (env : Env) : Sem Unit :=
  match gens[d + 1]? with
  | some g' => do
    let x ← eval g'.iter env
    standAt g'.iter.pos
    let x ← if g'.is_async != 0 then foldedIterable g'.iter x else foldedSetIterable g'.iter env x
    let _ ← runOwn (.compStart (.ListComp elt gens scope pos) (d + 1) (← holding [x] (if g'.is_async != 0 then asyncIter x else pyIter x)) acc env) env
  | none => do let _ ← call (.builtin "list.append") [acc, ← eval elt env]

theorem compLoop_gen {elt target iter : Expr} {gens : List Comprehension} {ifs : List Expr} {scope : Scope} {pos : Pos} {d : Nat} {it acc : Value} {env : Env} (I : Nat → Shared → Prop)
    (hg : gens[d]? = some ⟨target, iter, ifs, 0⟩) (ha : ∀ g', gens[d + 1]? = some g' → g'.is_async = 0)
    (turn : ∀ n s, I n s → wpAny (model prog w) A (pyNext it) (fun r s₁ => match r with
      | none => R (.ok .next) s₁
      | some v => wpAny (model prog w) A (letOwnedTupleGo target it v) (fun _ s₁' => wpAny (model prog w) A (assign target env v) (fun _ s₂ =>
          wpAny (model prog w) A (forIn ifs true fun c r => if r = true then do let ok ← isTrue c env (eval c env); pure (ForInStep.yield ok) else pure (ForInStep.yield r)) (fun ok s₃ =>
            if ok = true then wpAny (model prog w) A (compTail elt gens scope pos d acc env) (fun _ s₅ => ∃ m, m < n ∧ I m s₅) (fun _ _ => False) s₃
            else ∃ m, m < n ∧ I m s₃) (fun _ _ => False) s₂) (fun _ _ => False) s₁') (fun _ _ => False) s₁) (fun _ _ => False) s)
    (n : Nat) (h : I n s) :
    codeAny (model prog w) A (.compLoop (.ListComp elt gens scope pos) d it acc env) R s := by
  refine codeAny_loop rfl I (fun n s hI => ?_) n h
  show wpAny _ A ((compTurn (.ListComp elt gens scope pos) d it acc env).onRaise (fun x => do noteFrame x env; theTreesLotGoes x)) _ _ s
  refine wpAny_noted ?_
  unfold compTurn
  simp only [hg]
  refine wpAny_bind (wpAny_standAt (wpAny_bind (wpAny_mono (turn n s hI) (fun r s₁ h₁ => ?_) fun _ _ x => x.elim)))
  cases r with
  | none => exact wpAny_pure h₁
  | some v =>
    refine wpAny_bind (wpAny_mono h₁ (fun _ s₁' h₁' => ?_) fun _ _ x => x.elim)
    refine wpAny_bind (wpAny_mono h₁' (fun _ s₂ h₂ => wpAny_bind (wpAny_mono h₂ (fun ok s₃ h₃ => ?_) fun _ _ x => x.elim)) fun _ _ x => x.elim)
    cases ok with
    | false => exact wpAny_pure ⟨rfl, h₃⟩
    | true =>
      have h₃' : wpAny (model prog w) A (compTail elt gens scope pos d acc env) (fun _ s₅ => ∃ m, m < n ∧ I m s₅) (fun _ _ => False) s₃ := h₃
      unfold compTail at h₃'
      rw [if_pos rfl]
      cases hd : gens[d + 1]? with
      | none =>
        rw [hd] at h₃'
        exact wpAny_bind (wpAny_mono h₃' (fun _ s₅ h₅ => wpAny_pure ⟨rfl, h₅⟩) fun _ _ x => x.elim)
      | some g' =>
        rw [hd] at h₃'
        have h0 := ha g' hd
        have e0 : (g'.is_async != 0) = false := by rw [h0]; rfl
        dsimp only at h₃' ⊢
        simp only [e0, Bool.false_eq_true, if_false] at h₃' ⊢
        intro Γ p hΓ
        have q := h₃' Γ p hΓ
        simp only [Sem.wp_bind'] at q ⊢
        refine Sem.wp_mono _ Γ _ (fun x p₁ s₄ q₁ => ?_) (fun _ _ _ z => z.elim) _ _ q
        refine Sem.wp_mono _ Γ _ (fun _ p₂ s₄ q₂ => ?_) (fun _ _ _ z => z.elim) _ _ q₁
        refine Sem.wp_mono _ Γ _ (fun x p₂ s₄ q₂ => ?_) (fun _ _ _ z => z.elim) _ _ q₂
        refine Sem.wp_mono _ Γ _ (fun x p₂ s₄ q₂ => ?_) (fun _ _ _ z => z.elim) _ _ q₂
        refine Sem.wp_mono _ Γ _ (fun x p₂ s₄ q₂ => ?_) (fun _ _ _ z => z.elim) _ _ q₂
        exact ⟨rfl, q₂⟩
end
end L2

set_option Elab.async false
set_option linter.all false
set_option maxRecDepth 100000
set_option maxHeartbeats 1000000
namespace L2
open PySem PySem.Spec PyProof.Rows
/-! ### comprehensions: the start of a loop -/
section
variable {prog : Program} {w : World} {A : Around} {E : Value → Shared → Prop} {R : Result → Shared → Prop} {s : Shared}
theorem compStart_gen {elt target iter : Expr} {gens : List Comprehension} {ifs : List Expr} {scope : Scope} {pos : Pos} {d : Nat} {it acc : Value} {env : Env}
    (hg : gens[d]? = some ⟨target, iter, ifs, 0⟩)
    (h0 : codeAny (model prog w) A (.compLoop (.ListComp elt gens scope pos) d it acc env) R s)
    (h : wpAny (model prog w) A (pyIter it) (fun it' s' => codeAny (model prog w) A (.compLoop (.ListComp elt gens scope pos) d it' acc env) R s') (fun _ _ => False) s) :
    codeAny (model prog w) A (.compStart (.ListComp elt gens scope pos) d it acc env) R s := by
  refine codeAny_of_tree ?_
  show wpAny _ _ ((compStart (.ListComp elt gens scope pos) d it acc env).onRaise (fun x => do noteFrame x env; standAt theWindowsPlace)) _ _ s
  refine wpAny_notedAt ?_
  unfold compStart
  have hcl : clausesOf (.ListComp elt gens scope pos) = gens := rfl
  simp only [hcl, hg, Option.elim]
  refine wpAny_ite ?_
  rw [if_neg (by decide)]
  refine wpAny_bind (wpAny_askSetting (wpAny_ite ?_))
  split
  · first
      | exact wpAny_bind (wpAny_pure (wpAny_pure (And.intro rfl h0)))
      | exact wpAny_pure (And.intro rfl h0)
  · exact wpAny_bind (wpAny_rule (wpAny_bind (wpAny_standAt (wpAny_bind (wpAny_mono h (fun it' s' h' => wpAny_pure (And.intro rfl h')) fun _ _ x => x.elim)))))
end

/-! ### the judgements -/
/-- what a turn does behind its tests: the list's address, the block's slots, the heap, what is wanted -/
abbrev TL := Addr → St → Hp → (St → Hp → Prop) → Prop
def PL (X : Cx) (elt : Expr) (gens : List Comprehension) (scope : Scope) (pos : Pos) (d : Nat) (t : TL) : Prop :=
  ∀ (pins : List (Addr × Obj)) (s : Shared) (σ : St) (H : Hp) (acc : Addr) (K : St → Hp → Prop), Inv X pins σ H s → t acc σ H K →
    wpAny (model X.prog X.w) X.A (compTail elt gens scope pos d (.ref acc) X.env) (fun _ s' => ∃ σ' H', Inv X pins σ' H' s' ∧ K σ' H') (fun _ _ => False) s
/-- the tests -/
def PTs (X : Cx) (ifs : List Expr) (t : TT) : Prop :=
  ∀ (pins : List (Addr × Obj)) (s : Shared) (σ : St) (H : Hp) (Q : Bool → Hp → Prop), Inv X pins σ H s → t σ H Q →
    wpAny (model X.prog X.w) X.A (forIn ifs true fun c r => if r = true then do let ok ← isTrue c X.env (eval c X.env); pure (ForInStep.yield ok) else pure (ForInStep.yield r)) (TP X pins σ Q) X.xe s
def tNoTest : TT := fun _ H Q => Q true H
/-- the element -/
def lLast (te : TE) : TL := fun acc σ H K => te σ H fun y H1 => ∃ xs, H1 acc = some (.lst xs) ∧ xs.length < sizeLine ∧ K σ (upd H1 acc (.lst (xs ++ [y])))
/-- the turns -/
def lLoop (J : It) (g : TG) (tc : TT) (l : TL) : TL := fun acc σ H K => ∃ W : Nat → Nat → St → Hp → Prop, (∃ m, W 0 m σ H) ∧ ∀ i m σ H, W i m σ H →
  (J.stop i H ∧ K σ H) ∨ (J.go i H ∧ ∀ x H', J.yld i H x H' → g x σ H' fun σ2 H2 => tc σ2 H2 fun b H3 =>
    if b = true then l acc σ2 H3 (fun σ3 H4 => ∃ m', m' < m ∧ W (i + 1) m' σ3 H4) else ∃ m', m' < m ∧ W (i + 1) m' σ2 H3)
/-- a clause within -/
def lFor (wi : TI) (g : TG) (tc : TT) (l : TL) : TL := fun acc σ H K => wi σ H fun J H1 => lLoop J g tc l acc σ H1 K
section
variable {X : Cx} {elt : Expr} {gens : List Comprehension} {scope : Scope} {pos : Pos} {d : Nat} {te : TE} {l : TL} {tg iter : Expr} {ifs : List Expr} {wi : TI} {g : TG} {tc : TT}
theorem pts_nil : PTs X [] tNoTest := fun pins s σ H Q I h => wpAny_tests_nil ⟨H, I, h⟩
theorem pl_last (hx : X.xe = fun _ _ => False) (hd : gens[d + 1]? = none) (he : PE X elt te) : PL X elt gens scope pos d (lLast te) := by
  intro pins s σ H acc K I h
  unfold compTail
  rw [hd]
  have he' := he pins s σ H _ I h
  rw [hx] at he'
  refine wpAny_bind (thn he' fun u s1 ⟨y, H1, I1, r1, xs, e1, z1, k1⟩ => ?_)
  have ha := mt_append pins s1 σ H1 (.ref acc) [y] (.ref acc) [u] (fun v H2 => v = .non ∧ H2 = upd H1 acc (.lst (xs ++ [y]))) I1 rfl (.cons r1 .nil) ⟨acc, xs, y, rfl, rfl, e1, z1, rfl, rfl⟩
  rw [hx] at ha
  refine wpAny_bind (thn ha fun v s2 ⟨v', H2, I2, r2, e2, e3⟩ => wpAny_pure ⟨σ, H2, I2, by rw [e3]; exact k1⟩)
/-- THE LOOP at depth d -/
theorem comp_loop (hx : X.xe = fun _ _ => False) (hc : X.calm = true) (hd : gens[d]? = some ⟨tg, iter, ifs, 0⟩) (ha : ∀ g', gens[d + 1]? = some g' → g'.is_async = 0) (hg : PG X tg g) (ht : PTs X ifs tc) (hl : PL X elt gens scope pos d l)
    {pins : List (Addr × Obj)} {s : Shared} {σ : St} {H : Hp} {acc it : Addr} {fp : List Addr} {tn : Nat → Heap → Prop} {J : It} {K : St → Hp → Prop} {R : Result → Shared → Prop} (I : Inv X pins σ H s) (T : Turn X.prog X.w X.K tg J fp it tn) (st : tn 0 s.heap) (f2 : ∀ b ∈ fp, FpOk X pins H b)
    (h : lLoop J g tc l acc σ H K) (hR : ∀ σ' H' s', Inv X pins σ' H' s' → K σ' H' → R (.ok .next) s') :
    codeAny (model X.prog X.w) X.A (.compLoop (.ListComp elt gens scope pos) d (.ref it) (.ref acc) X.env) R s := by
  obtain ⟨W, ⟨m0, w0⟩, turn⟩ := h
  have stat : ∀ {H' : Hp}, (∀ b ∈ fp, H' b = none) → ∀ b ∈ fp, FpOk X pins H' b := fun hn b hb => ⟨hn b hb, (f2 b hb).2⟩
  refine compLoop_gen (fun n s' => ∃ i σ' H', Inv X pins σ' H' s' ∧ tn i s'.heap ∧ (∀ b ∈ fp, H' b = none) ∧ W i n σ' H') hd ha ?_ m0 ⟨0, σ, H, I, st, fun b hb => (f2 b hb).1, w0⟩
  rintro n s3 ⟨i, σ3, H3, I3, st3, fr3, w3⟩
  rcases turn i n σ3 H3 w3 with ⟨stop, qn⟩ | ⟨go, step⟩
  · refine thn (T.done X rfl rfl rfl hc i pins s3 σ3 H3 _ I3 (stat fr3) st3 stop) fun r s4 ⟨hr, I4⟩ => ?_
    subst hr
    exact hR σ3 H3 s4 I4 qn
  · refine thn (T.item X rfl rfl rfl hc i pins s3 σ3 H3 _ I3 (stat fr3) st3 go) fun r s4 ⟨u, hr, h4⟩ => ?_
    subst hr
    refine thn h4 fun _ s5 ⟨x, H5, I5, r5, y5, st5, fr5⟩ => ?_
    have I5' := I5.pinned (stat fr5) (T.obj _ _ st5)
    have again : ∀ {σ7 : St} {H7 : Hp} {s7 : Shared} {m' : Nat}, Inv X (pins ++ pinsAt fp s5.heap) σ7 H7 s7 → m' < n → W (i + 1) m' σ7 H7 → ∃ m, m < n ∧ ∃ i σ' H', Inv X pins σ' H' s7 ∧ tn i s7.heap ∧ (∀ b ∈ fp, H' b = none) ∧ W i m σ' H' := fun {σ7 H7 s7 m'} I7 hm w7 => by
      refine ⟨m', hm, i + 1, σ7, H7, I7.unpinned, T.keep _ _ _ st5 fun b hb o e => (I7.pin (b, o) (List.mem_append_right _ (List.mem_append_right _ (mem_pinsAt hb e)))).1, fun b hb => ?_, w7⟩
      obtain ⟨o, e, d⟩ := T.obj _ _ st5 b hb
      exact (I7.pin (b, o) (List.mem_append_right _ (List.mem_append_right _ (mem_pinsAt hb e)))).2.1
    have hg' := hg _ s5 σ3 H5 x u _ I5' r5 (step x H5 y5)
    rw [hx] at hg'
    refine thn hg' fun _ s6 ⟨σ6, H6, I6, q6⟩ => ?_
    have ht' := ht _ s6 σ6 H6 _ I6 q6
    rw [hx] at ht'
    refine thn ht' fun ok s7 ⟨H7, I7, q7⟩ => ?_
    cases ok with
    | false =>
      rw [if_neg Bool.false_ne_true] at q7 ⊢
      obtain ⟨m', hm, w7⟩ := q7
      exact again I7 hm w7
    | true =>
      rw [if_pos rfl] at q7 ⊢
      refine thn (hl _ s7 σ6 H7 acc _ I7 q7) fun _ s8 ⟨σ8, H8, I8, m', hm, w8⟩ => ?_
      exact again I8 hm w8
end
end L2

set_option Elab.async false
set_option linter.all false
set_option maxRecDepth 100000
set_option maxHeartbeats 1000000
namespace L2
open PySem PySem.Spec PyProof.Rows
/-! ### the block's cells -/
def clOf (env : Env) : List (Str × NameKind) → List (Str × Addr) → List (Str × Addr)
  | [], acc => acc
  | (n, k) :: r, acc => if k == .free then clOf env r ((n, (env.cells.lookup n).getD 0) :: acc) else clOf env r acc
theorem closure_eq {scope : Scope} {env : Env} (h : ∀ y ∈ scope.names, y.2 = .free → ∃ c, env.cells.lookup y.1 = some c) : closureFor scope env = pure (clOf env scope.names []) := by
  have gen : ∀ (names : List (Str × NameKind)) (acc : List (Str × Addr)), (∀ y ∈ names, y.2 = .free → ∃ c, env.cells.lookup y.1 = some c) →
      (forIn names acc fun (x : Str × NameKind) (r : List (Str × Addr)) => (if (x.2 == NameKind.free) = true then do let a ← cellOf env x.1; pure (ForInStep.yield ((x.1, a) :: r)) else pure (ForInStep.yield r) : Sem _)) = pure (clOf env names acc) := by
    intro names
    induction names with
    | nil => intro acc _; rfl
    | cons y r ih =>
      intro acc hy
      obtain ⟨n, k⟩ := y
      rw [List.forIn_cons]
      unfold clOf
      cases hk : k == NameKind.free with
      | true =>
        obtain ⟨c, hc⟩ := hy (n, k) (List.mem_cons_self ..) (by simpa using hk)
        simp only [hk, if_true, cellOf, hc, Option.getD_some]
        exact ih _ fun y hy' => hy y (List.mem_cons_of_mem _ hy')
      | false =>
        simp only [hk, Bool.false_eq_true, if_false]
        exact ih _ fun y hy' => hy y (List.mem_cons_of_mem _ hy')
  have := gen scope.names [] h
  unfold closureFor
  show ((forIn scope.names ([] : List (Str × Addr)) fun (x : Str × NameKind) (r : List (Str × Addr)) => (if (x.2 == NameKind.free) = true then do let a ← cellOf env x.1; pure (ForInStep.yield ((x.1, a) :: r)) else pure (ForInStep.yield r) : Sem _)) >>= fun z => pure z) = _
  rw [this]
  rfl
theorem mem_clOf {env : Env} : ∀ {names : List (Str × NameKind)} {acc : List (Str × Addr)} {n : Str} {c : Addr}, (n, c) ∈ clOf env names acc → (n, c) ∈ acc ∨ ((n, NameKind.free) ∈ names ∧ c = (env.cells.lookup n).getD 0)
  | [], _, _, _, h => .inl h
  | (m, k) :: r, acc, n, c, h => by
    unfold clOf at h
    split at h
    · rename_i hk
      rcases mem_clOf h with h | ⟨h1, h2⟩
      · rcases List.mem_cons.mp h with e | e
        · cases e
          have : k = .free := by simpa using hk
          subst this
          exact .inr ⟨List.mem_cons_self .., rfl⟩
        · exact .inl e
      · exact .inr ⟨List.mem_cons_of_mem _ h1, h2⟩
    · rcases mem_clOf h with h | ⟨h1, h2⟩
      · exact .inl h
      · exact .inr ⟨List.mem_cons_of_mem _ h1, h2⟩
theorem clOf_mem {env : Env} : ∀ {names : List (Str × NameKind)} {acc : List (Str × Addr)} {n : Str}, ((n, NameKind.free) ∈ names ∨ ∃ c, (n, c) ∈ acc) → ∃ c, (n, c) ∈ clOf env names acc
  | [], _, _, h => by
    rcases h with h | h
    · cases h
    · exact h
  | (m, k) :: r, acc, n, h => by
    unfold clOf
    split
    · rename_i hk
      apply clOf_mem
      rcases h with h | ⟨c, h⟩
      · rcases List.mem_cons.mp h with e | e
        · cases e; exact .inr ⟨_, List.mem_cons_self ..⟩
        · exact .inl e
      · exact .inr ⟨c, List.mem_cons_of_mem _ h⟩
    · rename_i hk
      apply clOf_mem
      rcases h with h | h
      · rcases List.mem_cons.mp h with e | e
        · cases e; simp at hk
        · exact .inl e
      · exact .inr h
theorem mem_cellsFrom : ∀ {names : List (Str × NameKind)} {h : Heap} {acc : List (Str × Addr)} {n : Str} {c : Addr}, (n, c) ∈ cellsFrom h.objs.size names acc →
    (n, c) ∈ acc ∨ ((n, NameKind.cell) ∈ names ∧ h.objs.size ≤ c ∧ (pushCells h names).IsCell c none)
  | [], _, _, _, _, m => .inl m
  | (x, k) :: r, h, acc, n, c, m => by
    unfold cellsFrom at m
    unfold pushCells
    split at m
    · rename_i hk
      rw [if_pos hk]
      have sz : (h.push { cls := .type "cell", data := .cell none }).objs.size = h.objs.size + 1 := Heap.size_push ..
      rw [← sz] at m
      rcases mem_cellsFrom m with m | ⟨m1, m2, m3⟩
      · rcases List.mem_cons.mp m with e | e
        · cases e
          have : k = .cell := by simpa using hk
          subst this
          exact .inr ⟨List.mem_cons_self .., Nat.le_refl _, ⟨_, pushCells_keeps _ _ _ _ (Heap.get?_push_size _ rfl), rfl⟩⟩
        · exact .inl e
      · exact .inr ⟨List.mem_cons_of_mem _ m1, by omega, m3⟩
    · rename_i hk
      rw [if_neg hk]
      rcases mem_cellsFrom m with m | ⟨m1, m2, m3⟩
      · exact .inl m
      · exact .inr ⟨List.mem_cons_of_mem _ m1, m2, m3⟩
theorem cellsFrom_mem : ∀ {names : List (Str × NameKind)} {k : Nat} {acc : List (Str × Addr)} {n : Str}, ((n, NameKind.cell) ∈ names ∨ ∃ c, (n, c) ∈ acc) → ∃ c, (n, c) ∈ cellsFrom k names acc
  | [], _, _, _, h => by
    rcases h with h | h
    · cases h
    · exact h
  | (m, k) :: r, j, acc, n, h => by
    unfold cellsFrom
    split
    · rename_i hk
      apply cellsFrom_mem
      rcases h with h | ⟨c, h⟩
      · rcases List.mem_cons.mp h with e | e
        · cases e; exact .inr ⟨_, List.mem_cons_self ..⟩
        · exact .inl e
      · exact .inr ⟨c, List.mem_cons_of_mem _ h⟩
    · rename_i hk
      apply cellsFrom_mem
      rcases h with h | h
      · rcases List.mem_cons.mp h with e | e
        · cases e; simp at hk
        · exact .inl e
      · exact .inr h
/-- own cells stand apart from one another -/
theorem cellsFrom_inj : ∀ {names : List (Str × NameKind)} {k : Nat} {acc : List (Str × Addr)}, (∀ n c, (n, c) ∈ acc → c < k) → (∀ n m c, (n, c) ∈ acc → (m, c) ∈ acc → n = m) →
    ∀ n m c, (n, c) ∈ cellsFrom k names acc → (m, c) ∈ cellsFrom k names acc → n = m
  | [], _, _, _, h2, n, m, c, a, b => h2 n m c a b
  | (x, kd) :: r, k, acc, h1, h2, n, m, c, a, b => by
    unfold cellsFrom at a b
    split at a
    · rename_i hk
      rw [if_pos hk] at b
      refine cellsFrom_inj (k := k + 1) ?_ ?_ n m c a b
      · intro n c h
        rcases List.mem_cons.mp h with e | e
        · cases e; exact Nat.lt_succ_self _
        · exact Nat.lt_succ_of_lt (h1 n c e)
      · intro n m c h h'
        rcases List.mem_cons.mp h with e | e <;> rcases List.mem_cons.mp h' with e' | e'
        · cases e; cases e'; rfl
        · cases e; exact absurd (h1 _ _ e') (Nat.lt_irrefl _)
        · cases e'; exact absurd (h1 _ _ e) (Nat.lt_irrefl _)
        · exact h2 n m c e e'
    · rename_i hk
      rw [if_neg hk] at b
      exact cellsFrom_inj h1 h2 n m c a b
theorem lookup_some_of_mem {α : Type} : ∀ {l : List (Str × α)} {n : Str}, (∃ c, (n, c) ∈ l) → ∃ c, l.lookup n = some c
  | [], _, ⟨_, h⟩ => by cases h
  | (k, v) :: r, n, ⟨c, h⟩ => by
    rw [List.lookup_cons]
    cases hb : n == k with
    | true => exact ⟨v, rfl⟩
    | false =>
      rcases List.mem_cons.mp h with e | e
      · cases e; simp at hb
      · exact lookup_some_of_mem ⟨c, e⟩
/-! ### the block -/
/-- the outer scope's look at a block's: each free name is a cell there; local names are told once -/
def blkOk (scope osc : Scope) (N : List Str) (src : List (Option Nat)) (ON : List Str) : Bool :=
  (scope.kind == .function) && (osc.kind == .function) && decide (src.length = N.length) &&
  (scope.names.all fun y => (scope.names.lookup y.1 == some y.2) && (if y.2 == .free then osc.names.lookup y.1 == some .cell else true)) &&
  ((N.zip src).all fun p => match p.2 with | none => true | some j => (ON[j]? == some p.1) && (scope.names.lookup p.1 == some .free))
/-- the block's slots at its start -/
def blkSt (src : List (Option Nat)) (σ : St) : St := src.map fun o => match o with | none => none | some j => (σ[j]?).join
def Cx.blk (X : Cx) (scope : Scope) (N : List Str) (cs : List (Str × Addr)) (C : Addr) (s : Shared) (H : Hp) (ex : List Addr) (pn : List (Addr × Obj)) : Cx :=
  { X with N := N, s₀ := s, H₀ := H, env := compEnvC scope cs C X.env, outer := X.stack, stack := X.stack, ex := ex, fn := fun x => decide (scope.names.lookup x = some .cell), pn := pn, xe := fun _ _ => False }
end L2

set_option Elab.async false
set_option linter.all false
set_option maxRecDepth 100000
set_option maxHeartbeats 1000000
namespace L2
open PySem PySem.Spec PyProof.Rows
section
variable {X : Cx} {pins : List (Addr × Obj)} {σ : St} {H : Hp} {s : Shared} {scope : Scope} {N : List Str} {src : List (Option Nat)}
theorem blk_facts {osc : Scope} {ON : List Str} (h : blkOk scope osc N src ON = true) : scope.kind = .function ∧ osc.kind = .function ∧ src.length = N.length ∧
    (∀ y ∈ scope.names, scope.names.lookup y.1 = some y.2) ∧ (∀ y ∈ scope.names, y.2 = .free → osc.names.lookup y.1 = some .cell) ∧
    (∀ (i : Nat) (x : Str) (j : Nat), N[i]? = some x → src[i]? = some (some j) → ON[j]? = some x ∧ scope.names.lookup x = some .free) := by
  unfold blkOk at h
  simp only [Bool.and_eq_true, decide_eq_true_eq, beq_iff_eq, List.all_eq_true] at h
  obtain ⟨⟨⟨⟨h1, h2⟩, h3⟩, h4⟩, h5⟩ := h
  refine ⟨h1, h2, h3, fun y hy => (h4 y hy).1, fun y hy e => ?_, fun i x j e1 e2 => ?_⟩
  · have := (h4 y hy).2
    rw [e] at this
    simpa using this
  · have hm : (x, some j) ∈ N.zip src := by
      apply List.mem_of_getElem? (i := i)
      rw [List.getElem?_zip_eq_some]
      exact ⟨e1, e2⟩
    have := h5 _ hm
    simpa using this
theorem relabel_lookup {env : Env} (hk : env.scope.kind = .function) : ∀ {names : List (Str × NameKind)} {x : Str} {k : NameKind}, names.lookup x = some k → (k = .free → env.kindOf x = some .cell) →
    (names.map fun (n, k) => if (k == NameKind.free && env.scope.kind == .function && env.kindOf n == some .cell) then (n, NameKind.cell) else (n, k)).lookup x = some (if k = .free then .cell else k)
  | [], _, _, h, _ => by simp at h
  | (n, k') :: r, x, k, h, hf => by
    have ih := @relabel_lookup env hk r x k
    show List.lookup x ((if (k' == NameKind.free && env.scope.kind == .function && env.kindOf n == some .cell) = true then (n, NameKind.cell) else (n, k')) :: _) = _
    cases hx : x == n with
    | true =>
      simp only [List.lookup_cons, hx] at h
      have e : x = n := by simpa using hx
      subst e
      cases h
      by_cases hfr : k' = .free
      · have := hf hfr
        subst hfr
        rw [if_pos (by rw [this, hk]; rfl)]
        simp [List.lookup_cons]
      · have hfr' : (k' == NameKind.free) = false := by simpa using hfr
        rw [if_neg (by rw [hfr']; simp), if_neg hfr]
        simp [List.lookup_cons]
    | false =>
      simp only [List.lookup_cons, hx] at h
      by_cases hc : (k' == NameKind.free && env.scope.kind == .function && env.kindOf n == some .cell) = true
      · rw [if_pos hc]; simp only [List.lookup_cons, hx]; exact ih h hf
      · rw [if_neg hc]; simp only [List.lookup_cons, hx]; exact ih h hf
theorem relabel_mem {env : Env} {names : List (Str × NameKind)} {x : Str} (h : (names.map fun (n, k) => if (k == NameKind.free && env.scope.kind == .function && env.kindOf n == some .cell) then (n, NameKind.cell) else (n, k)).lookup x = some .cell) :
    (x, NameKind.cell) ∈ names ∨ (x, NameKind.free) ∈ names := by
  have hm := mem_of_lookup h
  obtain ⟨⟨n, k⟩, hy, e⟩ := List.mem_map.mp hm
  dsimp only at e
  split at e
  · rename_i hc
    cases e
    simp only [Bool.and_eq_true, beq_iff_eq] at hc
    rw [hc.1.1] at hy
    exact .inr hy
  · cases e; exact .inl hy
theorem relabel_memF {env : Env} {names : List (Str × NameKind)} {x : Str} (hk : env.scope.kind = .function) (hfr : ∀ y ∈ names, y.2 = .free → env.kindOf y.1 = some .cell)
    (h : (names.map fun (n, k) => if (k == NameKind.free && env.scope.kind == .function && env.kindOf n == some .cell) then (n, NameKind.cell) else (n, k)).lookup x = some .free) : False := by
  have hm := mem_of_lookup h
  obtain ⟨⟨n, k⟩, hy, e⟩ := List.mem_map.mp hm
  dsimp only at e
  split at e
  · cases e
  · rename_i hc
    cases e
    have := hfr _ hy rfl
    exact hc (by rw [this, hk]; rfl)
/-- the block begins -/
theorem blk_start {fp : List Addr} (I : Inv X pins σ H s) (hb : blkOk scope X.env.scope N src X.N = true) (f2 : ∀ b ∈ fp, FpOk X pins H b) (fo : ∀ b ∈ fp, ∃ o, s.heap.get? b = some o) {t : Nat} :
    Inv (X.blk scope N (cellsFrom (s.heap.objs.size + 1) scope.names (clOf X.env scope.names [])) s.heap.objs.size s H fp (X.pn ++ pins)) [] (blkSt src σ) H { s with heap := pushCells (s.heap.push { cls := .type "dict", data := .dict #[] }) scope.names, toks := t } := by
  obtain ⟨hk, hok, hlen, hnd, hfr, hsrc⟩ := blk_facts hb
  have keep : ∀ b o, s.heap.get? b = some o → (pushCells (s.heap.push { cls := .type "dict", data := .dict #[] }) scope.names).get? b = some o := fun b o e => pushCells_keeps _ _ b o (Heap.get?_push_of_some _ e)
  have hfr' : ∀ y ∈ scope.names, y.2 = .free → X.env.kindOf y.1 = some .cell := hfr
  have sz : (s.heap.push { cls := .type "dict", data := .dict #[] }).objs.size = s.heap.objs.size + 1 := Heap.size_push ..
  -- a cell of the block
  have cell : ∀ n c, (n, c) ∈ cellsFrom (s.heap.objs.size + 1) scope.names (clOf X.env scope.names []) →
      (X.env.cells.lookup n = some c ∧ (n, NameKind.free) ∈ scope.names) ∨ ((n, NameKind.cell) ∈ scope.names ∧ s.heap.objs.size < c ∧ (pushCells (s.heap.push { cls := .type "dict", data := .dict #[] }) scope.names).IsCell c none) := by
    intro n c h
    rw [← sz] at h
    rcases mem_cellsFrom h with h | ⟨h1, h2, h3⟩
    · rcases mem_clOf h with h | ⟨h1, h2⟩
      · cases h
      · obtain ⟨c', hc'⟩ := I.ok.has n (.inl (hfr' _ h1 rfl))
        rw [hc'] at h2
        exact .inl ⟨by rw [hc', h2]; rfl, h1⟩
    · exact .inr ⟨h1, by rw [sz] at h2; exact h2, h3⟩
  have oldc : ∀ n c, X.env.cells.lookup n = some c → c < s.heap.objs.size := fun n c e => by
    obtain ⟨v, o, ho, _⟩ := I.cell n c e
    exact Heap.lt_size ho
  have hH : H s.heap.objs.size = none := I.hok.fresh (Nat.le_refl _)
  have ok : (X.blk scope N (cellsFrom (s.heap.objs.size + 1) scope.names (clOf X.env scope.names [])) s.heap.objs.size s H fp (X.pn ++ pins)).Ok := {
    mod := I.ok.mod
    kind := hk
    glob := I.ok.glob
    blt := I.ok.blt
    above := Nat.le_refl _
    inj := fun x y c a b => by
      refine cellsFrom_inj (k := s.heap.objs.size + 1) (acc := clOf X.env scope.names []) ?_ ?_ x y c (mem_of_lookup a) (mem_of_lookup b)
      · intro n c h
        rcases mem_clOf h with h | ⟨h1, h2⟩
        · cases h
        · obtain ⟨c', hc'⟩ := I.ok.has n (.inl (hfr' _ h1 rfl))
          rw [hc'] at h2
          rw [h2]
          exact Nat.lt_succ_of_lt (oldc n c' hc')
      · intro n m c h h'
        rcases mem_clOf h with h | ⟨h1, h2⟩
        · cases h
        · rcases mem_clOf h' with h' | ⟨h1', h2'⟩
          · cases h'
          · obtain ⟨c1, hc1⟩ := I.ok.has n (.inl (hfr' _ h1 rfl))
            obtain ⟨c2, hc2⟩ := I.ok.has m (.inl (hfr' _ h1' rfl))
            rw [hc1] at h2
            rw [hc2] at h2'
            have e1 : c = c1 := h2
            have e2 : c = c2 := h2'
            exact I.ok.inj n m c (by rw [e1]; exact hc1) (by rw [e2]; exact hc2)
    has := fun x h => by
      have hm : (x, NameKind.cell) ∈ scope.names ∨ (x, NameKind.free) ∈ scope.names := by
        rcases h with h | h
        · exact relabel_mem (env := X.env) h
        · exact (relabel_memF (env := X.env) hok hfr' h).elim
      have : ∃ c, (x, c) ∈ cellsFrom (s.heap.objs.size + 1) scope.names (clOf X.env scope.names []) := by
        rcases hm with hm | hm
        · exact cellsFrom_mem (.inl hm)
        · exact cellsFrom_mem (.inr (clOf_mem (.inl hm)))
      exact lookup_some_of_mem this
    cab := fun x c hf e => by
      have hf' : scope.names.lookup x = some .cell := of_decide_eq_true hf
      rcases cell x c (mem_of_lookup e) with ⟨_, h⟩ | ⟨_, h, _⟩
      · have := hnd _ h
        rw [hf'] at this
        cases this
      · exact Nat.le_of_lt h
    hd := I.ok.hd
    frames := I.ok.frames
    stk := .inl rfl
    exf := fun b hb => by
      obtain ⟨o, ho⟩ := fo b hb
      have hlt := Heap.lt_size ho
      refine ⟨Nat.ne_of_lt hlt, fun x c e => ?_⟩
      rcases cell x c (mem_of_lookup e) with ⟨h, _⟩ | ⟨_, h, _⟩
      · exact (f2 b hb).2.2.2.2.1 x c h
      · exact Nat.ne_of_gt (Nat.lt_trans hlt h)
    bs := I.bs
    bsz := Nat.le_trans I.ok.bsz I.sz
    noex := fun b o e hb => by
      rcases (f2 b hb).2.2.2.1 with h | h
      · exact I.ok.noex b o e h
      · exact absurd (Nat.lt_of_lt_of_le (Heap.lt_size e) (Nat.le_trans I.ok.bsz h)) (Nat.lt_irrefl _)
    exfs := fun b hb hm => by
      rcases List.mem_cons.mp (I.stkSub b hm) with h | h
      · exact (f2 b hb).2.1 h
      · exact (f2 b hb).2.2.1 h
    funs := I.stack
    frf := I.stkFree
    tt := I.ok.tt.mono I.base.tbls }
  refine ⟨ok, rfl, I.bare, Un.kept keep, ⟨fun _ => none, (Heap.Ns.new s.heap (.type "dict")).keeps (pushCells_keeps _ _), fun i x v e1 e2 e3 => ?_⟩, fun x c e => ?_, hH, fun x c e => ?_, fun p hp => ?_, I.hok.kept keep, ?_⟩
  · -- a captured name
    have e2' : (src.map fun o => match o with | none => none | some j => (σ[j]?).join)[i]? = some (some v) := e2
    rw [List.getElem?_map] at e2'
    cases hs : src[i]? with
    | none => rw [hs] at e2'; cases e2'
    | some o =>
      rw [hs] at e2'
      cases o with
      | none => cases e2'
      | some j =>
        have ej : (σ[j]?).join = some v := by simpa using e2'
        have ej' : σ[j]? = some (some v) := by
          cases hq : σ[j]? with
          | none => rw [hq] at ej; cases ej
          | some z => rw [hq] at ej; simpa using ej
        obtain ⟨n1, n2⟩ := hsrc i x j e1 hs
        have hfree : X.env.kindOf x = some .cell := hfr' (x, .free) (mem_of_lookup n2) rfl
        obtain ⟨m, hn, hl⟩ := I.loc
        obtain ⟨u, r, l⟩ := hl j x v n1 ej' (.inr (.inl hfree))
        refine ⟨u, r, .inr ⟨.inl ?_, ?_⟩⟩
        · have := relabel_lookup (env := X.env) hok n2 (fun _ => hfree)
          exact this
        · rcases l with ⟨h, _⟩ | ⟨_, c, hc, hcell⟩
          · rw [hfree] at h; cases h
          · have : ∃ c', (x, c') ∈ cellsFrom (s.heap.objs.size + 1) scope.names (clOf X.env scope.names []) := cellsFrom_mem (.inr (clOf_mem (.inl (mem_of_lookup n2))))
            obtain ⟨c', hc'⟩ := lookup_some_of_mem this
            refine ⟨c', hc', ?_⟩
            rcases cell x c' (mem_of_lookup hc') with ⟨h, _⟩ | ⟨h, _, _⟩
            · rw [hc] at h
              cases h
              obtain ⟨oc, ho, hd⟩ := hcell
              exact ⟨oc, keep _ _ ho, hd⟩
            · have := hnd _ h
              rw [n2] at this
              cases this
  · rcases cell x c (mem_of_lookup e) with ⟨h, _⟩ | ⟨_, _, h⟩
    · obtain ⟨v, o, ho, hd⟩ := I.cell x c h
      exact ⟨v, o, keep _ _ ho, hd⟩
    · exact ⟨_, h⟩
  · rcases cell x c (mem_of_lookup e) with ⟨h, _⟩ | ⟨_, h, _⟩
    · exact I.freeC x c h
    · exact I.hok.fresh (Nat.le_of_lt h)
  · rw [List.append_nil] at hp
    obtain ⟨e, n, ne, nf, d⟩ := I.pin p hp
    refine ⟨keep _ _ e, n, Nat.ne_of_lt (Heap.lt_size e), fun hm => ?_, d⟩
    rcases List.mem_cons.mp (I.stkSub _ hm) with h | h
    · exact ne h
    · exact nf h
  · show (src.map _).length = N.length
    rw [List.length_map]
    exact hlen
/-- the block ends -/
theorem blk_end {fp : List Addr} {cs : List (Str × Addr)} {C : Addr} {σ' : St} {H' : Hp} {s' : Shared} {pins' : List (Addr × Obj)} (I : Inv X pins σ H s) (f2 : ∀ b ∈ fp, FpOk X pins H b)
    (I' : Inv (X.blk scope N cs C s H fp (X.pn ++ pins)) pins' σ' H' s') : Inv X pins σ H' s' :=
  I.call' (ch := fp) I'.os I'.base I'.hok I'.bare fun b hb => ⟨(f2 b hb).2.2.2.1, (f2 b hb).2.1, (f2 b hb).2.2.2.2.1, (f2 b hb).2.2.2.2.2⟩
/-- the block's frame is let go -/
theorem blk_gone {C : Addr} {h' : Heap} (I : Inv X pins σ H s) (hC : H C = none) (hL : C ≠ X.env.locals) (h1 : X.s₀.heap.objs.size ≤ C) (h2 : ∀ x c, X.env.cells.lookup x = some c → c ≠ C) (h3 : ∀ p ∈ X.pn ++ pins, p.1 ≠ C)
    (hs : Heap.SameBut C s.heap h') : Inv X pins σ H { s with heap := h' } :=
  I.turned (t' := s.toks) (fun b o hb e => (hs.2 b hb).trans e) hC hL (.inr h1) h2 h3
end
end L2

set_option Elab.async false
set_option linter.all false
set_option maxRecDepth 100000
set_option maxHeartbeats 1000000
namespace L2
open PySem PySem.Spec PyProof.Rows
section
variable {M : Model} {A : Around} {E : Value → Shared → Prop} {s : Shared}
theorem wp_newBlock {scope : Scope} {globals : Addr} {cl : List (Str × Addr)} {qual : Str} {env : Env} {Q : Env → Shared → Prop}
    (hQ : Q (newEnv scope s.heap.objs.size globals (cellsFrom (s.heap.objs.size + 1) scope.names cl) qual none .none (some env) builtinsNs) { s with heap := pushCells (s.heap.push { cls := .type "dict", data := .dict #[] }) scope.names }) :
    wpAny M A (newFunctionEnv scope globals cl [] qual none .none (some env)) Q E s := by
  simp only [newFunctionEnv, Option.isSome_some, if_true]
  refine wpAny_bind (wpAny_alloc ?_)
  refine wpAny_bind (wpAny_layCells _ (fun name kind cells => by cases hkc : kind == NameKind.cell <;> simp [hkc]) _ _ _ _ ?_)
  rw [show ({ s with heap := s.heap.push { cls := .type "dict", data := .dict #[] } } : Shared).heap.objs.size = s.heap.objs.size + 1 from Heap.size_push ..]
  simp only [List.forIn_nil]
  exact wpAny_bind (wpAny_pure (wpAny_pure hQ))
end
section
variable {X : Cx} {elt tg iter : Expr} {ifs : List Expr} {rest : List Comprehension} {scope : Scope} {pos : Pos} {N : List Str} {src : List (Option Nat)} {wi : TI} {g : TG} {tc : TT} {l : TL}
/-- [elt for tg in iter if ..]: src tells for each slot of the block the outer slot that it is (none: a name of the block's own) -/
def tComp (src : List (Option Nat)) (wi : TI) (g : TG) (tc : TT) (l : TL) : TE := fun σ H Q => wi σ H fun J H1 => ∀ acc, H1 acc = none → lLoop J g tc l acc (blkSt src σ) (upd H1 acc (.lst [])) fun _ H' => Q (.ref acc) H'
theorem comp_run {use : Option (Value → Sem Unit)} {pins : List (Addr × Obj)} {s : Shared} {σ : St} {H : Hp} {Q : Value → Shared → Prop} {Q' : VK} (hc : X.calm = true) (hb : blkOk scope X.env.scope N src X.N = true) (ha : ∀ g', rest[0]? = some g' → g'.is_async = 0)
    (hi : PI X tg iter wi)
    (hg : ∀ cs C s H ex pn, PG (X.blk scope N cs C s H ex pn) tg g) (ht : ∀ cs C s H ex pn, PTs (X.blk scope N cs C s H ex pn) ifs tc)
    (hl : ∀ cs C s H ex pn, PL (X.blk scope N cs C s H ex pn) elt (⟨tg, iter, ifs, 0⟩ :: rest) scope pos 0 l)
    (hs : ∀ x, foldedSetIterable iter X.env x = pure x) (I : Inv X pins σ H s) (h : tComp src wi g tc l σ H Q')
    (hQ : ∀ (acc C : Addr) (H' : Hp) (s' : Shared) (m : Str → Option Value), Inv X pins σ H' s' → Q' (.ref acc) H' → s'.heap.Ns C m → H' C = none → C ≠ X.env.locals → X.s₀.heap.objs.size ≤ C → (∀ x c, X.env.cells.lookup x = some c → c ≠ C) → (∀ p ∈ X.pn ++ pins, p.1 ≠ C) →
      compPost (model X.prog X.w) X.A X.xe use Q (.ref acc) C (.ok .next) s') :
    wpAny (model X.prog X.w) X.A (comprehension (.ListComp elt (⟨tg, iter, ifs, 0⟩ :: rest) scope pos) scope X.env (firstIterPos (⟨tg, iter, ifs, 0⟩ :: rest) pos) (newList []) false (firstIter (⟨tg, iter, ifs, 0⟩ :: rest) X.env) use) Q X.xe s := by
  obtain ⟨hk, hok, hlen, hnd, hfr, hsrc⟩ := blk_facts hb
  refine wpAny_comprehension_free (g := ⟨tg, iter, ifs, 0⟩) (gs := rest) rfl hs (closure_eq fun y hy e => I.ok.has y.1 (.inl (hfr y hy e))) hk (fun y hy e => by have := hnd y hy; rw [e] at this; exact this) ?_
  refine thn (hi pins s σ H _ I h) fun v s1 h1 => thn h1 fun itv s2 h2 => ?_
  obtain ⟨it, fp, tn, J, H2, e, I2, T, st2, f2, q⟩ := h2
  subst e
  have hfresh : H2 s2.heap.objs.size = none := I2.hok.fresh (Nat.le_refl _)
  refine wpAny_newObj_type (wp_newBlock ?_)
  dsimp only
  -- the list
  have old : ∀ b o, s2.heap.get? b = some o → (s2.heap.push { cls := .type "list", dict := none, data := .seq ([] : List Value).toArray }).get? b = some o := fun b o e => Heap.get?_push_of_some _ e
  have I3 : Inv X pins σ (upd H2 s2.heap.objs.size (.lst [])) { s2 with heap := s2.heap.push { cls := .type "list", dict := none, data := .seq ([] : List Value).toArray } } :=
    I2.lnew (its := []) (t' := s2.toks) .nil (by decide)
  have f3 : ∀ b ∈ fp, FpOk X pins (upd H2 s2.heap.objs.size (.lst [])) b := fun b hb => by
    obtain ⟨o, ho, _⟩ := T.obj _ _ st2 b hb
    exact ⟨by rw [upd_ne (Nat.ne_of_lt (Heap.lt_size ho))]; exact (f2 b hb).1, (f2 b hb).2⟩
  have fo3 : ∀ b ∈ fp, ∃ o, ({ s2 with heap := s2.heap.push { cls := .type "list", dict := none, data := .seq ([] : List Value).toArray } } : Shared).heap.get? b = some o := fun b hb => by
    obtain ⟨o, ho, _⟩ := T.obj _ _ st2 b hb
    exact ⟨o, old b o ho⟩
  generalize hs3 : ({ s2 with heap := s2.heap.push { cls := .type "list", dict := none, data := .seq ([] : List Value).toArray } } : Shared) = s3 at I3 fo3 ⊢
  have st3 : tn 0 s3.heap := by
    rw [← hs3]
    exact T.keep _ _ _ st2 fun b _ o e => old b o e
  have IB := blk_start (t := s3.toks) I3 hb f3 fo3
  have stB : tn 0 (pushCells (s3.heap.push { cls := .type "dict", data := .dict #[] }) scope.names) := T.keep _ _ _ st3 fun b _ o e => pushCells_keeps _ _ b o (Heap.get?_push_of_some _ e)
  have fB : ∀ b ∈ fp, FpOk (X.blk scope N (cellsFrom (s3.heap.objs.size + 1) scope.names (clOf X.env scope.names [])) s3.heap.objs.size s3 (upd H2 s2.heap.objs.size (.lst [])) fp (X.pn ++ pins)) [] (upd H2 s2.heap.objs.size (.lst [])) b := fun b hb => by
    obtain ⟨n0, n1, n2, n3, n4, n5⟩ := f3 b hb
    refine ⟨n0, (IB.ok.exf b hb).1, IB.ok.exfs b hb, .inl hb, (IB.ok.exf b hb).2, fun p hp => ?_⟩
    rw [List.append_nil] at hp
    exact n5 p hp
  have loop : codeAny (model X.prog X.w) X.A (.compLoop (.ListComp elt (⟨tg, iter, ifs, 0⟩ :: rest) scope pos) 0 (.ref it) (.ref s2.heap.objs.size) (compEnvC scope (cellsFrom (s3.heap.objs.size + 1) scope.names (clOf X.env scope.names [])) s3.heap.objs.size X.env))
      (compPost (model X.prog X.w) X.A X.xe use Q (.ref s2.heap.objs.size) s3.heap.objs.size) { s3 with heap := pushCells (s3.heap.push { cls := .type "dict", data := .dict #[] }) scope.names } := by
    refine comp_loop (X := X.blk scope N (cellsFrom (s3.heap.objs.size + 1) scope.names (clOf X.env scope.names [])) s3.heap.objs.size s3 (upd H2 s2.heap.objs.size (.lst [])) fp (X.pn ++ pins)) rfl hc rfl (by simpa using ha) (hg _ _ _ _ _ _) (ht _ _ _ _ _ _) (hl _ _ _ _ _ _) IB T stB fB (q _ hfresh) fun σ' H' s' I' k' => ?_
    obtain ⟨m, hn, _⟩ := I'.loc
    refine hQ _ _ H' s' m (blk_end I3 f3 I') k' hn I'.free ?_ I3.sz ?_ ?_
    · exact Nat.ne_of_gt I3.lt
    · intro x c e
      obtain ⟨v, o, ho, _⟩ := I3.cell x c e
      exact Nat.ne_of_lt (Heap.lt_size ho)
    · intro p hp
      exact Nat.ne_of_lt (Heap.lt_size (I3.pin p hp).1)
  subst hs3
  exact compStart_gen (d := 0) rfl loop (T.self X.A 0 _ _ _ stB loop)
theorem pe_comp (hc : X.calm = true) (hb : blkOk scope X.env.scope N src X.N = true) (ha : ∀ g', rest[0]? = some g' → g'.is_async = 0)
    (hi : PI X tg iter wi)
    (hg : ∀ cs C s H ex pn, PG (X.blk scope N cs C s H ex pn) tg g) (ht : ∀ cs C s H ex pn, PTs (X.blk scope N cs C s H ex pn) ifs tc)
    (hl : ∀ cs C s H ex pn, PL (X.blk scope N cs C s H ex pn) elt (⟨tg, iter, ifs, 0⟩ :: rest) scope pos 0 l)
    (hs : ∀ x, foldedSetIterable iter X.env x = pure x := by intro _; rfl) : PE X (.ListComp elt (⟨tg, iter, ifs, 0⟩ :: rest) scope pos) (tComp src wi g tc l) := .mk <| by
  intro pins s σ H Q I h
  rw [eval_ListComp]
  refine comp_run (use := none) hc hb ha hi hg ht hl hs I h fun acc C H' s' m I' q' hn hC hL h1 h2 h3 => ?_
  exact ⟨m, hn, fun h' hs' => ⟨.ref acc, H', blk_gone I' hC hL h1 h2 h3 hs', rfl, q'⟩⟩
/-- name = [..] -/
theorem ps_setC {i : Nat} {x : Str} {pos' spos : Pos} (hN : X.N.Nodup) (hi0 : X.N[i]? = some x) (hx : Loc X.env.scope x) (hc : X.calm = true) (hb : blkOk scope X.env.scope N src X.N = true) (ha : ∀ g', rest[0]? = some g' → g'.is_async = 0)
    (hi : PI X tg iter wi)
    (hg : ∀ cs C s H ex pn, PG (X.blk scope N cs C s H ex pn) tg g) (ht : ∀ cs C s H ex pn, PTs (X.blk scope N cs C s H ex pn) ifs tc)
    (hl : ∀ cs C s H ex pn, PL (X.blk scope N cs C s H ex pn) elt (⟨tg, iter, ifs, 0⟩ :: rest) scope pos 0 l)
    (hs : ∀ x, foldedSetIterable iter X.env x = pure x := by intro _; rfl)
    (hsw : swapsWith (.ListComp elt (⟨tg, iter, ifs, 0⟩ :: rest) scope pos) (some (.Name x pos')) spos.line X.env = pure true := by rfl)
    (hf : X.fn x = true ∨ X.env.scope.names.lookup x = some .local := by first | exact .inl rfl | exact .inr rfl | assumption) :
    PS X (.Assign [.Name x pos'] (.ListComp elt (⟨tg, iter, ifs, 0⟩ :: rest) scope pos) spos) (tAsg (tComp src wi g tc l) (gName i)) := .mk <| by
  intro pins s σ H D I h
  rw [exec_Assign_Name_used _ _ _ _ hsw]
  refine wpAny_bind (wpAny_standAt (wpAny_bind ?_))
  show wpAny _ X.A (do let _ ← comprehension (.ListComp elt (⟨tg, iter, ifs, 0⟩ :: rest) scope pos) scope X.env (firstIterPos (⟨tg, iter, ifs, 0⟩ :: rest) pos) (newList []) false (firstIter (⟨tg, iter, ifs, 0⟩ :: rest) X.env) (some (assign (.Name x pos') X.env))) _ _ s
  refine wpAny_bind (wpAny_mono (comp_run (use := some (assign (.Name x pos') X.env)) (Q := fun _ s' => SP X pins D .next s') hc hb ha hi hg ht hl hs I h fun acc C H' s' m I' q' hn hC hL h1 h2 h3 => ?_) (fun _ s' hq => wpAny_pure (wpAny_pure hq)) fun _ _ e => e)
  show wpAny _ X.A (assign (.Name x pos') X.env (.ref acc)) _ _ _
  refine wpAny_assign_Name (store_ok2 (v := .ref acc) I' hN hi0 hx rfl (fun s'' I'' ⟨a, hsb, hwh⟩ => ?_) hf)
  have hne : C ≠ a := by
    rcases hwh with e | e
    · rw [e]; exact hL
    · exact fun z => h2 x a e z.symm
  exact ⟨m, hn.sameBut hsb hne, fun h' hs' => ⟨σ.set i (some (.ref acc)), H', blk_gone I'' hC hL h1 h2 h3 hs', q'⟩⟩
end
end L2

set_option Elab.async false
set_option linter.all false
set_option maxRecDepth 100000
set_option maxHeartbeats 1000000
namespace L2
open PySem PySem.Spec PyProof.Rows
section
variable {X : Cx}
/-! ### isinstance, by names of types -/
def tyName (H : Hp) : V → Option String
  | .non => some "NoneType"
  | .bl _ => some "bool"
  | .int _ => some "int"
  | .str _ => some "str"
  | .ref a => match H a with
    | some (.lst _) => some "list"
    | some (.tup _) => some "tuple"
    | some (.dK _) => some "dict"
    | some (.frz _ (.lst _)) => some "list"
    | _ => none
  | _ => none
def isA (H : Hp) (x : V) (T : String) : Bool := match tyName H x with
  | some t => t == T || (t == "bool" && T == "int")
  | none => false
theorem tyName_of {K : PySem.W.Frag} {H : Hp} {x : V} {t : String} (h : tyName H x = some t) : TyOf K H x (.type t) := by
  cases x with
  | non => cases h; exact .non
  | bl b => cases h; exact .bl b
  | int i => cases h; exact .int i
  | str z => cases h; exact .str z
  | byt b => cases h
  | flt b => cases h
  | ty n => cases h
  | ref a =>
    unfold tyName at h
    dsimp only at h
    split at h
    · rename_i e; cases h; exact .lst e
    · rename_i e; cases h; exact .tup e
    · rename_i e; cases h; exact .dK e
    · rename_i e; cases h; exact .frz e
    · cases h
def kinds : List String := ["NoneType", "bool", "int", "str", "list", "tuple", "dict"]
theorem tyName_kind {H : Hp} {x : V} {t : String} (h : tyName H x = some t) : t ∈ kinds := by
  cases x with
  | non => cases h; decide
  | bl b => cases h; decide
  | int i => cases h; decide
  | str z => cases h; decide
  | byt b => cases h
  | flt b => cases h
  | ty n => cases h
  | ref a =>
    unfold tyName at h
    dsimp only at h
    split at h <;> first | (cases h; decide) | cases h
theorem kit_ty (K : PySem.W.Frag) {t T : String} (ht : t ∈ kinds) (hT : T ∈ kinds) : PySem.W.kitOne K (.type t) (.type T) = some (t == T || (t == "bool" && T == "int")) := by
  simp only [kinds, List.mem_cons, List.not_mem_nil, or_false] at ht hT
  rcases ht with rfl | rfl | rfl | rfl | rfl | rfl | rfl <;> rcases hT with rfl | rfl | rfl | rfl | rfl | rfl | rfl <;> with_unfolding_all rfl
theorem call_isA : CallR X (.builtin "isinstance") (fun xs H Q => ∃ x T, xs = [x, .ty T] ∧ T ∈ kinds ∧ (tyName H x).isSome = true ∧ Q (.bl (isA H x T)) H) := by
  intro pins s σ H xs us Q I r h
  obtain ⟨x, T, rfl, hT, hs, q⟩ := h
  obtain ⟨u, w', rfl, rx, rT⟩ := vals2 r
  cases (show w' = Value.type T from rT)
  obtain ⟨t, ht⟩ := Option.isSome_iff_exists.mp hs
  refine isinst_ok I rx (tyName_of ht) (kit_ty X.K (tyName_kind ht) hT) fun tk => ⟨.bl (isA H x T), H, I.tok tk, ?_, q⟩
  show _ = Value.bool (isA H x T)
  unfold isA
  rw [ht]
/-! ### all, any of a list of truths -/
theorem vals_bl : ∀ {bs : List Bool} {its : List Value}, Vals (bs.map V.bl) its → its = bs.map Value.bool
  | [], _, .nil => rfl
  | _ :: _, _, .cons r t => by
    have e : _ = Value.bool _ := r
    rw [e, vals_bl t]; rfl
theorem all_range (bs : List Bool) : (List.range bs.length).all (fun i => bs.getD i false) = bs.all id := by
  rw [Bool.eq_iff_iff]
  simp only [List.all_eq_true, List.mem_range, id]
  constructor
  · intro h b hb
    obtain ⟨i, hi, e⟩ := List.getElem_of_mem hb
    have := h i hi
    rw [List.getD_eq_getElem?_getD, List.getElem?_eq_getElem hi] at this
    rw [← e]; exact this
  · intro h i hi
    rw [List.getD_eq_getElem?_getD, List.getElem?_eq_getElem hi]
    exact h _ (List.getElem_mem hi)
theorem call_all (hc : X.calm = true) : CallR X (.builtin "all") (fun xs H Q => ∃ (a : Addr) (bs : List Bool), xs = [.ref a] ∧ SqL X.K H a (bs.map V.bl) ∧ Q (.bl (bs.all id)) H) := by
  intro pins s σ H xs us Q I r h
  obtain ⟨a, bs, rfl, hq, q⟩ := h
  obtain ⟨u, rfl, rx⟩ := vals1 r
  cases rx
  obtain ⟨its, rv, p, hz⟩ := I.list hq
  have e := vals_bl rv
  subst e
  have hlt : a < s.heap.objs.size := by
    obtain ⟨o, ho, _⟩ := p.isList
    exact Heap.lt_size ho
  refine call_all_walk (wpAny_pyIter_list p.isList ?_)
  refine ⟨s.heap.objs.size, _, _, _, _, _, fun i => bs.getD i false, rfl, Walks.list (A := X.A.in1) (I.ok.hd hc) _ a (Nat.ne_of_lt hlt) _, ⟨⟨_, Heap.get?_push_size _ rfl, rfl, rfl⟩, p.isList.push _⟩, ?_, fun h' tk hk => ?_⟩
  · intro i v s' Q' E' hP hQ'
    have : (bs.map Value.bool)[i]? = some v := by simpa using hP
    rw [List.getElem?_map] at this
    cases e : bs[i]? with
    | none => rw [e] at this; cases this
    | some b =>
      rw [e] at this
      cases this
      refine wpAny_truthy_bool ?_
      dsimp only at hQ'
      rw [List.getD_eq_getElem?_getD, e] at hQ'
      exact hQ'
  · refine ⟨.bl (bs.all id), H, I.kept (t' := tk) fun b o e => hk b o (fun hm => ?_) (Heap.get?_push_of_some _ e), ?_, q⟩
    · have : b = s.heap.objs.size := by simpa using hm
      exact absurd (this ▸ Heap.lt_size e) (Nat.lt_irrefl _)
    · show _ = Value.bool _
      rw [← all_range]
      simp
end
end L2

set_option Elab.async false
set_option linter.all false
set_option autoImplicit false
set_option maxRecDepth 100000
set_option maxHeartbeats 1000000
namespace L2
open PySem PySem.Spec PyProof.Rows
/-! ### deep data -/
inductive D where
  | non | bl (b : Bool) | int (i : Int) | str (x : Str) | tup (ds : List D) | lst (ds : List D)
mutual
def Dat (H : Hp) : D → V → Prop
  | .non, v => v = .non
  | .bl b, v => v = .bl b
  | .int i, v => v = .int i
  | .str x, v => v = .str x
  | .tup ds, v => ∃ a xs, v = .ref a ∧ H a = some (.tup xs) ∧ Dats H ds xs
  | .lst ds, v => ∃ a xs, v = .ref a ∧ H a = some (.lst xs) ∧ Dats H ds xs
def Dats (H : Hp) : List D → List V → Prop
  | [], xs => xs = []
  | d :: ds, xs => ∃ x r, xs = x :: r ∧ Dat H d x ∧ Dats H ds r
end
mutual
def dep : D → Nat
  | .tup ds => deps ds + 1
  | .lst ds => deps ds + 1
  | _ => 0
def deps : List D → Nat
  | [] => 0
  | d :: ds => max (dep d) (deps ds)
end
mutual
def eqD : D → D → Bool
  | .non, .non => true
  | .bl a, .bl b => a == b
  | .bl a, .int b => (if a then 1 else 0) == b
  | .int a, .bl b => a == (if b then 1 else 0)
  | .int a, .int b => a == b
  | .str a, .str b => a == b
  | .tup a, .tup b => eqDs a b
  | .lst a, .lst b => eqDs a b
  | _, _ => false
def eqDs : List D → List D → Bool
  | [], [] => true
  | x :: xs, y :: ys => eqD x y && eqDs xs ys
  | _, _ => false
end
theorem deps_mem : ∀ {ds : List D} {d : D}, d ∈ ds → dep d ≤ deps ds
  | d :: ds, e, h => by
    unfold deps
    rcases List.mem_cons.mp h with rfl | h
    · exact Nat.le_max_left _ _
    · exact Nat.le_trans (deps_mem h) (Nat.le_max_right _ _)
theorem Dats.length : ∀ {H : Hp} {ds : List D} {xs : List V}, Dats H ds xs → xs.length = ds.length
  | H, [], xs, h => by
    have e : xs = [] := by simpa [Dats] using h
    rw [e]; rfl
  | H, d :: ds, xs, h => by
    obtain ⟨x, r, rfl, _, t⟩ : ∃ x r, xs = x :: r ∧ Dat H d x ∧ Dats H ds r := by simpa only [Dats] using h
    rw [List.length_cons, List.length_cons, Dats.length t]
theorem Dats.get : ∀ {H : Hp} {ds : List D} {xs : List V} {i : Nat} {d : D}, Dats H ds xs → ds[i]? = some d → ∃ x, xs[i]? = some x ∧ Dat H d x
  | H, [], xs, i, d, h, e => by simp at e
  | H, d' :: ds, xs, i, d, h, e => by
    obtain ⟨x, r, rfl, hx, t⟩ : ∃ x r, xs = x :: r ∧ Dat H d' x ∧ Dats H ds r := by simpa only [Dats] using h
    cases i with
    | zero => simp at e; subst e; exact ⟨x, rfl, hx⟩
    | succ i => simpa using Dats.get t (i := i) (by simpa using e)
theorem Dats.of_get : ∀ {H : Hp} {ds : List D} {xs : List V}, xs.length = ds.length → (∀ (i : Nat) (d : D) (x : V), ds[i]? = some d → xs[i]? = some x → Dat H d x) → Dats H ds xs
  | H, [], [], _, _ => by simp [Dats]
  | H, d :: ds, x :: xs, hl, h => by
    simp only [Dats]
    exact ⟨x, xs, rfl, h 0 d x rfl rfl, Dats.of_get (by simpa using hl) fun i d x e1 e2 => h (i + 1) d x (by simpa using e1) (by simpa using e2)⟩
  | H, [], _ :: _, hl, _ => by simp at hl
  | H, _ :: _, [], hl, _ => by simp at hl
theorem Dats.append : ∀ {H : Hp} {ds es : List D} {xs ys : List V}, Dats H ds xs → Dats H es ys → Dats H (ds ++ es) (xs ++ ys)
  | H, [], es, xs, ys, h, h' => by
    have e : xs = [] := by simpa [Dats] using h
    rw [e]; exact h'
  | H, d :: ds, es, xs, ys, h, h' => by
    obtain ⟨x, r, rfl, hx, t⟩ : ∃ x r, xs = x :: r ∧ Dat H d x ∧ Dats H ds r := by simpa only [Dats] using h
    show Dats H (d :: (ds ++ es)) (x :: (r ++ ys))
    simp only [Dats]
    exact ⟨x, r ++ ys, rfl, hx, Dats.append t h'⟩
theorem Dats.one {H : Hp} {d : D} {x : V} (h : Dat H d x) : Dats H [d] [x] := by
  simp only [Dats]
  exact ⟨x, [], rfl, h, rfl⟩
mutual
theorem Dat.same {H H' : Hp} (e : Same H H') : ∀ {d : D} {v : V}, Dat H d v → Dat H' d v
  | .non, v, h => by simpa only [Dat] using h
  | .bl b, v, h => by simpa only [Dat] using h
  | .int i, v, h => by simpa only [Dat] using h
  | .str x, v, h => by simpa only [Dat] using h
  | .tup ds, v, h => by
    simp only [Dat] at h ⊢
    obtain ⟨a, xs, rfl, h1, h2⟩ := h
    exact ⟨a, xs, rfl, e a _ h1, Dats.same e h2⟩
  | .lst ds, v, h => by
    simp only [Dat] at h ⊢
    obtain ⟨a, xs, rfl, h1, h2⟩ := h
    exact ⟨a, xs, rfl, e a _ h1, Dats.same e h2⟩
theorem Dats.same {H H' : Hp} (e : Same H H') : ∀ {ds : List D} {xs : List V}, Dats H ds xs → Dats H' ds xs
  | [], xs, h => by simpa only [Dats] using h
  | d :: ds, xs, h => by
    simp only [Dats] at h ⊢
    obtain ⟨x, r, rfl, h1, h2⟩ := h
    exact ⟨x, r, rfl, Dat.same e h1, Dats.same e h2⟩
end
mutual
theorem Dat.inj {H : Hp} : ∀ {d e : D} {v : V}, Dat H d v → Dat H e v → d = e
  | .non, e, v, h, h' => by
    simp only [Dat] at h; subst h
    cases e <;> simp only [Dat] at h' <;> first | rfl | (obtain ⟨_, _, h', _⟩ := h'; cases h'; done) | (cases h'; done)
  | .bl b, e, v, h, h' => by
    simp only [Dat] at h; subst h
    cases e <;> simp only [Dat] at h' <;> first | (obtain ⟨_, _, h', _⟩ := h'; cases h'; done) | (cases h'; rfl) | (cases h'; done)
  | .int i, e, v, h, h' => by
    simp only [Dat] at h; subst h
    cases e <;> simp only [Dat] at h' <;> first | (obtain ⟨_, _, h', _⟩ := h'; cases h'; done) | (cases h'; rfl) | (cases h'; done)
  | .str x, e, v, h, h' => by
    simp only [Dat] at h; subst h
    cases e <;> simp only [Dat] at h' <;> first | (obtain ⟨_, _, h', _⟩ := h'; cases h'; done) | (cases h'; rfl) | (cases h'; done)
  | .tup ds, e, v, h, h' => by
    simp only [Dat] at h
    obtain ⟨a, xs, rfl, h1, h2⟩ := h
    cases e with
    | tup es =>
      simp only [Dat] at h'
      obtain ⟨b, ys, e1, h3, h4⟩ := h'
      cases e1
      rw [h1] at h3; cases h3
      rw [Dats.inj h2 h4]
    | lst es =>
      simp only [Dat] at h'
      obtain ⟨b, ys, e1, h3, h4⟩ := h'
      cases e1
      rw [h1] at h3; cases h3
    | _ => simp only [Dat] at h'; cases h'
  | .lst ds, e, v, h, h' => by
    simp only [Dat] at h
    obtain ⟨a, xs, rfl, h1, h2⟩ := h
    cases e with
    | lst es =>
      simp only [Dat] at h'
      obtain ⟨b, ys, e1, h3, h4⟩ := h'
      cases e1
      rw [h1] at h3; cases h3
      rw [Dats.inj h2 h4]
    | tup es =>
      simp only [Dat] at h'
      obtain ⟨b, ys, e1, h3, h4⟩ := h'
      cases e1
      rw [h1] at h3; cases h3
    | _ => simp only [Dat] at h'; cases h'
theorem Dats.inj {H : Hp} : ∀ {ds es : List D} {xs : List V}, Dats H ds xs → Dats H es xs → ds = es
  | [], [], _, _, _ => rfl
  | [], e :: es, xs, h, h' => by
    simp only [Dats] at h h'
    obtain ⟨x, r, rfl, _⟩ := h'
    cases h
  | d :: ds, [], xs, h, h' => by
    simp only [Dats] at h h'
    obtain ⟨x, r, rfl, _⟩ := h
    cases h'
  | d :: ds, e :: es, xs, h, h' => by
    simp only [Dats] at h h'
    obtain ⟨x, r, rfl, h1, h2⟩ := h
    obtain ⟨x', r', e1, h3, h4⟩ := h'
    cases e1
    rw [Dat.inj h1 h3, Dats.inj h2 h4]
end
mutual
theorem eqD_refl : ∀ d : D, eqD d d = true
  | .non => by simp [eqD]
  | .bl b => by simp [eqD]
  | .int i => by simp [eqD]
  | .str x => by simp [eqD]
  | .tup ds => by simp only [eqD]; exact eqDs_refl ds
  | .lst ds => by simp only [eqD]; exact eqDs_refl ds
theorem eqDs_refl : ∀ ds : List D, eqDs ds ds = true
  | [] => by simp [eqDs]
  | d :: ds => by simp only [eqDs, eqD_refl d, eqDs_refl ds, Bool.and_self]
end
theorem eqDs_len : ∀ {ds es : List D}, ds.length ≠ es.length → eqDs ds es = false
  | [], [], h => absurd rfl h
  | [], _ :: _, _ => by simp [eqDs]
  | _ :: _, [], _ => by simp [eqDs]
  | d :: ds, e :: es, h => by
    simp only [eqDs, eqDs_len (ds := ds) (es := es) (by simpa using h), Bool.and_false]
theorem eqDs_range : ∀ {ds es : List D}, ds.length = es.length → (List.range ds.length).all (fun j => eqD (ds.getD j .non) (es.getD j .non)) = eqDs ds es
  | [], [], _ => by simp [eqDs]
  | [], _ :: _, h => by simp at h
  | _ :: _, [], h => by simp at h
  | d :: ds, e :: es, h => by
    have ih := eqDs_range (ds := ds) (es := es) (by simpa using h)
    rw [List.length_cons, List.range_succ_eq_map, List.all_cons, List.all_map]
    simp only [eqDs, ← ih]
    rfl
end L2

set_option Elab.async false
set_option linter.all false
set_option autoImplicit false
set_option maxRecDepth 100000
set_option maxHeartbeats 1000000
namespace L2
open PySem PySem.Spec PyProof.Rows
section
variable {X : Cx} {pins : List (Addr × Obj)} {σ : St} {H : Hp} {s : Shared}
/-- flat data -/
def flatD : D → Option V
  | .non => some .non
  | .bl b => some (.bl b)
  | .int i => some (.int i)
  | .str x => some (.str x)
  | _ => none
theorem vals_at : ∀ {xs : List V} {us : List Value} {j : Nat} {x : V}, Vals xs us → xs[j]? = some x → ∀ (h : j < us.toArray.size), RelV x us.toArray[j] := fun {xs us j x} r e h => by
  obtain ⟨u, h1, h2⟩ := r.get e
  have : us[j]? = some us.toArray[j] := by
    rw [List.getElem?_eq_getElem (by simpa using h)]
    simp
  rw [h1] at this
  cases this
  exact h2
theorem tup_at (I : Inv X pins σ H s) {a : Addr} {xs : List V} (h : H a = some (.tup xs)) : ∃ its : List Value, Vals xs its ∧ s.heap.IsTuple a its.toArray := by
  obtain ⟨its, r, p, _⟩ := I.tuple (SqT.of (K := X.K) h)
  exact ⟨its, r, p⟩
theorem lst_at (I : Inv X pins σ H s) {a : Addr} {xs : List V} (h : H a = some (.lst xs)) : ∃ its : List Value, Vals xs its ∧ s.heap.IsList a its.toArray := by
  obtain ⟨its, r, p, _⟩ := I.list (SqL.of (K := X.K) h)
  exact ⟨its, r, p.isList⟩
theorem eqDs_min {ds es : List D} : ((List.range (min ds.length es.length)).all (fun j => eqD (ds.getD j .non) (es.getD j .non)) && ds.length == es.length) = eqDs ds es := by
  by_cases h : ds.length = es.length
  · rw [← eqDs_range h]
    have : min ds.length es.length = ds.length := by omega
    rw [this]
    simp [h]
  · rw [eqDs_len h]
    have : (ds.length == es.length) = false := by simpa using h
    rw [this, Bool.and_false]
/-- == of data -/
theorem eqAt_D (I : Inv X pins σ H s) (n : Nat) : ∀ (d e : D) (x y : V) (v u : Value) (A : Around), dep d ≤ n → A.units + n < cLine → Dat H d x → Dat H e y → RelV x v → RelV y u →
    SeqAt.RcAt A s v u (eqD d e) ∧ SeqAt.EqAt A s v u (eqD d e) ∧ SeqAt.RcNeAt A s v u (!eqD d e) := by
  induction n with
  | zero =>
    intro d e x y v u A hd hu hx hy rx ry
    have hu' : A.units < cLine := by omega
    cases d with
    | tup ds => simp only [dep] at hd; omega
    | lst ds => simp only [dep] at hd; omega
    | non =>
      simp only [Dat] at hx; subst hx; cases rx
      cases e with
      | non => simp only [Dat] at hy; subst hy; cases ry; exact ⟨SeqAt.RcAt.none_none, SeqAt.EqAt.same _, SeqAt.RcNeAt.none_none⟩
      | bl b => simp only [Dat] at hy; subst hy; cases ry; exact ⟨SeqAt.RcAt.none_bool b, SeqAt.EqAt.none_bool b, SeqAt.RcNeAt.none_bool b⟩
      | int b => simp only [Dat] at hy; subst hy; obtain ⟨t, rfl⟩ := ry; exact ⟨SeqAt.RcAt.none_int b t, SeqAt.EqAt.none_int b t, SeqAt.RcNeAt.none_int b t⟩
      | str b => simp only [Dat] at hy; subst hy; obtain ⟨t, rfl⟩ := ry; exact ⟨SeqAt.RcAt.none_str b t, SeqAt.EqAt.none_str b t, SeqAt.RcNeAt.none_str b t⟩
      | tup es =>
        simp only [Dat] at hy; obtain ⟨b, ys, rfl, hb, _⟩ := hy; cases ry
        obtain ⟨its, _, p⟩ := tup_at I hb
        exact ⟨SeqAt.RcAt.none_tuple p hu', SeqAt.EqAt.none_tuple p hu', SeqAt.RcNeAt.none_tuple p hu'⟩
      | lst es =>
        simp only [Dat] at hy; obtain ⟨b, ys, rfl, hb, _⟩ := hy; cases ry
        obtain ⟨its, _, p⟩ := lst_at I hb
        exact ⟨SeqAt.RcAt.none_list p hu', SeqAt.EqAt.none_list p hu', SeqAt.RcNeAt.none_list p hu'⟩
    | bl a =>
      simp only [Dat] at hx; subst hx; cases rx
      cases e with
      | non => simp only [Dat] at hy; subst hy; cases ry; exact ⟨SeqAt.RcAt.bool_none a, SeqAt.EqAt.bool_none a, SeqAt.RcNeAt.bool_none a⟩
      | bl b => simp only [Dat] at hy; subst hy; cases ry; exact ⟨SeqAt.RcAt.bool_bool a b, SeqAt.EqAt.bool_bool a b, SeqAt.RcNeAt.bool_bool a b⟩
      | int b => simp only [Dat] at hy; subst hy; obtain ⟨t, rfl⟩ := ry; exact ⟨SeqAt.RcAt.bool_int a b t, SeqAt.EqAt.bool_int a b t, SeqAt.RcNeAt.bool_int a b t⟩
      | str b => simp only [Dat] at hy; subst hy; obtain ⟨t, rfl⟩ := ry; exact ⟨SeqAt.RcAt.bool_str a b t, SeqAt.EqAt.bool_str a b t, SeqAt.RcNeAt.bool_str a b t⟩
      | tup es =>
        simp only [Dat] at hy; obtain ⟨b, ys, rfl, hb, _⟩ := hy; cases ry
        obtain ⟨its, _, p⟩ := tup_at I hb
        exact ⟨SeqAt.RcAt.bool_tuple a p hu', SeqAt.EqAt.bool_tuple a p hu', SeqAt.RcNeAt.bool_tuple a p hu'⟩
      | lst es =>
        simp only [Dat] at hy; obtain ⟨b, ys, rfl, hb, _⟩ := hy; cases ry
        obtain ⟨its, _, p⟩ := lst_at I hb
        exact ⟨SeqAt.RcAt.bool_list a p hu', SeqAt.EqAt.bool_list a p hu', SeqAt.RcNeAt.bool_list a p hu'⟩
    | int a =>
      simp only [Dat] at hx; subst hx; obtain ⟨t', rfl⟩ := rx
      cases e with
      | non => simp only [Dat] at hy; subst hy; cases ry; exact ⟨SeqAt.RcAt.int_none a t', SeqAt.EqAt.int_none a t', SeqAt.RcNeAt.int_none a t'⟩
      | bl b => simp only [Dat] at hy; subst hy; cases ry; exact ⟨SeqAt.RcAt.int_bool a t' b, SeqAt.EqAt.int_bool a t' b, SeqAt.RcNeAt.int_bool a t' b⟩
      | int b => simp only [Dat] at hy; subst hy; obtain ⟨t, rfl⟩ := ry; exact ⟨SeqAt.RcAt.int_int a t' b t, SeqAt.EqAt.int_int a t' b t, SeqAt.RcNeAt.int_int a t' b t⟩
      | str b => simp only [Dat] at hy; subst hy; obtain ⟨t, rfl⟩ := ry; exact ⟨SeqAt.RcAt.int_str a t' b t, SeqAt.EqAt.int_str a t' b t, SeqAt.RcNeAt.int_str a t' b t⟩
      | tup es =>
        simp only [Dat] at hy; obtain ⟨b, ys, rfl, hb, _⟩ := hy; cases ry
        obtain ⟨its, _, p⟩ := tup_at I hb
        exact ⟨SeqAt.RcAt.int_tuple a t' p hu', SeqAt.EqAt.int_tuple a t' p hu', SeqAt.RcNeAt.int_tuple a t' p hu'⟩
      | lst es =>
        simp only [Dat] at hy; obtain ⟨b, ys, rfl, hb, _⟩ := hy; cases ry
        obtain ⟨its, _, p⟩ := lst_at I hb
        exact ⟨SeqAt.RcAt.int_list a t' p hu', SeqAt.EqAt.int_list a t' p hu', SeqAt.RcNeAt.int_list a t' p hu'⟩
    | str a =>
      simp only [Dat] at hx; subst hx; obtain ⟨t', rfl⟩ := rx
      cases e with
      | non => simp only [Dat] at hy; subst hy; cases ry; exact ⟨SeqAt.RcAt.str_none a t', SeqAt.EqAt.str_none a t', SeqAt.RcNeAt.str_none a t'⟩
      | bl b => simp only [Dat] at hy; subst hy; cases ry; exact ⟨SeqAt.RcAt.str_bool a t' b, SeqAt.EqAt.str_bool a t' b, SeqAt.RcNeAt.str_bool a t' b⟩
      | int b => simp only [Dat] at hy; subst hy; obtain ⟨t, rfl⟩ := ry; exact ⟨SeqAt.RcAt.str_int a t' b t, SeqAt.EqAt.str_int a t' b t, SeqAt.RcNeAt.str_int a t' b t⟩
      | str b => simp only [Dat] at hy; subst hy; obtain ⟨t, rfl⟩ := ry; exact ⟨SeqAt.RcAt.str_str a t' b t, SeqAt.EqAt.str_str a t' b t, SeqAt.RcNeAt.str_str a t' b t⟩
      | tup es =>
        simp only [Dat] at hy; obtain ⟨b, ys, rfl, hb, _⟩ := hy; cases ry
        obtain ⟨its, _, p⟩ := tup_at I hb
        exact ⟨SeqAt.RcAt.str_tuple a t' p hu', SeqAt.EqAt.str_tuple a t' p hu', SeqAt.RcNeAt.str_tuple a t' p hu'⟩
      | lst es =>
        simp only [Dat] at hy; obtain ⟨b, ys, rfl, hb, _⟩ := hy; cases ry
        obtain ⟨its, _, p⟩ := lst_at I hb
        exact ⟨SeqAt.RcAt.str_list a t' p hu', SeqAt.EqAt.str_list a t' p hu', SeqAt.RcNeAt.str_list a t' p hu'⟩
  | succ n ih =>
    intro d e x y v u A hd hu hx hy rx ry
    have hu' : A.units < cLine := by omega
    by_cases h0 : dep d ≤ n
    · exact ih d e x y v u A h0 (by omega) hx hy rx ry
    have hin : A.in1.units + n < cLine := by show A.units + 1 + n < cLine; omega
    -- the items
    have items : ∀ (ds es : List D) (xs ys : List V) (its its2 : List Value), deps ds ≤ n → Dats H ds xs → Dats H es ys → Vals xs its → Vals ys its2 →
        ∀ j (h1 : j < its.toArray.size) (h2 : j < its2.toArray.size), SeqAt.EqAt A.in1 s its.toArray[j] its2.toArray[j] (eqD (ds.getD j .non) (es.getD j .non)) := by
      intro ds es xs ys its its2 hdp hxs hys r1 r2 j h1 h2
      have l1 : j < ds.length := by rw [← hxs.length, r1.length]; simpa using h1
      have l2 : j < es.length := by rw [← hys.length, r2.length]; simpa using h2
      obtain ⟨x', ex, hx'⟩ := hxs.get (List.getElem?_eq_getElem l1)
      obtain ⟨y', ey, hy'⟩ := hys.get (List.getElem?_eq_getElem l2)
      have g1 : ds.getD j .non = ds[j] := by rw [List.getD_eq_getElem?_getD, List.getElem?_eq_getElem l1]; rfl
      have g2 : es.getD j .non = es[j] := by rw [List.getD_eq_getElem?_getD, List.getElem?_eq_getElem l2]; rfl
      rw [g1, g2]
      exact (ih ds[j] es[j] x' y' _ _ A.in1 (Nat.le_trans (deps_mem (List.getElem_mem l1)) hdp) hin hx' hy' (vals_at r1 ex h1) (vals_at r2 ey h2)).2.1
    cases d with
    | non => simp only [dep] at h0; omega
    | bl a => simp only [dep] at h0; omega
    | int a => simp only [dep] at h0; omega
    | str a => simp only [dep] at h0; omega
    | tup ds =>
      simp only [dep] at hd
      have hx0 := hx
      simp only [Dat] at hx; obtain ⟨a, xs, rfl, ha, hxs⟩ := hx; cases rx
      obtain ⟨its, r1, p⟩ := tup_at I ha
      cases e with
      | non => simp only [Dat] at hy; subst hy; cases ry; exact ⟨SeqAt.RcAt.tuple_none p hu', SeqAt.EqAt.tuple_none p hu', SeqAt.RcNeAt.tuple_none p hu'⟩
      | bl b => simp only [Dat] at hy; subst hy; cases ry; exact ⟨SeqAt.RcAt.tuple_bool b p hu', SeqAt.EqAt.tuple_bool b p hu', SeqAt.RcNeAt.tuple_bool b p hu'⟩
      | int b => simp only [Dat] at hy; subst hy; obtain ⟨t, rfl⟩ := ry; exact ⟨SeqAt.RcAt.tuple_int b t p hu', SeqAt.EqAt.tuple_int b t p hu', SeqAt.RcNeAt.tuple_int b t p hu'⟩
      | str b => simp only [Dat] at hy; subst hy; obtain ⟨t, rfl⟩ := ry; exact ⟨SeqAt.RcAt.tuple_str b t p hu', SeqAt.EqAt.tuple_str b t p hu', SeqAt.RcNeAt.tuple_str b t p hu'⟩
      | lst es =>
        simp only [Dat] at hy; obtain ⟨b, ys, rfl, hb, _⟩ := hy; cases ry
        obtain ⟨its2, _, p2⟩ := lst_at I hb
        exact ⟨SeqAt.RcAt.tuple_list p p2 hu', SeqAt.EqAt.tuple_list p p2 hu', SeqAt.RcNeAt.tuple_list p p2 hu'⟩
      | tup es =>
        have hy0 := hy
        simp only [Dat] at hy; obtain ⟨b, ys, rfl, hb, hys⟩ := hy; cases ry
        obtain ⟨its2, r2, p2⟩ := tup_at I hb
        have it := items ds es xs ys its its2 (by omega) hxs hys r1 r2
        have z1 : its.toArray.size = ds.length := by rw [← hxs.length, r1.length]; simp
        have z2 : its2.toArray.size = es.length := by rw [← hys.length, r2.length]; simp
        have e0 := eqDs_min (ds := ds) (es := es)
        have rc : SeqAt.RcAt A s (.ref a) (.ref b) (eqDs ds es) := by
          have := SeqAt.RcAt.tuples p p2 hu' it
          rw [z1, z2, e0] at this
          exact this
        have rn : SeqAt.RcNeAt A s (.ref a) (.ref b) (!eqDs ds es) := by
          have := SeqAt.RcNeAt.tuples p p2 hu' it
          rw [z1, z2, e0] at this
          exact this
        simp only [eqD]
        refine ⟨rc, ?_, rn⟩
        by_cases hab : a = b
        · subst hab
          have : D.tup ds = D.tup es := hx0.inj hy0
          cases this
          rw [eqDs_refl]
          exact SeqAt.EqAt.same _
        · exact .of_refs hab rc
    | lst ds =>
      simp only [dep] at hd
      have hx0 := hx
      simp only [Dat] at hx; obtain ⟨a, xs, rfl, ha, hxs⟩ := hx; cases rx
      obtain ⟨its, r1, p⟩ := lst_at I ha
      cases e with
      | non => simp only [Dat] at hy; subst hy; cases ry; exact ⟨SeqAt.RcAt.list_none p hu', SeqAt.EqAt.list_none p hu', SeqAt.RcNeAt.list_none p hu'⟩
      | bl b => simp only [Dat] at hy; subst hy; cases ry; exact ⟨SeqAt.RcAt.list_bool b p hu', SeqAt.EqAt.list_bool b p hu', SeqAt.RcNeAt.list_bool b p hu'⟩
      | int b => simp only [Dat] at hy; subst hy; obtain ⟨t, rfl⟩ := ry; exact ⟨SeqAt.RcAt.list_int b t p hu', SeqAt.EqAt.list_int b t p hu', SeqAt.RcNeAt.list_int b t p hu'⟩
      | str b => simp only [Dat] at hy; subst hy; obtain ⟨t, rfl⟩ := ry; exact ⟨SeqAt.RcAt.list_str b t p hu', SeqAt.EqAt.list_str b t p hu', SeqAt.RcNeAt.list_str b t p hu'⟩
      | tup es =>
        simp only [Dat] at hy; obtain ⟨b, ys, rfl, hb, _⟩ := hy; cases ry
        obtain ⟨its2, _, p2⟩ := tup_at I hb
        exact ⟨SeqAt.RcAt.list_tuple p p2 hu', SeqAt.EqAt.list_tuple p p2 hu', SeqAt.RcNeAt.list_tuple p p2 hu'⟩
      | lst es =>
        have hy0 := hy
        simp only [Dat] at hy; obtain ⟨b, ys, rfl, hb, hys⟩ := hy; cases ry
        obtain ⟨its2, r2, p2⟩ := lst_at I hb
        have it := items ds es xs ys its its2 (by omega) hxs hys r1 r2
        have z1 : its.toArray.size = ds.length := by rw [← hxs.length, r1.length]; simp
        have z2 : its2.toArray.size = es.length := by rw [← hys.length, r2.length]; simp
        have both : SeqAt.RcAt A s (.ref a) (.ref b) (eqDs ds es) ∧ SeqAt.RcNeAt A s (.ref a) (.ref b) (!eqDs ds es) := by
          by_cases hl : ds.length = es.length
          · have r := SeqAt.RcAt.lists p p2 (by rw [z1, z2]; exact hl) hu' it
            have q := SeqAt.RcNeAt.lists p p2 (by rw [z1, z2]; exact hl) hu' it
            rw [z1, eqDs_range hl] at r q
            exact ⟨r, q⟩
          · have hne : (its.toArray.size != its2.toArray.size) = true := by rw [z1, z2]; simpa using hl
            rw [eqDs_len hl]
            exact ⟨SeqAt.RcAt.lists_lengths p p2 hne hu', SeqAt.RcNeAt.lists_lengths p p2 hne hu'⟩
        simp only [eqD]
        refine ⟨both.1, ?_, both.2⟩
        by_cases hab : a = b
        · subst hab
          have : D.lst ds = D.lst es := hx0.inj hy0
          cases this
          rw [eqDs_refl]
          exact SeqAt.EqAt.same _
        · exact .of_refs hab both.1
/-! ### ==, !=, in of data (dep at most 100) -/
def rEqD (neg : Bool) : R2 := fun x y H Q => ∃ d e, Dat H d x ∧ Dat H e y ∧ dep d ≤ 100 ∧ Q (.bl (if neg then !eqD d e else eqD d e)) H
theorem op_neD (hu : X.A.units + 100 < cLine) : OpR X (compareOp .NotEq) (rEqD true) := by
  intro pins s σ H x y v u Q I rx ry h
  obtain ⟨d, e, hx, hy, hd, q⟩ := h
  exact (eqAt_D I 100 d e x y v u X.A hd hu hx hy rx ry).2.2 X.prog X.w _ _ ⟨.bl _, H, I, rfl, q⟩
end
end L2

set_option Elab.async false
set_option linter.all false
set_option autoImplicit false
set_option maxRecDepth 100000
set_option maxHeartbeats 1000000
namespace L2
open PySem PySem.Spec PyProof.Rows
theorem same_upd {H : Hp} {p : Addr} {o : HO} (h : H p = none) : Same H (upd H p o) := fun b u e => by
  rw [upd_ne (ne_of_none e h)]; exact e
/-- a new thing: its data, all else as it was -/
def Got (H : Hp) (d : D) (Q : VK) : Prop := ∀ r H', Same H H' → Dat H' d r → Q r H'
theorem dats_ints (H : Hp) : ∀ ns : List Int, Dats H (ns.map D.int) (ns.map V.int)
  | [] => by simp [Dats]
  | n :: r => by
    simp only [List.map_cons, Dats]
    exact ⟨_, _, rfl, by simp [Dat], dats_ints H r⟩
section
variable {X : Cx}
/-- t + u of tuples, whatever their lengths -/
def rCatD : R2 := fun x y H Q => ∃ ds es, Dat H (.tup ds) x ∧ Dat H (.tup es) y ∧ ds.length + es.length ≤ sizeLine ∧ Got H (.tup (ds ++ es)) Q
end
end L2

set_option Elab.async false
set_option linter.all false
set_option autoImplicit false
set_option maxRecDepth 100000
set_option maxHeartbeats 1000000
namespace L2
open PySem PySem.Spec PyProof.Rows
section
variable {K : PySem.W.Frag} {g : TG} {tc : TT} {l : TL} {acc : Addr} {σ : St} {H : Hp} {R : St → Hp → Prop}
theorem cont_eq {Pv : Nat → St → Hp → Prop} {n i m : Nat} (hi : i < n) (hm : m + i = n) : (fun (σ3 : St) (H4 : Hp) => ∃ m', m' < m ∧ (Pv (i + 1) σ3 H4 ∧ m' + (i + 1) = n ∧ i + 1 ≤ n)) = Pv (i + 1) := by
  funext σ3 H4
  apply propext
  constructor
  · rintro ⟨m', _, h, _⟩; exact h
  · intro h; exact ⟨n - (i + 1), by omega, h, by omega, by omega⟩
theorem cont_prop {Pv : Nat → St → Hp → Prop} {n i m : Nat} (hi : i < n) (hm : m + i = n) (σ3 : St) (H4 : Hp) : (∃ m', m' < m ∧ (Pv (i + 1) σ3 H4 ∧ m' + (i + 1) = n ∧ i + 1 ≤ n)) = Pv (i + 1) σ3 H4 :=
  congrFun (congrFun (cont_eq (Pv := Pv) hi hm) σ3) H4
/-- a comprehension's turns over a list that stays -/
theorem cloop_list {a : Addr} {xs : List V} (Pv : Nat → St → Hp → Prop) (h0 : Pv 0 σ H) (hl : ∀ i σ H, i ≤ xs.length → Pv i σ H → SqL K H a xs)
    (hs : ∀ i x σ H, xs[i]? = some x → Pv i σ H → g x σ H fun σ2 H2 => tc σ2 H2 fun b H3 => if b = true then l acc σ2 H3 (Pv (i + 1)) else Pv (i + 1) σ2 H3)
    (hd : ∀ σ H, Pv xs.length σ H → R σ H) : lLoop (Itl K a) g tc l acc σ H R := by
  refine ⟨fun i m σ H => Pv i σ H ∧ m + i = xs.length ∧ i ≤ xs.length, ⟨xs.length, h0, by omega, Nat.zero_le _⟩, ?_⟩
  rintro i m σ H ⟨p, hm, hi⟩
  by_cases hlt : i < xs.length
  · refine .inr ⟨⟨xs, xs[i], hl i σ H hi p, List.getElem?_eq_getElem hlt⟩, ?_⟩
    rintro x H' ⟨rfl, hx⟩
    have hx' := hx xs (hl i σ H' hi p)
    have := hs i x σ H' hx' p
    simp only [cont_eq (Pv := Pv) hlt hm, cont_prop (Pv := Pv) hlt hm]
    exact this
  · have : i = xs.length := by omega
    subst this
    exact .inl ⟨⟨xs, hl _ σ H hi p, Nat.le_refl _⟩, hd σ H p⟩
theorem cloop_tup {a : Addr} {xs : List V} (Pv : Nat → St → Hp → Prop) (h0 : Pv 0 σ H) (hl : ∀ i σ H, i ≤ xs.length → Pv i σ H → SqT K H a xs)
    (hs : ∀ i x σ H, xs[i]? = some x → Pv i σ H → g x σ H fun σ2 H2 => tc σ2 H2 fun b H3 => if b = true then l acc σ2 H3 (Pv (i + 1)) else Pv (i + 1) σ2 H3)
    (hd : ∀ σ H, Pv xs.length σ H → R σ H) : lLoop (Itt K a) g tc l acc σ H R := by
  refine ⟨fun i m σ H => Pv i σ H ∧ m + i = xs.length ∧ i ≤ xs.length, ⟨xs.length, h0, by omega, Nat.zero_le _⟩, ?_⟩
  rintro i m σ H ⟨p, hm, hi⟩
  by_cases hlt : i < xs.length
  · refine .inr ⟨⟨xs, xs[i], hl i σ H hi p, List.getElem?_eq_getElem hlt⟩, ?_⟩
    rintro x H' ⟨rfl, hx⟩
    have hx' := hx xs (hl i σ H' hi p)
    have := hs i x σ H' hx' p
    simp only [cont_eq (Pv := Pv) hlt hm, cont_prop (Pv := Pv) hlt hm]
    exact this
  · have : i = xs.length := by omega
    subst this
    exact .inl ⟨⟨xs, hl _ σ H hi p, Nat.le_refl _⟩, hd σ H p⟩
theorem cloop_range {lo : Int} {n : Nat} (Pv : Nat → St → Hp → Prop) (h0 : Pv 0 σ H)
    (hs : ∀ i σ H, i < n → Pv i σ H → g (.int (lo + i)) σ H fun σ2 H2 => tc σ2 H2 fun b H3 => if b = true then l acc σ2 H3 (Pv (i + 1)) else Pv (i + 1) σ2 H3)
    (hd : ∀ σ H, Pv n σ H → R σ H) : lLoop (Itr lo n) g tc l acc σ H R := by
  refine ⟨fun i m σ H => Pv i σ H ∧ m + i = n ∧ i ≤ n, ⟨n, h0, by omega, Nat.zero_le _⟩, ?_⟩
  rintro i m σ H ⟨p, hm, hi⟩
  by_cases hlt : i < n
  · refine .inr ⟨hlt, ?_⟩
    rintro x H' ⟨rfl, rfl⟩
    have := hs i σ H' hlt p
    simp only [cont_eq (Pv := Pv) hlt hm, cont_prop (Pv := Pv) hlt hm]
    exact this
  · have : i = n := by omega
    subst this
    exact .inl ⟨Nat.le_refl _, hd σ H p⟩
end
/-! ### data that stand below a heap, whatever is done to an object that was not there -/
theorem same_over {H H' : Hp} {l : Addr} {o : HO} (hl : H l = none) (e : Same H H') : Same H (upd H' l o) := fun b u h => by
  rw [upd_ne (ne_of_none h hl)]; exact e b u h
/-- nothing but p has changed -/
def But (p : Addr) (H H' : Hp) : Prop := ∀ b, b ≠ p → H' b = H b
theorem But.refl (p : Addr) (H : Hp) : But p H H := fun _ _ => rfl
theorem But.trans {p : Addr} {H H1 H2 : Hp} (a : But p H H1) (b : But p H1 H2) : But p H H2 := fun c hc => (b c hc).trans (a c hc)
theorem But.same {p : Addr} {H0 H H' : Hp} (hp : H0 p = none) (e : Same H0 H) (b : But p H H') : Same H0 H' := fun c o h => by
  rw [b c (ne_of_none h hp)]; exact e c o h
end L2

set_option Elab.async false
set_option linter.all false
set_option autoImplicit false
set_option maxRecDepth 100000
set_option maxHeartbeats 1000000
namespace L2
open PySem PySem.Spec PyProof.Rows
theorem cmul_mod {e k y : Int} (h : 0 < k) (h2 : k ≤ 2 ^ 64) : CMul (e % k) y := by
  have h1 := Int.emod_nonneg e (Int.ne_of_gt h)
  have h3 := Int.emod_lt_of_pos e h
  exact .inl ⟨by omega, by omega⟩
theorem cmul_l {x y : Int} (h : -(2 ^ 64) < x ∧ x < 2 ^ 64) : CMul x y := .inl h
theorem cmul_r {x y : Int} (h : -(2 ^ 64) < y ∧ y < 2 ^ 64) : CMul x y := .inr h
theorem len_lst {K : PySem.W.Frag} {H : Hp} {a : Addr} {xs : List V} (h : SqL K H a xs) : LenV K (.ref a) H xs.length := .inl ⟨xs, h, rfl⟩
theorem len_tup {K : PySem.W.Frag} {H : Hp} {a : Addr} {xs : List V} (h : SqT K H a xs) : LenV K (.ref a) H xs.length := .inr ⟨xs, h, rfl⟩
theorem atI_ints {ns : List Int} {i : Int} (h0 : 0 ≤ i) (h1 : i < (ns.length : Int)) : ∃ n, atI (ns.map V.int) i = some (.int n) := by
  obtain ⟨j, rfl⟩ := Int.eq_ofNat_of_zero_le h0
  have hj : j < ns.length := by omega
  exact ⟨ns[j], atI_nat (by rw [List.getElem?_map, List.getElem?_eq_getElem hj]; rfl)⟩
end L2

set_option Elab.async false
set_option linter.all false
set_option autoImplicit false
set_option maxRecDepth 100000
set_option maxHeartbeats 1000000
namespace L2
open PySem PySem.Spec PyProof.Rows
/-! ### the rules whose reading names the written part, for a block -/
section
variable {X : Cx} {tg a b l : Expr} {ta tb tl : TE} {pos : Pos}
theorem ix_tupK (K : PySem.W.Frag) (h : X.K = K) : IxR X (rIxT K) := h ▸ ix_tup
end
end L2

set_option Elab.async false
set_option linter.all false
set_option autoImplicit false
set_option maxRecDepth 100000
set_option maxHeartbeats 1000000
namespace L2
open PySem PySem.Spec PyProof.Rows
/-- a loop's turns -/
def forW (J : It) (g : TG) (tb : TS) (D : Ends) (σ : St) (H : Hp) : Prop := ∃ W : Nat → Nat → St → Hp → Prop, (∃ m, W 0 m σ H) ∧ ∀ i m σ H, W i m σ H →
  (J.stop i H ∧ D.nx σ H) ∨ (J.go i H ∧ ∃ N : St → Hp → Prop, (∀ σ' H', N σ' H' → ∃ m', m' < m ∧ W (i + 1) m' σ' H') ∧ ∀ x H', J.yld i H x H' → g x σ H' fun σ2 H2 => tb { D with nx := N, ct := N, bk := D.nx } σ2 H2)
theorem tFor_eq (wi : TI) (g : TG) (tb : TS) (D : Ends) (σ : St) (H : Hp) : tFor wi g tb D σ H = wi σ H fun J H1 => forW J g tb D σ H1 := rfl
section
variable {K : PySem.W.Frag} {a : Addr} {xs : List V} {g : TG} {tb : TS} {D : Ends} {σ : St} {H : Hp}
theorem forW_list (Pv : Nat → St → Hp → Prop) (h0 : Pv 0 σ H) (hl : ∀ i σ H, i ≤ xs.length → Pv i σ H → SqL K H a xs)
    (hs : ∀ i x σ H, xs[i]? = some x → Pv i σ H → g x σ H fun σ2 H2 => tb { D with nx := Pv (i + 1), ct := Pv (i + 1), bk := D.nx } σ2 H2) (hd : ∀ σ H, Pv xs.length σ H → D.nx σ H) : forW (Itl K a) g tb D σ H := for_list Pv h0 hl hs hd
theorem forW_tup (Pv : Nat → St → Hp → Prop) (h0 : Pv 0 σ H) (hl : ∀ i σ H, i ≤ xs.length → Pv i σ H → SqT K H a xs)
    (hs : ∀ i x σ H, xs[i]? = some x → Pv i σ H → g x σ H fun σ2 H2 => tb { D with nx := Pv (i + 1), ct := Pv (i + 1), bk := D.nx } σ2 H2) (hd : ∀ σ H, Pv xs.length σ H → D.nx σ H) : forW (Itt K a) g tb D σ H := for_tup Pv h0 hl hs hd
theorem forW_range {lo : Int} {n : Nat} (Pv : Nat → St → Hp → Prop) (h0 : Pv 0 σ H)
    (hs : ∀ i σ H, i < n → Pv i σ H → g (.int (lo + i)) σ H fun σ2 H2 => tb { D with nx := Pv (i + 1), ct := Pv (i + 1), bk := D.nx } σ2 H2) (hd : ∀ σ H, Pv n σ H → D.nx σ H) : forW (Itr lo n) g tb D σ H := for_range Pv h0 hs hd
end
end L2

set_option Elab.async false
set_option linter.all false
set_option autoImplicit false
set_option maxRecDepth 100000
set_option maxHeartbeats 1000000
namespace L2
open PySem PySem.Spec PyProof.Rows
/-! ### data without lists: they stand as long as the tuples do -/
def TSame (H H' : Hp) : Prop := ∀ b xs, H b = some (.tup xs) → H' b = some (.tup xs)
theorem TSame.refl (H : Hp) : TSame H H := fun _ _ h => h
theorem TSame.trans {H H1 H2 : Hp} (a : TSame H H1) (b : TSame H1 H2) : TSame H H2 := fun c xs h => b c xs (a c xs h)
theorem Same.t {H H' : Hp} (e : Same H H') : TSame H H' := fun b xs h => e b _ h
theorem tsame_upd {H : Hp} {a : Addr} {o : HO} {xs : List V} (h : H a = some (.lst xs)) : TSame H (upd H a o) := fun b ys e => by
  rw [upd_ne (by rintro rfl; rw [h] at e; cases e)]; exact e
mutual
def noL : D → Bool
  | .lst _ => false
  | .tup ds => noLs ds
  | _ => true
def noLs : List D → Bool
  | [] => true
  | d :: ds => noL d && noLs ds
end
mutual
theorem Dat.t {H H' : Hp} (e : TSame H H') : ∀ {d : D} {v : V}, noL d = true → Dat H d v → Dat H' d v
  | .non, v, _, h => by simpa only [Dat] using h
  | .bl b, v, _, h => by simpa only [Dat] using h
  | .int i, v, _, h => by simpa only [Dat] using h
  | .str x, v, _, h => by simpa only [Dat] using h
  | .tup ds, v, n, h => by
    simp only [Dat] at h ⊢
    simp only [noL] at n
    obtain ⟨a, xs, rfl, h1, h2⟩ := h
    exact ⟨a, xs, rfl, e a _ h1, Dats.t e n h2⟩
  | .lst ds, v, n, h => by simp [noL] at n
theorem Dats.t {H H' : Hp} (e : TSame H H') : ∀ {ds : List D} {xs : List V}, noLs ds = true → Dats H ds xs → Dats H' ds xs
  | [], xs, _, h => by simpa only [Dats] using h
  | d :: ds, xs, n, h => by
    simp only [Dats] at h ⊢
    simp only [noLs, Bool.and_eq_true] at n
    obtain ⟨x, r, rfl, h1, h2⟩ := h
    exact ⟨x, r, rfl, Dat.t e n.1 h1, Dats.t e n.2 h2⟩
end
theorem noLs_all : ∀ {ds : List D}, (∀ d ∈ ds, noL d = true) → noLs ds = true
  | [], _ => by simp [noLs]
  | d :: ds, h => by
    simp only [noLs, Bool.and_eq_true]
    exact ⟨h d (List.mem_cons_self ..), noLs_all fun e he => h e (List.mem_cons_of_mem _ he)⟩
theorem noLs_ints (ns : List Int) : noLs (ns.map D.int) = true := noLs_all fun d hd => by
  obtain ⟨n, _, rfl⟩ := List.mem_map.mp hd
  simp [noL]
end L2
namespace L2
/-- an invariant, by its letter alone -/
theorem inv (F : Nat → St → Hp → Prop) : ∃ Pv : Nat → St → Hp → Prop, ∀ i σ H, Pv i σ H ↔ F i σ H := ⟨F, fun _ _ _ => Iff.rfl⟩
end L2
namespace L2
open PySem
theorem scal_ii (a b : Int) : scal (.int a) (.int b) = true := rfl
theorem scal_ss (a b : Str) : scal (.str a) (.str b) = true := rfl
theorem scal_bb (a b : Bool) : scal (.bl a) (.bl b) = true := rfl
/-- all but p has been kept, things may be new -/
def Keep (p : Addr) (H H' : Hp) : Prop := ∀ b o, b ≠ p → H b = some o → H' b = some o
theorem Keep.refl (p : Addr) (H : Hp) : Keep p H H := fun _ _ _ h => h
theorem Keep.trans {p : Addr} {H H1 H2 : Hp} (a : Keep p H H1) (b : Keep p H1 H2) : Keep p H H2 := fun c o hc h => b c o hc (a c o hc h)
theorem But.keep {p : Addr} {H H' : Hp} (b : But p H H') : Keep p H H' := fun c o hc h => by rw [b c hc]; exact h
theorem Same.keep {p : Addr} {H H' : Hp} (b : Same H H') : Keep p H H' := fun c o _ h => b c o h
theorem Keep.same {p : Addr} {H0 H H' : Hp} (hp : H0 p = none) (e : Same H0 H) (b : Keep p H H') : Same H0 H' := fun c o h => b c o (ne_of_none h hp) (e c o h)
end L2
namespace L2
open PySem
theorem Room.u100 {k : Nat} {A : Around} (r : Room k A) : A.units + 100 < cLine := by have := r.un; omega
end L2
namespace L2
open PySem
theorem TruV_bl {K : PySem.W.Frag} {b : Bool} {H : Hp} {k : Bool} : TruV K (.bl b) H k = (k = b) := rfl
theorem deps_le : ∀ {ds : List D} {n : Nat}, (∀ d ∈ ds, dep d ≤ n) → deps ds ≤ n
  | [], n, _ => by simp [deps]
  | d :: ds, n, h => by
    simp only [deps]
    exact Nat.max_le.mpr ⟨h d (List.mem_cons_self ..), deps_le fun e he => h e (List.mem_cons_of_mem _ he)⟩
theorem deps_ints (ns : List Int) : deps (ns.map D.int) = 0 := by
  have : deps (ns.map D.int) ≤ 0 := deps_le fun d hd => by
    obtain ⟨n, _, rfl⟩ := List.mem_map.mp hd
    simp [dep]
  omega
theorem ty_tup {H : Hp} {a : Addr} {xs : List V} (h : H a = some (.tup xs)) : tyName H (.ref a) = some "tuple" := by simp [tyName, h]
theorem isA_of {H : Hp} {x : V} {t : String} (h : tyName H x = some t) : isA H x t = true := by simp [isA, h]
end L2

set_option Elab.async false
set_option linter.all false
set_option autoImplicit false
set_option maxRecDepth 100000
set_option maxHeartbeats 1000000
namespace L2
open PySem PySem.Spec PyProof.Rows
section
variable {X : Cx}
/-- a list against an empty one -/
theorem op_neNil (hu : X.A.units + 100 < cLine) : OpR X (compareOp .NotEq) (fun x y H Q => ∃ a b xs, x = .ref a ∧ y = .ref b ∧ SqL X.K H a xs ∧ SqL X.K H b [] ∧ Q (.bl (!xs.isEmpty)) H) := by
  intro pins s σ H x y v u Q I rx ry h
  obtain ⟨a, b, xs, rfl, rfl, ha, hb, q⟩ := h
  cases rx
  cases ry
  obtain ⟨its, r1, p1, _⟩ := I.list ha
  obtain ⟨its2, r2, p2, _⟩ := I.list hb
  cases r2
  have hu' : X.A.units < cLine := by omega
  cases xs with
  | nil =>
    cases r1
    have := SeqAt.RcNeAt.lists (e := fun _ => true) p1.isList p2.isList rfl hu' (fun j h1 _ => absurd h1 (by simp))
    exact this X.prog X.w _ _ ⟨.bl _, H, I, rfl, q⟩
  | cons x xs =>
    have hne : (its.toArray.size != ([] : List Value).toArray.size) = true := by
      have := r1.length
      rw [List.size_toArray, ← this]
      simp
    exact SeqAt.RcNeAt.lists_lengths p1.isList p2.isList hne hu' X.prog X.w _ _ ⟨.bl _, H, I, rfl, q⟩
end
/-! ### a pen: the script, the place, what is left -/
def penK (a : Addr) (at_ left : Int) : List (Key × V) := [(Sum.inr "script", .ref a), (Sum.inr "at", .int at_), (Sum.inr "left", .int left)]
theorem ps1 : ¬ ("script" : Str) = "at" := by decide +kernel
theorem ps2 : ¬ ("script" : Str) = "left" := by decide +kernel
theorem ps3 : ¬ ("at" : Str) = "left" := by decide +kernel
theorem ps4 : ¬ ("left" : Str) = "at" := by decide +kernel
theorem pn1 : ¬ (Sum.inr ("script" : Str) : Key) = Sum.inr ("at" : Str) := fun h => ps1 (Sum.inr.inj h)
theorem pn2 : ¬ (Sum.inr ("script" : Str) : Key) = Sum.inr ("left" : Str) := fun h => ps2 (Sum.inr.inj h)
theorem pn3 : ¬ (Sum.inr ("at" : Str) : Key) = Sum.inr ("left" : Str) := fun h => ps3 (Sum.inr.inj h)
theorem pen_script (a : Addr) (i l : Int) : valV (penK a i l) (Sum.inr "script" : Key) = some (.ref a) := valV_pos rfl
theorem pen_at (a : Addr) (i l : Int) : valV (penK a i l) (Sum.inr "at" : Key) = some (.int i) := by
  unfold penK
  rw [valV_neg pn1, valV_pos rfl]
theorem pen_left (a : Addr) (i l : Int) : valV (penK a i l) (Sum.inr "left" : Key) = some (.int l) := by
  unfold penK
  rw [valV_neg pn2, valV_neg pn3, valV_pos rfl]
theorem pen_putL (a : Addr) (i l z : Int) : putK (penK a i l) (Sum.inr "left" : Key) (.int z) = penK a i z := by
  unfold putK penK
  simp [ps2, ps3]
theorem pen_putA (a : Addr) (i l z : Int) : putK (penK a i l) (Sum.inr "at" : Key) (.int z) = penK a z l := by
  unfold putK penK
  simp [ps1, ps4]
theorem dget {H : Hp} {p : Addr} {kvs : List (Key × V)} {x : Str} {v : V} (h : H p = some (.dK kvs)) (e : valV kvs (Sum.inr x : Key) = some v) : DGet H p (.str x) (some v) := by
  rw [← e]; exact DGet.k (k := Sum.inr x) h
theorem dput {H : Hp} {p : Addr} {kvs kvs' : List (Key × V)} {x : Str} {v : V} (h : H p = some (.dK kvs)) (hl : kvs.length ≤ 1000) (e : putK kvs (Sum.inr x : Key) v = kvs') : DPut H p (.str x) v (upd H p (.dK kvs')) := by
  rw [← e]; exact DPut.k (k := Sum.inr x) h (small1000 hl)
end L2
namespace L2
open PySem
theorem SqL.keep {K : PySem.W.Frag} {H H' : Hp} {p a : Addr} {kvs : List (Key × V)} {xs : List V} (hp : H p = some (.dK kvs)) (h : SqL K H a xs) (k : Keep p H H') : SqL K H' a xs := by
  rcases h with (h | ⟨o, h⟩) | h
  · exact .inl (.inl (k _ _ (ne_of h hp (by intro z; cases z)) h))
  · exact .inl (.inr ⟨o, k _ _ (ne_of h hp (by intro z; cases z)) h⟩)
  · exact .inr h
theorem keep_upd {p : Addr} {H : Hp} {o : HO} : Keep p H (upd H p o) := fun b u hb h => by rw [upd_ne hb]; exact h
end L2
namespace L2
open PySem
theorem Dats.take {H : Hp} : ∀ {ds : List D} {xs : List V} (n : Nat), Dats H ds xs → Dats H (ds.take n) (xs.take n) := fun {ds xs} n h => by
  refine Dats.of_get (by rw [List.length_take, List.length_take, h.length]) fun i d x e1 e2 => ?_
  rw [List.getElem?_take] at e1 e2
  split at e1
  · rename_i hi
    rw [if_pos hi] at e2
    obtain ⟨x', h1, h2⟩ := h.get e1
    rw [e2] at h1; cases h1; exact h2
  · cases e1
theorem Dats.drop {H : Hp} : ∀ {ds : List D} {xs : List V} (n : Nat), Dats H ds xs → Dats H (ds.drop n) (xs.drop n) := fun {ds xs} n h => by
  refine Dats.of_get (by rw [List.length_drop, List.length_drop, h.length]) fun i d x e1 e2 => ?_
  rw [List.getElem?_drop] at e1 e2
  obtain ⟨x', h1, h2⟩ := h.get e1
  rw [e2] at h1; cases h1; exact h2
end L2
namespace L2
open PySem
theorem Dats.set {H : Hp} {ds : List D} {xs : List V} {d : D} {x : V} (i : Nat) (h : Dats H ds xs) (hd : Dat H d x) : Dats H (ds.set i d) (xs.set i x) := by
  refine Dats.of_get (by rw [List.length_set, List.length_set, h.length]) fun j d' x' e1 e2 => ?_
  rw [List.getElem?_set] at e1 e2
  by_cases hij : i = j
  · rw [if_pos hij] at e1 e2
    split at e1
    · rename_i hl
      rw [if_pos (by rw [h.length]; exact hl)] at e2
      cases e1; cases e2; exact hd
    · cases e1
  · rw [if_neg hij] at e1 e2
    obtain ⟨y, h1, h2⟩ := h.get e1
    rw [e2] at h1; cases h1; exact h2
end L2

set_option Elab.async false
set_option linter.all false
set_option autoImplicit false
set_option maxRecDepth 100000
set_option maxHeartbeats 1000000
namespace L2
open PySem PySem.Spec PyProof.Rows
section
variable {X : Cx} {e st : Expr} {te ts : TE} {pos p2 : Pos}
/-- xs[::-1] of a list -/
def tRev (K : PySem.W.Frag) (te ts : TE) : TE := fun σ H Q => te σ H fun x H1 => ts σ H1 fun k H2 => k = .int (-1) ∧ ∃ a xs, x = .ref a ∧ SqL K H2 a xs ∧ ∀ p, H2 p = none → Q (.ref p) (upd H2 p (.lst xs.reverse))
theorem pe_rev (K : PySem.W.Frag) (hK : X.K = K) (he : PE X e te) (hs : PE X st ts) : PE X (.Subscript e (.Slice none none (some st) p2) pos) (tRev K te ts) := .mk <| by
  subst hK
  intro pins s σ H Q I h
  refine Subscript_ (thn (he pins s σ H _ I h) fun v s1 ⟨x, H1, I1, r1, q1⟩ => ?_)
  refine wpAny_Slice ?_
  rw [evalPart_none]
  refine wpAny_pure (wpAny_pure ?_)
  rw [evalPart_some]
  refine thn (hs pins s1 σ H1 _ I1 q1) fun u s2 ⟨k, H2, I2, r2, q2⟩ => ?_
  obtain ⟨rfl, a, xs, rfl, hx, q⟩ := q2
  obtain ⟨t, rfl⟩ := r2
  cases r1
  have I4 : Inv X pins σ H2 { s2 with heap := s2.heap.push { cls := .type "slice", data := .fields #[.none, .none, .int (-1) t] } } := I2.kept (t' := s2.toks) fun b ob q => Heap.get?_push_of_some _ q
  obtain ⟨its, r, ht, hz⟩ := I4.list hx
  have hlen := r.length
  refine tail_any (ops := [.ref a, .ref s2.heap.objs.size]) (ht.isList.typeIs) slot_list_getitem.lookup ?_ (by with_unfolding_all rfl)
  refine wpAny_getItem_list_slice ht.isList (Heap.IsSliceOf.new ..) .none .none (.int (-1) t) (by simp) ?_ (by rw [List.size_toArray] <;> omega)
  rw [PySem.W.krv_pick]
  refine ⟨.ref _, _, I4.laid (t' := s2.toks) (o := .lst xs.reverse) (fun b ob q => Heap.get?_push_of_some _ q) (Nat.le_refl _) ?_, rfl, q _ (I4.hok.fresh (Nat.le_refl _))⟩
  refine ⟨by rw [List.length_reverse]; exact hz, its.reverse, 0, ?_, Heap.get?_push_size _ rfl⟩
  exact r.reverse
end
end L2

set_option Elab.async false
set_option linter.all false
set_option autoImplicit false
set_option maxRecDepth 100000
set_option maxHeartbeats 1000000
namespace L2
open PySem PySem.Spec PyProof.Rows
/-! ### a list of one's own that holds data without lists -/
def LD (H : Hp) (l : Addr) (ds : List D) : Prop := noLs ds = true ∧ ∃ xs, H l = some (.lst xs) ∧ Dats H ds xs
theorem noLs_append {ds es : List D} : noLs (ds ++ es) = (noLs ds && noLs es) := by
  induction ds with
  | nil => simp [noLs]
  | cons d ds ih => simp [noLs, ih, Bool.and_assoc]
theorem LD.new {H : Hp} {q : Addr} : LD (upd H q (.lst [])) q [] := ⟨by simp [noLs], [], upd_same, by simp [Dats]⟩
theorem LD.one {H : Hp} {q : Addr} {d : D} {v : V} (hq : H q = none) (hn : noL d = true) (h : Dat H d v) : LD (upd H q (.lst [v])) q [d] := ⟨by simp [noLs, hn], [v], upd_same, Dats.one (h.same (same_upd hq))⟩
theorem LD.same {H H' : Hp} {l : Addr} {ds : List D} (h : LD H l ds) (s : Same H H') : LD H' l ds := by
  obtain ⟨n, xs, h1, h2⟩ := h
  exact ⟨n, xs, s _ _ h1, h2.same s⟩
theorem LD.t {H H' : Hp} {l : Addr} {ds : List D} (h : LD H l ds) (s : TSame H H') (e : H' l = H l) : LD H' l ds := by
  obtain ⟨n, xs, h1, h2⟩ := h
  exact ⟨n, xs, by rw [e]; exact h1, Dats.t s n h2⟩
theorem LD.over {H : Hp} {l m : Addr} {ds : List D} {o : HO} {ys : List V} (h : LD H l ds) (hm : H m = some (.lst ys)) (e : l ≠ m) : LD (upd H m o) l ds := h.t (tsame_upd hm) (upd_ne e)
theorem LD.sq {K : PySem.W.Frag} {H : Hp} {l : Addr} {ds : List D} (h : LD H l ds) : ∃ xs, SqL K H l xs := by
  obtain ⟨_, xs, h1, _⟩ := h
  exact ⟨xs, SqL.of h1⟩
theorem LD.tru0 {K : PySem.W.Frag} {H : Hp} {l : Addr} (h : LD H l []) : TruV K (.ref l) H false := by
  obtain ⟨_, xs, h1, h2⟩ := h
  have := h2.length
  cases xs with
  | nil => exact .inl ⟨[], SqL.of h1, rfl⟩
  | cons _ _ => simp at this
theorem LD.tru1 {K : PySem.W.Frag} {H : Hp} {l : Addr} {ds : List D} (h : LD H l ds) (hn : ds ≠ []) : TruV K (.ref l) H true := by
  obtain ⟨_, xs, h1, h2⟩ := h
  have := h2.length
  cases xs with
  | nil => cases ds with
    | nil => exact absurd rfl hn
    | cons _ _ => simp at this
  | cons x xs => exact .inl ⟨_, SqL.of h1, rfl⟩
theorem atI_last2 {α : Type} {xs : List α} {a b : α} : atI (xs ++ [a, b]) (-2) = some a := by
  unfold atI ixN
  rw [if_neg (by decide), if_pos (by simp; omega)]
  show (xs ++ [a, b])[((-2 : Int) + ((xs ++ [a, b]).length : Nat)).toNat]? = some a
  have : ((-2 : Int) + ((xs ++ [a, b]).length : Nat)).toNat = xs.length := by simp; omega
  rw [this]; simp
theorem atI_last1 {α : Type} {xs : List α} {a b : α} : atI (xs ++ [a, b]) (-1) = some b := by
  unfold atI ixN
  rw [if_neg (by decide), if_pos (by simp; omega)]
  show (xs ++ [a, b])[((-1 : Int) + ((xs ++ [a, b]).length : Nat)).toNat]? = some b
  have : ((-1 : Int) + ((xs ++ [a, b]).length : Nat)).toNat = xs.length + 1 := by simp; omega
  rw [this]; simp
theorem Dats.split {H : Hp} {ds es : List D} {xs : List V} (h : Dats H (ds ++ es) xs) : ∃ ys zs, xs = ys ++ zs ∧ Dats H ds ys ∧ Dats H es zs :=
  ⟨xs.take ds.length, xs.drop ds.length, (List.take_append_drop ..).symm, by simpa using Dats.take ds.length h, by simpa using Dats.drop ds.length h⟩
theorem last_or {α : Type} (st : List α) : st = [] ∨ ∃ st' e, st = st' ++ [e] := by
  rcases List.eq_nil_or_concat st with h | ⟨a, b, h⟩
  · exact .inl h
  · exact .inr ⟨a, b, by rw [h, List.concat_eq_append]⟩
/-- append -/
theorem LD.push {H : Hp} {l : Addr} {ds : List D} {d : D} {v : V} (h : LD H l ds) (hn : noL d = true) (hd : Dat H d v) (hl : ds.length ≤ 1000000) :
    ∃ xs, H l = some (.lst xs) ∧ xs.length < sizeLine ∧ LD (upd H l (.lst (xs ++ [v]))) l (ds ++ [d]) ∧ TSame H (upd H l (.lst (xs ++ [v]))) := by
  obtain ⟨n, xs, h1, h2⟩ := h
  have tS : TSame H (upd H l (.lst (xs ++ [v]))) := tsame_upd h1
  refine ⟨xs, h1, ?_, ⟨by rw [noLs_append]; simp [n, noLs, hn], _, upd_same, (Dats.t tS n h2).append (Dats.one (Dat.t tS hn hd))⟩, tS⟩
  have := h2.length
  exact Nat.lt_of_le_of_lt (by omega : xs.length ≤ 1000000) (by decide)
/-- pop -/
theorem LD.pop {H : Hp} {l : Addr} {ds : List D} {d : D} (h : LD H l (ds ++ [d])) :
    ∃ xs y, H l = some (.lst xs) ∧ xs[xs.length - 1]? = some y ∧ noL d = true ∧ Dat (upd H l (.lst xs.dropLast)) d y ∧ LD (upd H l (.lst xs.dropLast)) l ds ∧ TSame H (upd H l (.lst xs.dropLast)) := by
  obtain ⟨n, xs, h1, h2⟩ := h
  rw [noLs_append, Bool.and_eq_true] at n
  have nd : noL d = true := by simpa [noLs] using n.2
  have hxl : xs.length = ds.length + 1 := by rw [h2.length]; simp
  obtain ⟨y, hy, hdy⟩ := h2.get (i := ds.length) (d := d) (by simp)
  have tS : TSame H (upd H l (.lst xs.dropLast)) := tsame_upd h1
  have hdl : Dats H ds xs.dropLast := by
    have := Dats.take ds.length h2
    rw [List.dropLast_eq_take, hxl]
    simpa using this
  exact ⟨xs, y, h1, by rw [hxl]; exact hy, nd, Dat.t tS nd hdy, ⟨n.1, _, upd_same, Dats.t tS n.1 hdl⟩, tS⟩
theorem Dats.reverse {H : Hp} {ds : List D} {xs : List V} (h : Dats H ds xs) : Dats H ds.reverse xs.reverse := by
  refine Dats.of_get (by rw [List.length_reverse, List.length_reverse, h.length]) fun i d x e1 e2 => ?_
  have hl := h.length
  have hi : i < ds.length := by
    have := (List.getElem?_eq_some_iff.mp e1).1
    rwa [List.length_reverse] at this
  rw [List.getElem?_reverse hi] at e1
  rw [List.getElem?_reverse (by omega), hl] at e2
  obtain ⟨x', h1, h2⟩ := h.get e1
  rw [e2] at h1; cases h1; exact h2
/-! ### trees: leaves, and nodes that end with two others -/
inductive Tr where
  | lf (x : List D)
  | nd (x : List D) (l r : Tr)
namespace Tr
def d : Tr → D
  | .lf x => .tup x
  | .nd x l r => .tup (x ++ [l.d, r.d])
def size : Tr → Nat
  | .lf _ => 1
  | .nd _ l r => l.size + r.size + 1
def lvs : Tr → Nat
  | .lf _ => 1
  | .nd _ l r => l.lvs + r.lvs
def dp : Tr → Nat
  | .lf _ => 0
  | .nd _ l r => 1 + max l.dp r.dp
def post : Tr → List Tr
  | .lf x => [.lf x]
  | .nd x l r => l.post ++ r.post ++ [.nd x l r]
def pre : Tr → List Tr
  | .lf x => [.lf x]
  | .nd x l r => .nd x l r :: (r.pre ++ l.pre)
/-- the first word: at leaves lw, at nodes another one; no lists -/
def ok (lw : Str) : Tr → Prop
  | .lf x => x[0]? = some (.str lw) ∧ noLs x = true
  | .nd x l r => (∃ w, x[0]? = some (.str w) ∧ w ≠ lw) ∧ noLs x = true ∧ l.ok lw ∧ r.ok lw
theorem pre_rev : ∀ t : Tr, t.pre.reverse = t.post
  | .lf x => rfl
  | .nd x l r => by simp [pre, post, pre_rev l, pre_rev r]
theorem post_len : ∀ t : Tr, t.post.length = t.size
  | .lf x => rfl
  | .nd x l r => by simp [post, size, post_len l, post_len r]; omega
theorem pre_len (t : Tr) : t.pre.length = t.size := by rw [← post_len, ← pre_rev, List.length_reverse]
theorem size_pos : ∀ t : Tr, 1 ≤ t.size
  | .lf x => Nat.le_refl _
  | .nd x l r => by simp only [size]; omega
theorem ok.noL {lw : Str} : ∀ {t : Tr}, t.ok lw → noL t.d = true
  | .lf x, h => by simp only [d, L2.noL]; exact h.2
  | .nd x l r, h => by
    obtain ⟨_, h1, h2, h3⟩ := h
    simp only [d, L2.noL, noLs_append, Bool.and_eq_true]
    exact ⟨h1, by simp [noLs, ok.noL h2, ok.noL h3]⟩
theorem ok.post {lw : Str} : ∀ {t : Tr}, t.ok lw → ∀ u ∈ t.post, u.ok lw
  | .lf x, h, u, hu => by simp only [Tr.post, List.mem_singleton] at hu; subst hu; exact h
  | .nd x l r, h, u, hu => by
    simp only [Tr.post, List.mem_append, List.mem_singleton] at hu
    rcases hu with (hu | hu) | hu
    · exact ok.post h.2.2.1 u hu
    · exact ok.post h.2.2.2 u hu
    · subst hu; exact h
theorem ok.noLs {lw : Str} {ts : List Tr} (h : ∀ t ∈ ts, t.ok lw) : noLs (ts.map d) = true := noLs_all fun e he => by
  obtain ⟨t, ht, rfl⟩ := List.mem_map.mp he
  exact (h t ht).noL
/-- a row of parts, worked off from a pile, leaves s alone -/
def chk (s : Tr) : List Tr → List Tr → Prop
  | [], st => st = [s]
  | .lf x :: r, st => chk s r (st ++ [.lf x])
  | .nd x a b :: r, st => ∃ st', st = st' ++ [a, b] ∧ chk s r (st' ++ [.nd x a b])
theorem chk_post (s : Tr) : ∀ (t : Tr) (r st : List Tr), chk s r (st ++ [t]) → chk s (t.post ++ r) st
  | .lf x, r, st, h => h
  | .nd x a b, r, st, h => by
    simp only [post, List.append_assoc]
    refine chk_post s a _ st (chk_post s b _ _ ?_)
    refine ⟨st, by simp, h⟩
theorem chk_all (s : Tr) : chk s s.post [] := by
  have := chk_post s s [] [] rfl
  simpa using this
end Tr
/-! ### bits -/
theorem bitAnd_nat (x y : Nat) : Builtin.bitAnd (x : Int) (y : Int) = ((x &&& y : Nat) : Int) := by
  unfold Builtin.bitAnd
  rw [decide_eq_true (by omega : (0 : Int) ≤ x), decide_eq_true (by omega : (0 : Int) ≤ y)]
  simp
theorem bitOr_nat (x y : Nat) : Builtin.bitOr (x : Int) (y : Int) = ((x ||| y : Nat) : Int) := by
  unfold Builtin.bitOr Builtin.bitAnd
  have h1 : ∀ z : Nat, decide ((0 : Int) ≤ Builtin.bitNot (z : Int)) = false := fun z => by
    apply decide_eq_false; unfold Builtin.bitNot; omega
  have h2 : ∀ z : Int, Builtin.bitNot (Builtin.bitNot z) = z := fun z => by unfold Builtin.bitNot; omega
  rw [h1, h1]
  simp only [h2, Int.toNat_natCast]
theorem bit_at (m n : Nat) : Builtin.bitAnd ((m : Int) / 2 ^ n) 1 = if m.testBit n then 1 else 0 := by
  have e : ((m : Int) / 2 ^ n) = ((m / 2 ^ n : Nat) : Int) := by push_cast; rfl
  rw [e, show (1 : Int) = ((1 : Nat) : Int) from rfl, bitAnd_nat, Nat.and_one_is_mod, Nat.testBit_eq_decide_div_mod_eq]
  rcases Nat.mod_two_eq_zero_or_one (m / 2 ^ n) with h | h <;> simp [h]
end L2

set_option Elab.async false
set_option linter.all false
set_option autoImplicit false
set_option maxRecDepth 100000
set_option maxHeartbeats 1000000
namespace L2
open PySem PySem.Spec PyProof.Rows
theorem Keep.t {p : Addr} {H H' : Hp} {zs : List V} (k : Keep p H H') (hp : H p = some (.lst zs)) : TSame H H' := fun b xs h => k b _ (ne_of h hp (by intro z; cases z)) h
theorem LD.keep {H H' : Hp} {l p : Addr} {ds : List D} {zs : List V} (h : LD H l ds) (k : Keep p H H') (hp : H p = some (.lst zs)) (ne : l ≠ p) : LD H' l ds := by
  obtain ⟨n, xs, h1, h2⟩ := h
  exact ⟨n, xs, k _ _ ne h1, Dats.t (k.t hp) n h2⟩
theorem LD.get {H : Hp} {l : Addr} {ds : List D} {i : Nat} {d : D} (h : LD H l ds) (e : ds[i]? = some d) : ∃ xs x, H l = some (.lst xs) ∧ xs[i]? = some x ∧ xs.length = ds.length ∧ noL d = true ∧ Dat H d x := by
  obtain ⟨n, xs, h1, h2⟩ := h
  obtain ⟨x, hx, hd⟩ := h2.get e
  refine ⟨xs, x, h1, hx, h2.length, ?_, hd⟩
  have m := List.mem_of_getElem? e
  clear h2 hx e
  induction ds with
  | nil => cases m
  | cons a ds ih =>
    simp only [noLs, Bool.and_eq_true] at n
    rcases List.mem_cons.mp m with rfl | m
    · exact n.1
    · exact ih n.2 m
theorem LD.len {K : PySem.W.Frag} {H : Hp} {l : Addr} {ds : List D} (h : LD H l ds) : LenV K (.ref l) H ds.length := by
  obtain ⟨n, xs, h1, h2⟩ := h
  rw [← h2.length]
  exact len_lst (SqL.of h1)
theorem LD.ne {H : Hp} {l p : Addr} {ds : List D} (h : LD H l ds) (hp : H p = none) : l ≠ p := by
  obtain ⟨_, xs, h1, _⟩ := h
  rintro rfl
  rw [h1] at hp; cases hp
section
variable {K : PySem.W.Frag} {a p : Addr} {ds : List D} {zs : List V} {g : TG} {tb : TS} {Dn : Ends} {σ : St} {H : Hp}
/-- a loop over a list that stays, while another one, p, is changed -/
theorem forW_LD (hL : LD H a ds) (hp : H p = some (.lst zs)) (nap : a ≠ p) (Pv : Nat → St → Hp → Prop) (h0 : Pv 0 σ H) (hk : ∀ i σ H', Pv i σ H' → Keep p H H')
    (hs : ∀ i x d σ H', ds[i]? = some d → noL d = true → Dat H' d x → Keep p H H' → Pv i σ H' → g x σ H' fun σ2 H2 => tb { Dn with nx := Pv (i + 1), ct := Pv (i + 1), bk := Dn.nx } σ2 H2)
    (hd : ∀ σ H', Pv ds.length σ H' → Dn.nx σ H') : forW (Itl K a) g tb Dn σ H := by
  obtain ⟨n, xs, h1, h2⟩ := hL
  have hl := h2.length
  refine forW_list (xs := xs) Pv h0 (fun i σ H' _ h => SqL.of ((hk i σ H' h) _ _ nap h1)) (fun i x σ H' hx h => ?_) (fun σ H' h => hd σ H' (by rw [← hl]; exact h))
  have kk := hk i σ H' h
  have hi : i < ds.length := by rw [← hl]; exact (List.getElem?_eq_some_iff.mp hx).1
  have l' : LD H' a ds := LD.keep ⟨n, xs, h1, h2⟩ kk hp nap
  obtain ⟨xs', x', e1, e2, e3, e4, e5⟩ := l'.get (List.getElem?_eq_getElem hi)
  have : xs' = xs := by
    have := kk _ _ nap h1
    rw [e1] at this
    injection this with this
    injection this
  subst this
  rw [hx] at e2
  cases e2
  exact hs i x _ σ H' (List.getElem?_eq_getElem hi) e4 e5 kk h
end
section
variable {K : PySem.W.Frag} {a acc : Addr} {ds : List D} {g : TG} {tc : TT} {l : TL} {σ : St} {H : Hp} {R : St → Hp → Prop} {zs : List V}
/-- a comprehension over a list that stays, while its own one, acc, is filled -/
theorem cloop_LD (hL : LD H a ds) (hp : H acc = some (.lst zs)) (nap : a ≠ acc) (Pv : Nat → St → Hp → Prop) (h0 : Pv 0 σ H) (hk : ∀ i σ H', Pv i σ H' → Keep acc H H')
    (hs : ∀ i x d σ H', ds[i]? = some d → noL d = true → Dat H' d x → Keep acc H H' → Pv i σ H' → g x σ H' fun σ2 H2 => tc σ2 H2 fun b H3 => if b = true then l acc σ2 H3 (Pv (i + 1)) else Pv (i + 1) σ2 H3)
    (hd : ∀ σ H', Pv ds.length σ H' → R σ H') : lLoop (Itl K a) g tc l acc σ H R := by
  obtain ⟨n, xs, h1, h2⟩ := hL
  have hl := h2.length
  refine cloop_list (xs := xs) Pv h0 (fun i σ H' _ h => SqL.of ((hk i σ H' h) _ _ nap h1)) (fun i x σ H' hx h => ?_) (fun σ H' h => hd σ H' (by rw [← hl]; exact h))
  have kk := hk i σ H' h
  have hi : i < ds.length := by rw [← hl]; exact (List.getElem?_eq_some_iff.mp hx).1
  have l' : LD H' a ds := LD.keep ⟨n, xs, h1, h2⟩ kk hp nap
  obtain ⟨xs', x', e1, e2, e3, e4, e5⟩ := l'.get (List.getElem?_eq_getElem hi)
  have : xs' = xs := by
    have := kk _ _ nap h1
    rw [e1] at this
    injection this with this
    injection this
  subst this
  rw [hx] at e2
  cases e2
  exact hs i x _ σ H' (List.getElem?_eq_getElem hi) e4 e5 kk h
end
/-- extend by a list's things -/
theorem LD.ext {H : Hp} {l : Addr} {ds es : List D} {zs : List V} (h : LD H l ds) (hn : noLs es = true) (hd : Dats H es zs) (hl : ds.length + es.length ≤ 1000000) :
    ∃ xs, H l = some (.lst xs) ∧ xs.length + zs.length ≤ sizeLine ∧ LD (upd H l (.lst (xs ++ zs))) l (ds ++ es) := by
  obtain ⟨n, xs, h1, h2⟩ := h
  have tS : TSame H (upd H l (.lst (xs ++ zs))) := tsame_upd h1
  refine ⟨xs, h1, ?_, by rw [noLs_append, n, hn]; rfl, _, upd_same, (Dats.t tS n h2).append (Dats.t tS hn hd)⟩
  have := h2.length
  have := hd.length
  exact Nat.le_trans (by omega : xs.length + zs.length ≤ 1000000) (by decide)
end L2

set_option Elab.async false
set_option linter.all false
set_option autoImplicit false
set_option maxRecDepth 100000
set_option maxHeartbeats 1000000
namespace L2
open PySem PySem.Spec PyProof.Rows
section
variable {X : Cx}
theorem op_notB : OpR X (compareOp .IsNot) (fun x y H Q => ∃ c d, x = .bl c ∧ y = .bl d ∧ Q (.bl (c != d)) H) := by
  intro pins s σ H x y v u Q I rx ry h
  obtain ⟨c, d, rfl, rfl, q⟩ := h
  cases rx
  cases ry
  exact isnot_bool (fin_bl I q rfl)
theorem vals_int_get : ∀ {ns : List Int} {its : List Value}, Vals (ns.map V.int) its → ∀ (i : Nat) (v : Value), its[i]? = some v → ∃ t, v = .int (ns.getD i 0) t
  | [], _, .nil, i, v, h => by simp at h
  | n :: ns, _, .cons r t, 0, v, h => by
    simp at h
    subst h
    obtain ⟨t', e⟩ := r
    exact ⟨t', by rw [e]; rfl⟩
  | n :: ns, _, .cons r t, i + 1, v, h => by
    obtain ⟨t', e⟩ := vals_int_get t i v (by simpa using h)
    exact ⟨t', by rw [e]; rfl⟩
theorem preSum_eq (ns : List Int) : ∀ j, j ≤ ns.length → preSum (fun i => ns.getD i 0) j = (ns.take j).sum
  | 0, _ => by simp [preSum]
  | j + 1, h => by
    have hj : j < ns.length := by omega
    have e : ns.getD j 0 = ns[j] := by
      rw [List.getD_eq_getElem?_getD, List.getElem?_eq_getElem hj]; rfl
    rw [preSum, preSum_eq ns j (by omega), e, List.take_succ, List.getElem?_eq_getElem hj, List.sum_append]
    simp
/-- sum of a list of ints -/
theorem call_sum (hc : X.calm = true) : CallR X (.builtin "sum") (fun xs H Q => ∃ (a : Addr) (ns : List Int), xs = [.ref a] ∧ SqL X.K H a (ns.map V.int) ∧ Q (.int ns.sum) H) := by
  intro pins s σ H xs us Q I r h
  obtain ⟨a, ns, rfl, hq, q⟩ := h
  obtain ⟨u, rfl, rx⟩ := vals1 r
  cases rx
  obtain ⟨its, rv, p, hz⟩ := I.list hq
  have hlt : a < s.heap.objs.size := by
    obtain ⟨o, ho, _⟩ := p.isList
    exact Heap.lt_size ho
  have hlen : its.length = ns.length := by rw [← rv.length, List.length_map]
  refine call_sum_walkG (wpAny_pyIter_list p.isList ?_)
  refine ⟨s.heap.objs.size, _, _, _, _, _, fun i => ns.getD i 0, rfl, Walks.list (A := X.A.in1) (I.ok.hd hc) _ a (Nat.ne_of_lt hlt) _, ⟨⟨_, Heap.get?_push_size _ rfl, rfl, rfl⟩, p.isList.push _⟩, ?_, ?_, fun h' tk t' hk => ?_⟩
  · intro b hb
    show b < (s.heap.push _).objs.size
    rw [Heap.size_push]
    simp only [List.mem_cons, List.not_mem_nil, or_false] at hb
    rcases hb with e | e
    · rw [e]; exact Nat.lt_succ_self _
    · rw [e]; exact Nat.lt_succ_of_lt hlt
  · intro i v hP
    exact vals_int_get rv i v (by simpa using hP)
  · refine ⟨.int ns.sum, H, I.kept (t' := tk) fun b o e => hk b o (fun hm => ?_) (Heap.get?_push_of_some _ e), ⟨t', ?_⟩, q⟩
    · have : b = s.heap.objs.size := by simpa using hm
      exact absurd (this ▸ Heap.lt_size e) (Nat.lt_irrefl _)
    · rw [List.size_toArray, hlen, preSum_eq ns _ (Nat.le_refl _), List.take_length]
/-- t[lo:hi], the whole of it or not -/
def rSlTA (K : PySem.W.Frag) : V → Option Int → Option Int → Hp → VK → Prop := fun x lo hi H Q => ∃ a xs, x = .ref a ∧ SqT K H a xs ∧
  if HT.sIx xs.length 0 lo = 0 ∧ HT.sIx xs.length xs.length hi = xs.length then Q (.ref a) H else ∀ p, H p = none → Q (.ref p) (upd H p (.tup (cutV xs lo hi)))
end
end L2

set_option Elab.async false
set_option linter.all false
set_option autoImplicit false
set_option maxRecDepth 100000
set_option maxHeartbeats 1000000
namespace L2
open PySem PySem.Spec PyProof.Rows
theorem noLs_get {ds : List D} {i : Nat} {d : D} (n : noLs ds = true) (e : ds[i]? = some d) : noL d = true := by
  have m := List.mem_of_getElem? e
  clear e
  induction ds with
  | nil => cases m
  | cons a ds ih =>
    simp only [noLs, Bool.and_eq_true] at n
    rcases List.mem_cons.mp m with rfl | m
    · exact n.1
    · exact ih n.2 m
section
variable {K : PySem.W.Frag} {a : Addr} {ds : List D} {xs : List V} {g : TG} {tb : TS} {Dn : Ends} {σ : St} {H : Hp}
/-- a loop over a tuple of data without lists, while all tuples stay -/
theorem forW_TD (ha : H a = some (.tup xs)) (hd : Dats H ds xs) (hn : noLs ds = true) (Pv : Nat → St → Hp → Prop) (h0 : Pv 0 σ H) (hk : ∀ i σ H', Pv i σ H' → TSame H H')
    (hs : ∀ i x d σ H', ds[i]? = some d → noL d = true → Dat H' d x → TSame H H' → Pv i σ H' → g x σ H' fun σ2 H2 => tb { Dn with nx := Pv (i + 1), ct := Pv (i + 1), bk := Dn.nx } σ2 H2)
    (he : ∀ σ H', Pv ds.length σ H' → Dn.nx σ H') : forW (Itt K a) g tb Dn σ H := by
  have hl := hd.length
  refine forW_tup (xs := xs) Pv h0 (fun i σ H' _ h => SqT.of ((hk i σ H' h) _ _ ha)) (fun i x σ H' hx h => ?_) (fun σ H' h => he σ H' (by rw [← hl]; exact h))
  have kk := hk i σ H' h
  have hi : i < ds.length := by rw [← hl]; exact (List.getElem?_eq_some_iff.mp hx).1
  obtain ⟨x', e1, e2⟩ := hd.get (List.getElem?_eq_getElem hi)
  rw [hx] at e1
  cases e1
  have nn := noLs_get hn (List.getElem?_eq_getElem hi)
  exact hs i x _ σ H' (List.getElem?_eq_getElem hi) nn (Dat.t kk nn e2) kk h
end
section
variable {K : PySem.W.Frag} {a acc : Addr} {ds : List D} {xs : List V} {g : TG} {tc : TT} {l : TL} {σ : St} {H : Hp} {R : St → Hp → Prop}
theorem cloop_TD (ha : H a = some (.tup xs)) (hd : Dats H ds xs) (hn : noLs ds = true) (Pv : Nat → St → Hp → Prop) (h0 : Pv 0 σ H) (hk : ∀ i σ H', Pv i σ H' → TSame H H')
    (hs : ∀ i x d σ H', ds[i]? = some d → noL d = true → Dat H' d x → TSame H H' → Pv i σ H' → g x σ H' fun σ2 H2 => tc σ2 H2 fun b H3 => if b = true then l acc σ2 H3 (Pv (i + 1)) else Pv (i + 1) σ2 H3)
    (he : ∀ σ H', Pv ds.length σ H' → R σ H') : lLoop (Itt K a) g tc l acc σ H R := by
  have hl := hd.length
  refine cloop_tup (xs := xs) Pv h0 (fun i σ H' _ h => SqT.of ((hk i σ H' h) _ _ ha)) (fun i x σ H' hx h => ?_) (fun σ H' h => he σ H' (by rw [← hl]; exact h))
  have kk := hk i σ H' h
  have hi : i < ds.length := by rw [← hl]; exact (List.getElem?_eq_some_iff.mp hx).1
  obtain ⟨x', e1, e2⟩ := hd.get (List.getElem?_eq_getElem hi)
  rw [hx] at e1
  cases e1
  have nn := noLs_get hn (List.getElem?_eq_getElem hi)
  exact hs i x _ σ H' (List.getElem?_eq_getElem hi) nn (Dat.t kk nn e2) kk h
end
section
variable {X : Cx}
/-- a list against an empty one: == -/
theorem op_eqNil (hu : X.A.units + 100 < cLine) : OpR X (compareOp .Eq) (fun x y H Q => ∃ a b xs, x = .ref a ∧ y = .ref b ∧ SqL X.K H a xs ∧ SqL X.K H b [] ∧ Q (.bl xs.isEmpty) H) := by
  intro pins s σ H x y v u Q I rx ry h
  obtain ⟨a, b, xs, rfl, rfl, ha, hb, q⟩ := h
  cases rx
  cases ry
  obtain ⟨its, r1, p1, _⟩ := I.list ha
  obtain ⟨its2, r2, p2, _⟩ := I.list hb
  cases r2
  have hu' : X.A.units < cLine := by omega
  cases xs with
  | nil =>
    cases r1
    have := SeqAt.RcAt.lists (e := fun _ => true) p1.isList p2.isList rfl hu' (fun j h1 _ => absurd h1 (by simp))
    exact this X.prog X.w _ _ ⟨.bl _, H, I, rfl, q⟩
  | cons x xs =>
    have hne : (its.toArray.size != ([] : List Value).toArray.size) = true := by
      have := r1.length
      rw [List.size_toArray, ← this]
      simp
    exact SeqAt.RcAt.lists_lengths p1.isList p2.isList hne hu' X.prog X.w _ _ ⟨.bl _, H, I, rfl, q⟩
end
/-- a word, a case, as data -/
def wdD (w : List Int) : D := .tup (w.map D.int)
def csD (pl : Nat) (ys ns : List (List Int)) : D := .tup [.int pl, .tup (ys.map wdD), .tup (ns.map wdD)]
theorem noL_wd (w : List Int) : noL (wdD w) = true := by simp only [wdD, noL]; exact noLs_ints w
theorem noLs_wds (ws : List (List Int)) : noLs (ws.map wdD) = true := noLs_all fun d hd => by
  obtain ⟨w, _, rfl⟩ := List.mem_map.mp hd
  exact noL_wd w
theorem Dat.cs {H : Hp} {pl : Nat} {ys ns : List (List Int)} {v : V} (h : Dat H (csD pl ys ns) v) : ∃ a ya na yv nv, v = .ref a ∧ H a = some (.tup [.int pl, .ref ya, .ref na]) ∧ H ya = some (.tup yv) ∧ Dats H (ys.map wdD) yv ∧ H na = some (.tup nv) ∧ Dats H (ns.map wdD) nv := by
  simp only [csD, Dat, Dats] at h
  obtain ⟨a, _, rfl, ha, _, _, rfl, rfl, _, _, rfl, ⟨ya, yv, rfl, hya, hyd⟩, _, _, rfl, ⟨na, nv, rfl, hna, hnd⟩, rfl⟩ := h
  exact ⟨a, ya, na, yv, nv, rfl, ha, hya, hyd, hna, hnd⟩
theorem Dat.mkcs {H : Hp} {pl : Nat} {ys ns : List (List Int)} {a ya na : Addr} {yv nv : List V} (ha : H a = some (.tup [.int pl, .ref ya, .ref na])) (hya : H ya = some (.tup yv)) (hyd : Dats H (ys.map wdD) yv) (hna : H na = some (.tup nv)) (hnd : Dats H (ns.map wdD) nv) : Dat H (csD pl ys ns) (.ref a) := by
  simp only [csD, Dat, Dats]
  exact ⟨a, _, rfl, ha, _, _, rfl, rfl, _, _, rfl, ⟨ya, yv, rfl, hya, hyd⟩, _, _, rfl, ⟨na, nv, rfl, hna, hnd⟩, rfl⟩
end L2

set_option Elab.async false
set_option linter.all false
set_option autoImplicit false
set_option maxRecDepth 100000
set_option maxHeartbeats 1000000
namespace L2
open PySem PySem.Spec PyProof.Rows
theorem Dats.erase {H : Hp} : ∀ {ds : List D} {xs : List V} (k : Nat), Dats H ds xs → Dats H (ds.eraseIdx k) (xs.eraseIdx k)
  | [], xs, k, h => by simp only [Dats] at h; subst h; simp [Dats]
  | d :: ds, xs, k, h => by
    simp only [Dats] at h
    obtain ⟨x, r, rfl, h1, h2⟩ := h
    cases k with
    | zero => exact h2
    | succ k =>
      simp only [List.eraseIdx_cons_succ, Dats]
      exact ⟨x, _, rfl, h1, Dats.erase k h2⟩
theorem noLs_erase {ds : List D} (k : Nat) (h : noLs ds = true) : noLs (ds.eraseIdx k) = true := noLs_all fun d hd => by
  have := List.mem_of_mem_eraseIdx hd
  obtain ⟨i, hi⟩ := List.getElem?_of_mem this
  exact noLs_get h hi
/-- pop at a place -/
theorem LD.popAt {H : Hp} {l : Addr} {ds : List D} {k : Nat} {d : D} (h : LD H l ds) (e : ds[k]? = some d) :
    ∃ xs y, H l = some (.lst xs) ∧ xs.length = ds.length ∧ xs[k]? = some y ∧ noL d = true ∧ Dat (upd H l (.lst (xs.eraseIdx k))) d y ∧ LD (upd H l (.lst (xs.eraseIdx k))) l (ds.eraseIdx k) ∧ TSame H (upd H l (.lst (xs.eraseIdx k))) := by
  obtain ⟨xs, y, h1, h2, h3, h4, h5⟩ := h.get e
  obtain ⟨n, xs', h1', hd⟩ := h
  rw [h1] at h1'
  cases h1'
  have tS : TSame H (upd H l (.lst (xs.eraseIdx k))) := tsame_upd h1
  exact ⟨xs, y, h1, h3, h2, h4, Dat.t tS h4 h5, ⟨noLs_erase k n, _, upd_same, Dats.t tS (noLs_erase k n) (hd.erase k)⟩, tS⟩
theorem seqIx {i n : Nat} (h : i < n) : seqIndex? (i : Int) n = some i := by
  have := (ixN_seq (n := n) (i := (i : Int)) (j := i) (by unfold ixN; rw [if_pos (by omega), if_pos (by omega)]; simp)).1
  exact this
/-! ### a list of lists of data -/
structure SN (n : Nat) (H : Hp) (S : Addr) (ad : Nat → Addr) (fs : Nat → List D) : Prop where
  s : H S = some (.lst ((List.range n).map fun i => .ref (ad i)))
  l : ∀ i, i < n → LD H (ad i) (fs i)
theorem SN.at {n : Nat} {ad : Nat → Addr} {k : Nat} (h : k < n) : atI ((List.range n).map fun i => V.ref (ad i)) (k : Int) = some (.ref (ad k)) := atI_nat (by rw [List.getElem?_map, List.getElem?_range h]; rfl)
theorem SN.same {n : Nat} {H H' : Hp} {S : Addr} {ad : Nat → Addr} {fs : Nat → List D} (h : SN n H S ad fs) (s : Same H H') : SN n H' S ad fs := ⟨s _ _ h.s, fun i hi => (h.l i hi).same s⟩
theorem SN.keep {n : Nat} {H H' : Hp} {S p : Addr} {ad : Nat → Addr} {fs : Nat → List D} (h : SN n H S ad fs) (k : Keep p H H') (t : TSame H H') (hS : S ≠ p) (ha : ∀ i, i < n → ad i ≠ p) : SN n H' S ad fs :=
  ⟨k _ _ hS h.s, fun i hi => by
    obtain ⟨m, xs, h1, h2⟩ := h.l i hi
    exact ⟨m, xs, k _ _ (ha i hi) h1, Dats.t t m h2⟩⟩
/-- one of the lists is changed -/
theorem SN.upd {n : Nat} {H : Hp} {S : Addr} {ad : Nat → Addr} {fs : Nat → List D} {k : Nat} {o : HO} {ds : List D} (h : SN n H S ad fs) (hk : k < n) (hl : LD (upd H (ad k) o) (ad k) ds) (hS : ∀ i, i < n → ad i ≠ S) (hi : ∀ i j, i < n → j < n → ad i = ad j → i = j) :
    SN n (upd H (ad k) o) S ad (fun i => if i = k then ds else fs i) := by
  refine ⟨by rw [upd_ne (hS k hk).symm]; exact h.s, fun i hin => ?_⟩
  by_cases e : i = k
  · subst e; rw [if_pos rfl]; exact hl
  · rw [if_neg e]
    obtain ⟨_, xs, h1, _⟩ := h.l k hk
    exact (h.l i hin).over h1 (fun z => e (hi i k hin hk z))
end L2

set_option Elab.async false
set_option linter.all false
set_option autoImplicit false
set_option maxRecDepth 100000
set_option maxHeartbeats 1000000
namespace L2
open PySem PySem.Spec PyProof.Rows
/-! ### a dict of a module, never changed: texts to values -/
def StE (w : World) (e : DictEntry) (p : Str × V) : Prop := e.hash = PyData.keyHash w.params p.1 ∧ (∃ t, e.key = .str p.1 t) ∧ RelV p.2 e.val
def StD (w : World) (K : PySem.W.Frag) (a : Addr) (kvs : List (Str × V)) : Prop := ∃ (o : Obj) (es : List DictEntry) (ep : Nat), K.lookup a = some o ∧ o.ExactDict ∧ o.data = .dict es.toArray ep ∧ Paired (StE w) es kvs
def valS (kvs : List (Str × V)) (x : Str) : Option V := (kvs.find? fun p => decide (p.1 = x)).map (·.2)
theorem StE.keys {P : Program} {w : World} : ∀ {es : List DictEntry} {kvs : List (Str × V)}, Paired (StE w) es kvs → ∀ e ∈ es, ∃ k, (mixKind P w).is k e.key = true ∧ e.hash = (mixKind P w).hash k
  | _, _, .nil, e, h => by cases h
  | _, _, .cons (a := e0) (b := p) r t, e, h => by
    rcases List.mem_cons.mp h with rfl | h
    · obtain ⟨h1, ⟨tk, h2⟩, _⟩ := r
      exact ⟨Sum.inr p.1, by rw [h2]; exact mixKind_str _ _ _ _, h1⟩
    · exact StE.keys t e h
section
variable {X : Cx} {o i : Expr} {ty : TE} {pos : Pos} {a : Addr} {kvs : List (Str × V)}
/-- what a module's dict has for a text -/
def tSGet (kvs : List (Str × V)) (td ty : TE) : TE := fun σ H Q => td σ H fun _ H0 => ty σ H0 fun y H1 => ∃ x v, y = .str x ∧ valS kvs x = some v ∧ Q v H1
end
end L2

set_option Elab.async false
set_option linter.all false
set_option autoImplicit false
set_option maxRecDepth 100000
set_option maxHeartbeats 1000000
namespace L2
open PySem PySem.Spec PyProof.Rows
/-! ### x in a list or a tuple of deep data -/
open Classical in
noncomputable def eqF (H : Hp) (dx : D) (u : Value) : Bool := if h : ∃ d, ∃ x, RelV x u ∧ Dat H d x then eqD (Classical.choose h) dx else false
def inD (dx : D) (ds : List D) : Bool := ds.any fun d => eqD d dx
def rInD (neg : Bool) : R2 := fun x y H Q => ∃ dx ds, Dat H dx x ∧ (Dat H (.lst ds) y ∨ Dat H (.tup ds) y) ∧ deps ds ≤ 90 ∧ Q (.bl (if neg then !inD dx ds else inD dx ds)) H
section
variable {X : Cx}
end
end L2

set_option Elab.async false
set_option linter.all false
set_option autoImplicit false
set_option maxRecDepth 100000
set_option maxHeartbeats 1000000
namespace L2
open PySem PySem.Spec PyProof.Rows
/-! ### repr of deep data -/
mutual
def pyD : D → PyData
  | .non => .none
  | .bl b => .bool b
  | .int i => .int i
  | .str x => .str x
  | .tup ds => .tuple (pyDs ds)
  | .lst ds => .list (pyDs ds)
def pyDs : List D → List PyData
  | [] => []
  | d :: ds => pyD d :: pyDs ds
end
def repD (d : D) : Str := (pyD d).shown
section
variable {X : Cx} {pins : List (Addr × Obj)} {σ : St} {H : Hp} {s : Shared}
mutual
theorem reads_of (I : Inv X pins σ H s) : ∀ {d : D} {v : V} {u : Value}, Dat H d v → RelV v u → ∃ as, Reads s.heap u (pyD d) as
  | .non, v, u, h, r => by
    simp only [Dat] at h; subst h; cases r
    exact ⟨_, .none⟩
  | .bl b, v, u, h, r => by
    simp only [Dat] at h; subst h; cases r
    exact ⟨_, .bool b⟩
  | .int i, v, u, h, r => by
    simp only [Dat] at h; subst h
    obtain ⟨t, rfl⟩ := r
    exact ⟨_, .int i t⟩
  | .str x, v, u, h, r => by
    simp only [Dat] at h; subst h
    obtain ⟨t, rfl⟩ := r
    exact ⟨_, .str x t⟩
  | .tup ds, v, u, h, r => by
    simp only [Dat] at h
    obtain ⟨a, xs, rfl, ha, hd⟩ := h
    cases r
    obtain ⟨its, rv, ⟨o, h1, h2, n, h3⟩, _⟩ := I.tuple (SqT.of ha)
    obtain ⟨as, hr⟩ := readsAll_of I hd rv
    exact ⟨_, .tuple h1 h2 h3 (by simpa using hr)⟩
  | .lst ds, v, u, h, r => by
    simp only [Dat] at h
    obtain ⟨a, xs, rfl, ha, hd⟩ := h
    cases r
    obtain ⟨its, rv, ⟨o, n, h1, h2, h3, h4⟩, _⟩ := I.list (SqL.of ha)
    obtain ⟨as, hr⟩ := readsAll_of I hd rv
    exact ⟨_, .list h1 h2 h4 (by simpa using hr)⟩
theorem readsAll_of (I : Inv X pins σ H s) : ∀ {ds : List D} {xs : List V} {us : List Value}, Dats H ds xs → Vals xs us → ∃ as, ReadsAll s.heap us (pyDs ds) as
  | [], xs, us, h, r => by
    simp only [Dats] at h; subst h; cases r
    exact ⟨_, .nil⟩
  | d :: ds, xs, us, h, r => by
    simp only [Dats] at h
    obtain ⟨x, xr, rfl, h1, h2⟩ := h
    cases r with
    | cons r1 r2 =>
      obtain ⟨as, a1⟩ := reads_of I h1 r1
      obtain ⟨bs, b1⟩ := readsAll_of I h2 r2
      exact ⟨_, .cons a1 b1⟩
end
end
/-! how long the text may be -/
mutual
def wt : D → Nat
  | .non => 4
  | .bl _ => 5
  | .int i => i.natAbs.log2 + 3
  | .str x => (reprText x).length
  | .tup ds => wts ds + 3
  | .lst ds => wts ds + 2
def wts : List D → Nat
  | [] => 0
  | d :: ds => wt d + 2 + wts ds
end
mutual
def fit : D → Bool
  | .int i => decide (i.natAbs.log2 < 1920)
  | .tup ds => fits ds
  | .lst ds => fits ds
  | _ => true
def fits : List D → Bool
  | [] => true
  | d :: ds => fit d && fits ds
end
mutual
theorem fit_show : ∀ {d : D}, fit d = true → (pyD d).showable = true
  | .non, h => rfl
  | .bl b, h => rfl
  | .int i, h => h
  | .str x, h => rfl
  | .tup ds, h => fits_show (ds := ds) (by simpa only [fit] using h)
  | .lst ds, h => fits_show (ds := ds) (by simpa only [fit] using h)
theorem fits_show : ∀ {ds : List D}, fits ds = true → PyData.showableAll (pyDs ds) = true
  | [], h => rfl
  | d :: ds, h => by
    simp only [fits, Bool.and_eq_true] at h
    simp only [pyDs, PyData.showableAll, Bool.and_eq_true]
    exact ⟨fit_show h.1, fits_show h.2⟩
end
mutual
theorem no_dict : ∀ (d : D), (pyD d).hasDict = false
  | .non => rfl
  | .bl b => rfl
  | .int i => rfl
  | .str x => rfl
  | .tup ds => no_dicts ds
  | .lst ds => no_dicts ds
theorem no_dicts : ∀ (ds : List D), PyData.hasDictAll (pyDs ds) = false
  | [] => rfl
  | d :: ds => by simp only [pyDs, PyData.hasDictAll, no_dict d, no_dicts ds, Bool.or_self]
end
mutual
theorem dep_py : ∀ (d : D), (pyD d).depth = dep d
  | .non => by simp [pyD, PyData.depth, dep]
  | .bl b => by simp [pyD, PyData.depth, dep]
  | .int i => by simp [pyD, PyData.depth, dep]
  | .str x => by simp [pyD, PyData.depth, dep]
  | .tup ds => by simp only [pyD, PyData.depth, dep, deps_py ds]
  | .lst ds => by simp only [pyD, PyData.depth, dep, deps_py ds]
theorem deps_py : ∀ (ds : List D), PyData.depthAll (pyDs ds) = deps ds
  | [] => by simp [pyDs, PyData.depthAll, deps]
  | d :: ds => by simp only [pyDs, PyData.depthAll, deps, dep_py d, deps_py ds]
end
theorem textFrom_le : ∀ (ts : List Str) (k : Nat) (acc : Str), (textFrom k acc ts).length ≤ acc.length + (ts.map fun t => t.length + 2).sum
  | [], k, acc => by simp [textFrom]
  | t :: ts, k, acc => by
    have ih := textFrom_le ts (k + 1) (acc ++ (if k > 0 then ", " else "" : String) ++ t)
    have e : (acc ++ (if k > 0 then ", " else "" : String) ++ t).length ≤ acc.length + 2 + t.length := by
      rw [strLen_append, strLen_append]
      have : (((if k > 0 then ", " else "" : String) : Str)).length ≤ 2 := by split <;> decide
      omega
    simp only [textFrom, List.map_cons, List.sum_cons]
    omega
theorem joinS_le : ∀ ts : List Str, (Str.join ", " ts).length ≤ (ts.map fun t => t.length + 2).sum
  | [] => by simp [Str.join]; decide
  | [x] => by
    show x.length ≤ _
    simp
  | x :: y :: r => by
    have ih := joinS_le (y :: r)
    show (x ++ ", " ++ Str.join ", " (y :: r)).length ≤ _
    rw [strLen_append, strLen_append]
    have e2 : ((", " : String) : Str).length = 2 := rfl
    simp only [List.map_cons, List.sum_cons] at ih ⊢
    omega
theorem int_len (i : Int) : ((toString i : String) : Str).length ≤ i.natAbs.log2 + 3 := by
  have h := int_text_length_le (a := i) (k := i.natAbs.log2 + 1) (Nat.succ_pos _) (Nat.lt_succ_self _)
  rw [show ((toString i : String) : Str).length = (toString i).length from PySem.ofString_length _]
  omega
mutual
theorem wt_le : ∀ (d : D), (pyD d).shown.length ≤ wt d
  | .non => by show (("None" : String) : Str).length ≤ 4; decide
  | .bl b => by cases b <;> (show (_ : Str).length ≤ 5) <;> decide
  | .int i => int_len i
  | .str x => Nat.le_refl _
  | .tup ds => by
    have h := wts_le ds
    show (tupleText (PyData.shownAll (pyDs ds))).length ≤ wts ds + 3
    unfold tupleText
    rw [strLen_append, strLen_append]
    have h1 := joinS_le (PyData.shownAll (pyDs ds))
    have h2 : (("(" : String) : Str).length = 1 := rfl
    have h3 : (((if (PyData.shownAll (pyDs ds)).length == 1 then ",)" else ")" : String)) : Str).length ≤ 2 := by split <;> decide
    omega
  | .lst ds => by
    have h := wts_le ds
    show (listText (PyData.shownAll (pyDs ds))).length ≤ wts ds + 2
    unfold listText
    rw [strLen_append]
    have h1 := textFrom_le (PyData.shownAll (pyDs ds)) 0 "["
    have h2 : (("[" : String) : Str).length = 1 := rfl
    have h3 : (("]" : String) : Str).length = 1 := rfl
    omega
theorem wts_le : ∀ (ds : List D), ((PyData.shownAll (pyDs ds)).map fun t => t.length + 2).sum ≤ wts ds
  | [] => by simp [pyDs, PyData.shownAll, wts]
  | d :: ds => by
    have h1 := wt_le d
    have h2 := wts_le ds
    simp only [pyDs, PyData.shownAll, List.map_cons, List.sum_cons, wts]
    omega
end
section
variable {X : Cx}
end
end L2

set_option Elab.async false
set_option linter.all false
set_option autoImplicit false
set_option maxRecDepth 100000
set_option maxHeartbeats 1000000
namespace L2
open PySem PySem.Spec PyProof.Rows
/-! ### (a, b, ..) = a list of that length -/
section
variable {prog : Program} {w : World} {A : Around} {E : Value → Shared → Prop}
end
section
variable {X : Cx} {pos : Pos}
def gLst (K : PySem.W.Frag) (n : Nat) (t : TGs) : TG := fun v σ H Q => ∃ a xs, v = .ref a ∧ SqL K H a xs ∧ xs.length = n ∧ t xs σ H Q
end
end L2

set_option Elab.async false
set_option linter.all false
set_option autoImplicit false
set_option maxRecDepth 100000
set_option maxHeartbeats 1000000
namespace L2
open PySem PySem.Spec PyProof.Rows
section
variable {X : Cx}
/-! ### elements of a display, told by their sort: nothing is unfolded -/
theorem pa_consT {es fs x1 pos te t} (ha : PE X (.Tuple fs x1 pos) te) (hr : PA X es t) : PA X (.Tuple fs x1 pos :: es) (tCons te t) := pa_cons ha hr (by rfl)
theorem pa_consL {es fs pos te t} (ha : PE X (.List fs pos) te) (hr : PA X es t) : PA X (.List fs pos :: es) (tCons te t) := pa_cons ha hr (by rfl)
theorem pa_consC {es c j pos te t} (ha : PE X (.Constant c j pos) te) (hr : PA X es t) : PA X (.Constant c j pos :: es) (tCons te t) := pa_cons ha hr (by rfl)
end
end L2

set_option Elab.async false
set_option linter.all false
set_option autoImplicit false
set_option maxRecDepth 100000
set_option maxHeartbeats 1000000
namespace L2
open PySem PySem.Spec PySem.Calls PyProof.Rows
/-! ### lambdas: a function made in a body, its code in the table of the def's own code; a call of a function that is handed in -/
def Frz (H H' : Hp) : Prop := ∀ b o u, H b = some (.frz o u) → H' b = some (.frz o u)
theorem Frz.refl (H : Hp) : Frz H H := fun _ _ _ h => h
theorem Frz.trans {H H1 H2 : Hp} (a : Frz H H1) (b : Frz H1 H2) : Frz H H2 := fun c o u h => b c o u (a c o u h)
theorem Same.frz {H H' : Hp} (h : Same H H') : Frz H H' := fun b o u e => h b _ e
/-- a lambda's function stands at f -/
def LamAt (H : Hp) (f : Addr) (q : Str) (params : Arguments) (body : Expr) (scope : Scope) (clos : List (Str × Addr)) : Prop :=
  ∃ (pm : Value) (c : Addr) (ctv : Value) (oc : Obj) (vs : Array Value) (t : Tok) (u u' : HO), H f = some (.frz (PySem.W.kla_obj "<lambda>" q params body scope clos pm c ctv) u) ∧ H c = some (.frz oc u') ∧ oc.data = .fields vs ∧ vs[1]? = some (.str q t)
theorem LamAt.frz {H H' : Hp} {f : Addr} {q : Str} {params : Arguments} {body : Expr} {scope : Scope} {clos : List (Str × Addr)} (x : LamAt H f q params body scope clos) (k : Frz H H') : LamAt H' f q params body scope clos :=
  let ⟨pm, c, ctv, oc, vs, t, u, u', h1, h2, r⟩ := x; ⟨pm, c, ctv, oc, vs, t, u, u', k _ _ _ h1, k _ _ _ h2, r⟩

/-- what the written part says of a code and its table -/
def hdIn (K : PySem.W.Frag) (c P : Addr) : Bool := match K.lookup c with
  | some o => (o.cls == .type "code") && c != P && (match o.data with
    | .fields vs => (vs[11]? == some (.ref P)) && (match vs.getD 18 .none, vs.getD 7 .none, vs.getD 9 .none, vs.getD 10 .none with
      | .str _ _, .int _ _, .bool _, .int _ _ => true
      | _, _, _, _ => false)
    | _ => false)
  | none => false
theorem codeHd_of {K : PySem.W.Frag} {h : Heap} {c P : Addr} (X : K.In h) (e : hdIn K c P = true) : PySem.W.CodeHd h c P := by
  unfold hdIn at e
  cases q : K.lookup c with
  | none => rw [q] at e; cases e
  | some o =>
    rw [q] at e
    simp only [Bool.and_eq_true] at e
    obtain ⟨⟨e1, e2⟩, e3⟩ := e
    cases d : o.data with
    | fields vs =>
      rw [d] at e3
      simp only [Bool.and_eq_true] at e3
      obtain ⟨e4, e5⟩ := e3
      have e4' : vs[11]? = some (.ref P) := eq_of_beq e4
      split at e5
      · rename_i f tf g tg b x tt h18 h7 h9 h10
        refine ⟨o, vs, f, tf, g, tg, b, x, tt, X _ _ q, eq_of_beq e1, d, e4', ?_, h18, h7, h9, h10, by simpa using e2⟩
        simp [Array.getD_eq_getD_getElem?, e4']
      · cases e5
    | _ => rw [d] at e3; cases e3
theorem among_snoc {pos : Pos} {a b : Int} {c cv : Value} (l : List Value) (h : TriplesOk l) (e : codeAmong pos (l ++ [rawInt a, rawInt b, c]) = some cv) : codeAmong pos l = some cv ∨ cv = c := by
  fun_induction TriplesOk l with
  | case1 =>
    simp only [List.nil_append, rawInt, codeAmong] at e
    split at e
    · exact .inr (Option.some.inj e).symm
    · cases e
  | case2 a' t b' u x rest ih =>
    simp only [List.cons_append, codeAmong] at e ⊢
    split at e
    · rename_i hc
      rw [if_pos hc]
      exact .inl e
    · rename_i hc
      rw [if_neg hc]
      exact ih h e
  | case3 l h1 h2 => exact h.elim

section
variable {P : Program} {w : World} {H H' : Hp} {h h' : Heap} {p : Addr} {ps : Array Value}
theorem Un.lam {fs : List Addr} (hok : HOk P w H h) (hP : H p = some (.tbl ps)) (k : ∀ b o, b ≠ p → h.get? b = some o → h'.get? b = some o) (hp' : ∃ o, h'.get? p = some o) (same : ∀ b, b < h.objs.size → H' b = H b) : Un fs [] H H' h h' := by
  have ne : ∀ b, H b = none → b ≠ p := fun b n z => by rw [z, hP] at n; cases n
  refine ⟨fun b o q n _ _ => k b o (ne b n) q, fun b o q n _ _ => ⟨o.slots, k b o (ne b n) q⟩, fun b o q n _ => (same b (Heap.lt_size q)).trans n, fun b o q _ => ?_, fun b xs q => (same b (hok.lt q)).trans q, fun b o u q => (same b (hok.lt q)).trans q, fun b xs q => ⟨#[], ?_⟩⟩
  · by_cases hb : b = p
    · rw [hb]; exact hp'
    · exact ⟨o, k b o hb q⟩
  · rw [(same b (hok.lt q)).trans q]; simp
theorem HOk.lam (hok : HOk P w H h) (hP : H p = some (.tbl ps)) (k : ∀ b o, b ≠ p → h.get? b = some o → h'.get? b = some o) (same : ∀ b, b < h.objs.size → H' b = H b)
    (newP : ObjOk P w H' h' p (.tbl ps)) (new : ∀ b u, h.objs.size ≤ b → H' b = some u → ObjOk P w H' h' b u) : HOk P w H' h' := fun b u e => by
  rcases Nat.lt_or_ge b h.objs.size with hb | hb
  · rw [same b hb] at e
    by_cases hp : b = p
    · subst hp
      rw [hP] at e; cases e
      exact newP
    · refine (hok b u e).stay (fun c v hc q => k c v ?_ q) (fun c q => (same c (hok.lt q)).trans q) (fun c xs q => (same c (hok.lt q)).trans q) fun c o u q => (same c (hok.lt q)).trans q
      rcases hc with rfl | hc
      · exact hp
      · rintro rfl
        rw [hP] at hc; cases hc
  · exact new b u hb e
end

def tLam (q : Str) (args : Arguments) (body : Expr) (scope : Scope) (clos : List (Str × Addr)) : TE := fun _ H Q => ∀ f H', Same H H' → H f = none → LamAt H' f q args body scope clos → Q (.ref f) H'
section
variable {X : Cx} {args : Arguments} {body : Expr} {scope : Scope} {pos : Pos} {x : Str} {c p : Addr} {clos : List (Str × Addr)}
theorem pe_lam (hcode : X.env.code = .ref c) (hq : X.env.qual = x ++ ".<locals>.") (hm : (x, c, p) ∈ tabL X.K) (hh : hdIn X.K c p = true) (hcl : closureFor scope X.env = pure clos) (hdef : defaultsOf args X.env = ([], []) := by rfl) :
    PE X (.Lambda args body scope pos) (tLam (x ++ ".<locals>." ++ "<lambda>") args body scope clos) := .mk <| by
  intro pins s σ H Q I h
  refine PySem.W.kla_eval hdef ?_
  rw [hq]
  obtain ⟨ps, eP, z0⟩ := (I.ok.tt.mono I.base.tbls) _ hm
  obtain ⟨qs, hP, tr, codes⟩ := I.hok _ _ eP
  dsimp only at eP z0 hP
  have C : PySem.W.CodeHd s.heap c p := (codeHd_of I.ok.mod.kin hh).keeps I.bk
  have hg : s.heap.Ns mainGlobals X.mg := I.ok.mod.glob.keeps I.bk
  obtain ⟨bm, ob, b1, b2, b3, b4, b5, b6⟩ := I.ok.mod.bm
  have hgP : mainGlobals ≠ p := fun q => by
    obtain ⟨o, es, ep, e, hd, _⟩ := hg
    rw [q, hP] at e; cases e; cases hd
  have hbP : bm ≠ p := fun q => by
    have e := I.bk _ _ b3
    rw [q, hP] at e; cases e; cases b4
  have hbG : bm ≠ mainGlobals := fun q => by
    obtain ⟨o, es, ep, e, hd, _⟩ := I.ok.mod.glob
    rw [q, e] at b3; cases b3; rw [hd] at b6; cases b6
  have hB : s.heap.BuiltinsAt X.mg p := ⟨bm, ob, b1, b2, hbG, hbP, I.bk _ _ b3, b4, b5, b6⟩
  have hps : p < s.heap.objs.size := Heap.lt_size hP
  cases e : codeAmong pos qs.toList with
  | none =>
    refine PySem.W.kla_makeFunction (mg := X.mg) hcl I.ok.glob hg hcode C hP tr e hgP hB fun c' ctv h' tk hx hge hlt hrec htb => ?_
    obtain ⟨c₂, oc, vs, t, e2, hoc, hd, hv⟩ := hrec
    cases e2
    have hps' : p < h'.objs.size := Heap.lt_size htb
    let H' : Hp := upd (upd H c' (.frz oc (.own p))) h'.objs.size (.frz (PySem.W.kla_obj "<lambda>" (x ++ ".<locals>." ++ "<lambda>") args body scope clos ((X.mg "__name__").getD .none) c' ctv) (.own h'.objs.size))
    have ef : H' h'.objs.size = some (.frz (PySem.W.kla_obj "<lambda>" (x ++ ".<locals>." ++ "<lambda>") args body scope clos ((X.mg "__name__").getD .none) c' ctv) (.own h'.objs.size)) := upd_same
    have ec : H' c' = some (.frz oc (.own p)) := (upd_ne (Nat.ne_of_lt hlt)).trans upd_same
    have same : ∀ b, b < s.heap.objs.size → H' b = H b := fun b hb => by
      have h1 : b ≠ h'.objs.size := Nat.ne_of_lt (Nat.lt_trans (Nat.lt_of_lt_of_le hb hge) hlt)
      have h2 : b ≠ c' := Nat.ne_of_lt (Nat.lt_of_lt_of_le hb hge)
      exact (upd_ne h1).trans (upd_ne h2)
    have k : ∀ b o, b ≠ p → s.heap.get? b = some o → (h'.push (PySem.W.kla_obj "<lambda>" (x ++ ".<locals>." ++ "<lambda>") args body scope clos ((X.mg "__name__").getD .none) c' ctv)).get? b = some o := fun b o n q => Heap.get?_push_of_some _ (hx b o n q)
    have htb' := Heap.get?_push_of_some (PySem.W.kla_obj "<lambda>" (x ++ ".<locals>." ++ "<lambda>") args body scope clos ((X.mg "__name__").getD .none) c' ctv) htb
    refine ⟨.ref h'.objs.size, H', I.un (Un.lam I.hok eP k ⟨_, htb'⟩ same) (I.hok.lam eP k same ⟨_, htb', ?_, ?_⟩ ?_), rfl, h _ _ (fun b o q => (same b (I.hok.lt q)).trans q) (I.hok.fresh (Nat.le_trans hge (Nat.le_of_lt hlt))) ⟨_, c', ctv, oc, vs, t, _, _, ef, ec, hd, hv⟩⟩
    · rw [Array.toList_append]
      exact TriplesOk_snoc _ _ _ _ tr
    · intro pos' cv q
      rw [Array.toList_append] at q
      rcases among_snoc _ tr q with q | rfl
      · obtain ⟨c1, o1, v1, t1, q1, a1, a2, a3, a4, a5⟩ := codes pos' cv q
        exact ⟨c1, o1, v1, t1, q1, a1, (same c1 (I.hok.lt a2)).trans a2, a3, a4, a5⟩
      · exact ⟨c', oc, vs, t, _, rfl, ec, hd, hv, z0⟩
    · intro b u hb q
      by_cases hbf : b = h'.objs.size
      · subst hbf
        rw [ef] at q; cases q
        exact ⟨Heap.get?_push_size _ rfl, _, Heap.get?_push_size _ rfl⟩
      · have q' : upd H c' (.frz oc (.own p)) b = some u := (upd_ne hbf).symm.trans q
        by_cases hbc : b = c'
        · subst hbc
          rw [upd_same] at q'; cases q'
          exact ⟨Heap.get?_push_of_some _ hoc, _, Heap.get?_push_of_some _ hoc⟩
        · rw [upd_ne hbc, I.hok.fresh hb] at q'; cases q'
  | some cv =>
    obtain ⟨c', oc, vs, t, q, rfl, ec, hd, hv, hq0⟩ := codes pos cv e
    have hqq : q = x ++ ".<locals>." ++ "<lambda>" := by
      rw [hq0] at z0
      injection z0 with z0
      injection z0
    subst hqq
    refine PySem.W.kla_makeFunctionHit (mg := X.mg) hcl I.ok.glob hg hcode C hP tr e hB fun ctv h' tk hk hsz => ?_
    have hne : ∀ b u, H b = some u → b ≠ h'.objs.size := fun b u q z => absurd (Nat.lt_of_lt_of_le (I.hok.lt q) hsz) (by rw [z]; exact Nat.lt_irrefl _)
    refine ⟨.ref h'.objs.size, upd H h'.objs.size (.frz (PySem.W.kla_obj "<lambda>" (x ++ ".<locals>." ++ "<lambda>") args body scope clos ((X.mg "__name__").getD .none) c' ctv) (.own h'.objs.size)), I.laid (fun b u q => Heap.get?_push_of_some _ (hk b u q)) hsz ?_, rfl, h _ _ (fun b o q => (upd_ne (hne b o q)).trans q) (I.hok.fresh hsz) ⟨_, c', ctv, oc, vs, t, _, _, upd_same, (upd_ne (hne _ _ ec)).trans ec, hd, hv⟩⟩
    exact ⟨Heap.get?_push_size _ rfl, _, Heap.get?_push_size _ rfl⟩
end
end L2

set_option Elab.async false
set_option linter.all false
set_option autoImplicit false
set_option maxRecDepth 100000
set_option maxHeartbeats 1000000
namespace L2
open PySem PySem.Spec PySem.Calls PyProof.Rows
/-! ### what a function that is handed in promises -/
structure Clo (P : Program) (w : World) (K : PySem.W.Frag) (mg : Str → Option Value) (base : Heap) (H₀ : Hp) (k : Nat) (f : Addr) (n : Nat) (sp : Sp) : Prop where
  fn : ∃ (oc : Value) (od : Option Addr) (fd : FuncData) (sl : Array (Option Value)) (u : HO), H₀ f = some (.frz ⟨oc, od, .func fd, sl⟩ u)
  len : ∀ vs H Q E, sp vs H Q E → vs.length = n
  run : ∀ (A : Around) (outer : List Env) (s : Shared) (H : Hp) (us : List Value) (vs : List V) (Q : VK) (E : XK), Room k A → Env0 P w K mg base A outer s H → Frz H₀ H → Vals vs us → sp vs H Q E →
    codeAny (model P w) A (.call (.ref f) ⟨us, []⟩) (CR CX0 outer P w H s Q E) s
theorem Clo.mono {P : Program} {w : World} {K : PySem.W.Frag} {mg : Str → Option Value} {base : Heap} {H₀ H₁ : Hp} {j k : Nat} {f : Addr} {n : Nat} {sp : Sp} (C : Clo P w K mg base H₀ j f n sp) (h : Frz H₀ H₁) (hk : j ≤ k) : Clo P w K mg base H₁ k f n sp :=
  ⟨let ⟨oc, od, fd, sl, u, e⟩ := C.fn; ⟨oc, od, fd, sl, u, h _ _ _ e⟩, C.len, fun A outer s H us vs Q E hr he hf hv hs => C.run A outer s H us vs Q E (hr.mono hk) he (h.trans hf) hv hs⟩
theorem Clo.imp {P : Program} {w : World} {K : PySem.W.Frag} {mg : Str → Option Value} {base : Heap} {H₀ : Hp} {k : Nat} {f : Addr} {n : Nat} {sp sp' : Sp} (C : Clo P w K mg base H₀ k f n sp) (h : ∀ vs H Q E, sp' vs H Q E → sp vs H Q E) : Clo P w K mg base H₀ k f n sp' :=
  ⟨C.fn, fun vs H Q E q => C.len vs H Q E (h _ _ _ _ q), fun A outer s H us vs Q E hr he hf hv hs => C.run A outer s H us vs Q E hr he hf hv (h _ _ _ _ hs)⟩

/-- a call of what stands in the i-th slot -/
def tCallV (X : Cx) (k n i : Nat) (t : TA) : TE := fun σ H Q => ∃ f sp, σ[i]? = some (some (.ref f)) ∧ Clo X.prog X.w X.K X.mg X.base X.H₀ k f n sp ∧ t σ H fun vs H1 => sp vs H1 Q E0
section
variable {X : Cx} {k n i : Nat} {x : Str} {p pos : Pos} {e : Expr} {es : List Expr} {t : TA}
theorem pe_callV (hr : Room k X.A) (hN : X.N[i]? = some x) (hv : Vis X.env.scope x) (ha : PA X (e :: es) t) (hd : (x == ("__debug__" : Str)) = false := by decide) (hcd : (x == ("__classdict__" : Str)) = false := by decide)
    (he : starEach (e :: es) X.env = (false, eval e X.env) :: starEach es X.env := by rfl) (hpl : (backTo pos (starEach es X.env)).any (·.1) = false := by rfl) :
    PE X (.Call (.Name x p) (e :: es) [] pos) (tCallV X k n i t) := .mk <| by
  intro pins s σ H Q I h
  obtain ⟨f, sp, ev, C, h⟩ := h
  have at' : ∀ {σ1 : St} {H1 : Hp} {s1 : Shared}, Inv X pins σ1 H1 s1 → PySem.W.FnAt f s1.heap := fun {σ1 H1 s1} J => by
    obtain ⟨oc, od, fd, sl, u, q⟩ := C.fn
    exact ⟨oc, od, fd, sl, (J.hok _ _ (J.base.frzs _ _ _ q)).1⟩
  refine wpAny_Call_Name_kw (thn (pe_var (X := X) hN hv hd hcd pins s σ H (fun v H1 => v = .ref f ∧ H1 = H) I ⟨_, ev, rfl, rfl⟩) fun u s1 ⟨v, H1, I1, r, e1, e2⟩ => ?_)
  subst e1 e2
  obtain rfl : u = Value.ref f := r
  refine PySem.W.callWith_F (at' I1) (thn (ha pos pins s1 σ H1 _ I1 h) fun us s2 ⟨vs, H2, I2, r2, q2⟩ => ⟨at' I2, ?_⟩) he hpl
  refine wpAny_call (codeAny_mono (C.run X.A X.stack s2 H2 us vs Q E0 hr I2.env0 (fun b o u q => I2.base.frzs b o u q) r2 q2) fun r s' hq => ?_)
  cases r with
  | error e => exact False.elim hq
  | ok fl =>
    cases fl with
    | ret u => exact I2.after hq
    | next => exact False.elim hq
    | brk => exact False.elim hq
    | cont => exact False.elim hq
end

/-! ### the base grows: what is not tracked and no frame stays while a callee runs -/
theorem Mod.mono {K : PySem.W.Frag} {mg : Str → Option Value} {b b' : Heap} (m : Mod K mg b) (k : ∀ a o, b.get? a = some o → b'.get? a = some o) : Mod K mg b' :=
  ⟨m.kin.keeps k, m.glob.keeps k, let ⟨mb, h1, h2⟩ := m.blt; ⟨mb, h1.keeps k, h2⟩, m.nolimit.keeps k, let ⟨bm, ob, h1, h2, h3, r⟩ := m.bm; ⟨bm, ob, h1, h2, k _ _ h3, r⟩⟩
/-- the cells of the names hold their values -/
def CellB (X : Cx) (σ : St) (b : Heap) : Prop := ∀ (i : Nat) (x : Str) (v : V), X.N[i]? = some x → σ[i]? = some (some v) → X.env.scope.names.lookup x = some .cell → X.fn x = true → ∃ c u, X.env.cells.lookup x = some c ∧ b.IsCell c (some u) ∧ RelV v u
theorem frames_grow {h b b' : Heap} : ∀ {l : List Env}, h.FunFrames b l → (∀ a ∈ frs l, b'.get? a = none) → h.FunFrames b' l
  | [], _, _ => trivial
  | env :: r, x, k => by
    obtain ⟨hk, ⟨L, o, hf, hn, ho, hd⟩, hr⟩ := x
    have hL : L ∈ frs (env :: r) := by unfold frs; rw [List.filterMap_cons, hf]; exact List.mem_cons_self
    refine ⟨hk, ⟨L, o, hf, k L hL, ho, hd⟩, frames_grow hr fun a ha => k a ?_⟩
    unfold frs at ha ⊢
    rw [List.filterMap_cons, hf]
    exact List.mem_cons_of_mem _ ha
theorem Inv.grow {X : Cx} {pins : List (Addr × Obj)} {σ : St} {H : Hp} {s : Shared} (I : Inv X pins σ H s) :
    ∃ b', (∀ a o, X.base.get? a = some o → b'.get? a = some o) ∧ Env0 X.prog X.w X.K X.mg b' X.A X.stack s H ∧ CellB X σ b' := by
  have keep : ∀ a o, s.heap.get? a = some o → H a = none → a ∉ frs X.stack → (PySem.W.hideAll s.heap (trk s.heap H ++ frs X.stack)).get? a = some o := fun a o e n hf => PySem.W.hideAll_get _ e fun hm => by
    rcases List.mem_append.mp hm with z | z
    · have q : (H a).isSome = true := (List.mem_filter.mp z).2
      rw [n] at q; simp at q
    · exact hf z
  have sub : ∀ a o, X.base.get? a = some o → (PySem.W.hideAll s.heap (trk s.heap H ++ frs X.stack)).get? a = some o := fun a o e => keep a o (I.bs a o e).1 (I.bs a o e).2 fun hm => by
    have := (I.stack.mem hm).1
    rw [e] at this; cases this
  have e0 := I.env0
  refine ⟨PySem.W.hideAll s.heap (trk s.heap H ++ frs X.stack), sub, ⟨e0.frames, e0.mod.mono sub, fun a o e => ⟨PySem.W.of_hideAll _ e, ?_⟩, Nat.le_of_eq (PySem.W.hideAll_size _ _), frames_grow e0.funs fun a ha => PySem.W.hideAll_none _ (List.mem_append_right _ ha), e0.frf, e0.tt, e0.hok, e0.bare⟩, ?_⟩
  · cases q : H a with
    | none => rfl
    | some u =>
      have hm : a ∈ trk s.heap H := List.mem_filter.mpr ⟨List.mem_range.mpr (I.hok.lt q), by simp [q]⟩
      rw [PySem.W.hideAll_none _ (List.mem_append_left _ hm)] at e; cases e
  · intro i x v h1 h2 h3 h4
    obtain ⟨m, hn, hl⟩ := I.loc
    obtain ⟨u, r, l⟩ := hl i x v h1 h2 (.inr (.inl h3))
    rcases l with ⟨k, _⟩ | ⟨_, c, hc, o, ho, hd⟩
    · have k' : X.env.scope.names.lookup x = some .local := k
      rw [h3] at k'; cases k'
    · refine ⟨c, u, hc, ⟨o, keep c o ho (I.freeC x c hc) fun hm => ?_, hd⟩, r⟩
      rcases List.mem_cons.mp (I.stkSub c hm) with z | z
      · exact I.cne x c hc z
      · obtain ⟨_, o', ho', _⟩ := I.ok.funs.mem z
        exact absurd (Nat.lt_of_lt_of_le (Heap.lt_size ho') (I.ok.cab x c h4 hc)) (Nat.lt_irrefl _)

/-- a call of a def, handed functions that were made here -/
def tCallC (X : Cx) (spf : Heap → Sp) (t : TA) : TE := fun σ H Q => t σ H fun vs H1 => ∀ b', (∀ a o, X.base.get? a = some o → b'.get? a = some o) → CellB X σ b' → spf b' vs H1 Q E0
section
variable {X : Cx} {k : Nat} {f : Addr} {fd : FuncData} {ps : List Str} {x : Str} {p pos : Pos} {e : Expr} {es : List Expr} {t : TA} {spf : Heap → Sp}
theorem pe_callC (F : ∀ b', FnOk X.prog X.w X.K X.mg b' CX0 k f fd ps (spf b')) (hr : Room k X.A) (hg : Gl X x) (hm : X.mg x = some (.ref f)) (hk : PySem.W.keepIn X.K (.ref f) = true) (hb : Binds X.K fd ps [])
    (ha : PA X (e :: es) t) (hdb : (x == ("__debug__" : Str)) = false := by decide) (he : starEach (e :: es) X.env = (false, eval e X.env) :: starEach es X.env := by rfl) (hpl : (backTo pos (starEach es X.env)).any (·.1) = false := by rfl) :
    PE X (.Call (.Name x p) (e :: es) [] pos) (tCallC X spf t) := .mk <| by
  intro pins s σ H Q I h
  refine wpAny_Call_Name_kw (ld_glob I hg hm ?_ hdb)
  refine PySem.W.callWith_K (h₀ := X.base) I.ok.mod.kin hk (thn (ha pos pins s σ H _ I h) fun us s1 ⟨vs, H1, I1, r, q⟩ => ⟨I1.kIn, ?_⟩) he hpl
  obtain ⟨b', sub, e0, cb⟩ := I1.grow
  have q := q b' sub cb
  have hl : (us ++ []).length = ps.length := by rw [List.append_nil, ← r.length]; exact (F b').len _ _ _ _ q
  have hbb := hb s1 us I1.kIn hl
  rw [List.append_nil] at hbb
  refine wpAny_call (codeAny_mono ((F b').run X.A X.stack s1 H1 ⟨us, []⟩ us vs Q E0 hr e0 hbb r q) fun r s' hq => ?_)
  cases r with
  | error e => exact False.elim hq
  | ok fl =>
    cases fl with
    | ret u => exact I1.after hq
    | next => exact False.elim hq
    | brk => exact False.elim hq
    | cont => exact False.elim hq
end

/-! ### a lambda's promise, by its body -/
def cxLam (P : Program) (w : World) (K : PySem.W.Frag) (mg : Str → Option Value) (base : Heap) (N : List Str) (qual : Str) (scope : Scope) (f : Addr) (cd : Value) (cl : List (Str × Addr)) (A : Around) (outer : List Env) (s : Shared) (H : Hp) : Cx where
  prog := P
  w := w
  K := K
  mg := mg
  base := base
  A := A.deeper (PySem.W.envX qual scope s.heap.objs.size f cd cl)
  N := N
  s₀ := s
  H₀ := H
  env := PySem.W.envX qual scope s.heap.objs.size f cd cl
  outer := outer
  stack := PySem.W.envX qual scope s.heap.objs.size f cd cl :: outer
  ex := []
  calm := true
  fn := fun _ => false
  pn := []
  xe := fun _ _ => False
structure LamScope (ps cs : List Str) (sc : Scope) : Prop where
  kind : sc.kind = .function
  co : sc.isCoroutine = false
  gen : sc.isGenerator = false
  nd : (ps ++ cs).Nodup
  par : ∀ x ∈ ps, sc.names.lookup x = some .local
  free : ∀ x ∈ cs, sc.names.lookup x = some .free
  has : ∀ y ∈ sc.names, y.2 ≠ .cell ∧ (y.2 = .free → y.1 ∈ cs)
/-- the captured names' cells hold the values caps -/
def CapOk (b : Heap) (cl : List (Str × Addr)) (cs : List Str) (caps : List V) : Prop := caps.length = cs.length ∧ (∀ x c, cl.lookup x = some c → x ∈ cs) ∧ (∀ x y c, cl.lookup x = some c → cl.lookup y = some c → x = y) ∧
  ∀ (j : Nat) (x : Str) (v : V), cs[j]? = some x → caps[j]? = some v → ∃ c u, cl.lookup x = some c ∧ b.IsCell c (some u) ∧ RelV v u
theorem zip_rev_lookup {α : Type} : ∀ {ps : List Str} {us : List α} {i : Nat} {x : Str} {u : α}, ps.Nodup → ps[i]? = some x → us[i]? = some u → (ps.zip us).reverse.lookup x = some u := by
  intro ps
  induction ps with
  | nil => intro us i x u _ h; simp at h
  | cons p ps ih =>
    intro us i x u nd h1 h2
    cases us with
    | nil => simp at h2
    | cons w us =>
      obtain ⟨n1, n2⟩ := List.nodup_cons.mp nd
      rw [List.zip_cons_cons, List.reverse_cons, List.lookup_append]
      cases i with
      | zero =>
        simp at h1 h2
        subst h1 h2
        have : (ps.zip us).reverse.lookup p = none := by
          rw [List.lookup_eq_none_iff]
          intro q hq
          rw [List.mem_reverse] at hq
          have := (List.of_mem_zip (a := q.1) (b := q.2) hq).1
          simp only [beq_eq_false_iff_ne, ne_eq, bne_iff_ne]
          intro z
          exact n1 (z ▸ this)
        rw [this]
        simp [List.lookup]
      | succ i =>
        rw [ih n2 (by simpa using h1) (by simpa using h2)]
        rfl
theorem clo_of {P : Program} {w : World} {K : PySem.W.Frag} {mg : Str → Option Value} {base : Heap} {H₀ : Hp} {k : Nat} {f : Addr} {q : Str} {params : Arguments} {body : Expr} {scope : Scope} {cl : List (Str × Addr)} {ps cs : List Str} {caps : List V} {sp : Sp}
    (L : LamAt H₀ f q params body scope cl) (S : LamScope ps cs scope) (C : CapOk base cl cs caps)
    (hb : ∀ (pm : Value) (c : Addr) (ctv : Value) (us : List Value), us.length = ps.length → bindArgs (PySem.W.kla_fn "<lambda>" q params body scope cl pm (.ref c) ctv) ⟨us, []⟩ = pure (ps.zip us))
    (len : ∀ vs H Q E, sp vs H Q E → vs.length = ps.length)
    (hbody : ∀ (cd : Value) (A : Around) (outer : List Env) (s : Shared) (H : Hp) (vs : List V) (Q : VK) (E : XK), Room k (A.deeper (PySem.W.envX q scope s.heap.objs.size f cd cl)) → sp vs H Q E →
      ∃ t, PE (cxLam P w K mg base (ps ++ cs) q scope f cd cl A outer s H) body t ∧ t ((vs ++ caps).map some) H Q) : Clo P w K mg base H₀ (k + 1) f ps.length sp := by
  obtain ⟨pm, c, ctv, oc, vc, tc, u1, u2, e1, e2, e3, e4⟩ := L
  refine ⟨⟨_, _, _, _, _, e1⟩, len, fun A outer s H us vs Q E hr e0 hF r hsp => ?_⟩
  have hl := len _ _ _ _ hsp
  have hlu : us.length = ps.length := r.length.symm.trans hl
  have f1 := (e0.hok _ _ (hF _ _ _ e1)).1
  have f2 := (e0.hok _ _ (hF _ _ _ e2)).1
  have lim : s.heap.NoLimit := e0.mod.nolimit.keeps fun b o e => (e0.bs b o e).1
  have nps : ps.Nodup := S.nd.sublist (List.sublist_append_left _ _)
  refine PySem.W.kla_callFunE hr.depth f1 rfl S.co S.gen rfl ⟨c, oc, vc, tc, rfl, f2, e3, e4⟩ ?_
  rw [hb pm c ctv us hlu]
  refine wpAny_pure (wpAny_newFunctionEnv (fun y hy => (S.has y hy).1) (fun y hy => S.par y.1 (List.of_mem_zip (a := y.1) (b := y.2) hy).1) (fun h₁ hns hsb => ⟨lim.fresh _ hsb, ?_⟩) S.kind)
  show codeAny _ _ (.expr body (PySem.W.envX q scope s.heap.objs.size f (.ref c) cl)) _ _
  have hk₁ : ∀ b o, s.heap.get? b = some o → h₁.get? b = some o := fun b o e => hsb.extBut b o (Nat.ne_of_lt (Heap.lt_size e)) (Heap.get?_push_of_some _ e)
  obtain ⟨c1, c2, c3, c4⟩ := C
  obtain ⟨t, ht, hq⟩ := hbody (.ref c) A outer s H vs Q E (hr.deeper _) hsp
  have capC : ∀ x c, cl.lookup x = some c → ∃ v, base.IsCell c v := fun x c e => by
    obtain ⟨j, hj⟩ := List.getElem?_of_mem (c2 x c e)
    have hj2 : j < caps.length := by rw [c1]; exact (List.getElem?_eq_some_iff.mp hj).1
    obtain ⟨c', u, z1, z2, _⟩ := c4 j x caps[j] hj (List.getElem?_eq_getElem hj2)
    rw [e] at z1; cases z1
    exact ⟨_, z2⟩
  have noA : ∀ b : Addr, b ∉ (cxLam P w K mg base (ps ++ cs) q scope f (.ref c) cl A outer s H).ex := fun b z => absurd (show b ∈ ([] : List Addr) from z) (by simp)
  have I : Inv (cxLam P w K mg base (ps ++ cs) q scope f (.ref c) cl A outer s H) [] ((vs ++ caps).map some) H { s with heap := h₁, toks := s.toks + (ps.zip us).length } := by
    refine ⟨⟨e0.mod, S.kind, rfl, rfl, Nat.le_refl _, c3, fun y hy => ?_, fun y c h => (nomatch h), fun _ => hr.hd, Around.frames_deeper e0.frames, .inr ⟨rfl, rfl⟩, fun b z => absurd z (noA b), e0.bs, e0.bsz, fun b _ _ => noA b, fun b z => absurd z (noA b), e0.funs, e0.frf, e0.tt⟩,
      rfl, e0.bare, Un.kept hk₁, ⟨_, hns, fun i y v h1 h2 h3 => ?_⟩, fun y c h => ?_, e0.hok.fresh (Nat.le_refl _), fun y c h => ?_, fun p hp => absurd (show p ∈ ([] : List (Addr × Obj)) from hp) (by simp), e0.hok.kept hk₁, ?_⟩
    · have hy : scope.names.lookup y = some .cell ∨ scope.names.lookup y = some .free := hy
      rcases hy with hy | hy
      · exact absurd rfl (S.has _ (PySem.mem_of_lookup hy)).1
      · have hm := (S.has _ (PySem.mem_of_lookup hy)).2 rfl
        obtain ⟨j, hj⟩ := List.getElem?_of_mem hm
        have hj2 : j < caps.length := by rw [c1]; exact (List.getElem?_eq_some_iff.mp hj).1
        obtain ⟨c', u, z1, z2, _⟩ := c4 j y caps[j] hj (List.getElem?_eq_getElem hj2)
        exact ⟨c', z1⟩
    · have h1 : (ps ++ cs)[i]? = some y := h1
      rw [List.getElem?_map] at h2
      cases hv : (vs ++ caps)[i]? with
      | none => rw [hv] at h2; cases h2
      | some v' =>
        rw [hv] at h2
        cases h2
        rcases Nat.lt_or_ge i ps.length with hi | hi
        · rw [List.getElem?_append_left hi] at h1
          rw [List.getElem?_append_left (by rw [hl]; exact hi)] at hv
          obtain ⟨u, hu, ru⟩ := r.get hv
          exact ⟨u, ru, .inl ⟨S.par y (List.mem_of_getElem? h1), zip_rev_lookup nps h1 hu⟩⟩
        · rw [List.getElem?_append_right hi] at h1
          rw [List.getElem?_append_right (by rw [hl]; exact hi), hl] at hv
          obtain ⟨c', u, z1, z2, z3⟩ := c4 _ y v h1 hv
          refine ⟨u, z3, .inr ⟨.inr (S.free y (List.mem_of_getElem? h1)), c', z1, ?_⟩⟩
          obtain ⟨o, ho, hd⟩ := z2
          exact ⟨o, hk₁ _ _ (e0.bs _ _ ho).1, hd⟩
    · obtain ⟨v, o, ho, hd⟩ := capC y c h
      exact ⟨v, o, hk₁ _ _ (e0.bs _ _ ho).1, hd⟩
    · obtain ⟨v, o, ho, hd⟩ := capC y c h
      exact (e0.bs _ _ ho).2
    · show ((vs ++ caps).map some).length = (ps ++ cs).length
      rw [List.length_map, List.length_append, List.length_append, hl, c1]
  refine PySem.W.kla_codeExpr (wpAny_mono (ht [] _ _ H _ I hq) (fun v s' ⟨v', H', J, rv, q'⟩ => ?_) fun e s' hs => False.elim hs)
  exact ⟨v', H', J.os, J.bare, J.base, J.hok, rv, q'⟩

/-! ### a def that makes functions: its code is the one that the written part tells of -/
structure FunT (K : PySem.W.Frag) (x qual : Str) (st : Stmt) (f : Addr) (fd : FuncData) (c p : Addr) : Prop where
  ex : ∃ (oc : Value) (od : Option Addr) (kV doc pm : Value) (an : Option Addr) (ct : Value) (osl : Array (Option Value)),
    fd = PySem.W.fnOf x qual (defArgs st) (defBody st) (defScope st) .none kV doc pm an (.ref c) ct ∧ K.lookup f = some ⟨oc, od, .func fd, osl⟩ ∧ PySem.W.codeIn K (.ref c) qual = true
  tab : (x, c, p) ∈ tabL K
  hd : hdIn K c p = true
theorem FunT.ok {P : Program} {w : World} {K : PySem.W.Frag} {mg : Str → Option Value} {base : Heap} {x qual : Str} {st : Stmt} {f c p : Addr} {fd : FuncData} {N ps : List Str} {k : Nat} {sp : Sp} (F : FunT K x qual st f fd c p) (S : FnScope N ps (defScope st)) (len : ∀ vs H Q E, sp vs H Q E → vs.length = ps.length)
    (hbody : ∀ (A : Around) (outer : List Env) (s : Shared) (H : Hp) (vs : List V) (Q : VK) (E : XK), Room k (A.deeper (envOfC qual (defScope st) s.heap.objs.size f (.ref c))) → sp vs H Q E →
      ∃ t, PSs (cxOf CX0 P w K mg base N qual (defScope st) f (.ref c) A outer s H E).nox (defBody st) t ∧ t { nx := fun _ H' => Q .non H', rt := Q } (start N vs) H) : FnOk P w K mg base CX0 (k + 1) f fd ps sp := by
  obtain ⟨oc, od, kV, doc, pm, an, ct, osl, rfl, lk, hcd⟩ := F.ex
  refine fn_of lk hcd S len fun A outer s H vs Q E hr hsp => ?_
  obtain ⟨t, h, q⟩ := hbody A outer s H vs Q E hr hsp
  exact ⟨t, h.nox, q⟩
/-- from the plain form -/
theorem funT_mk {K : PySem.W.Frag} {x qual : Str} {st : Stmt} {f c p : Addr} {oc : Value} {od an : Option Addr} {osl : Array (Option Value)} {kV doc pm cdv ct : Value} (l : K.lookup f = some ⟨oc, od, .func (PySem.W.fnOf x qual (defArgs st) (defBody st) (defScope st) .none kV doc pm an cdv ct), osl⟩)
    (hc : PySem.W.codeIn K cdv qual = true) (e : cdv = .ref c) (t : (tabL K).contains (x, c, p) = true) (h : hdIn K c p = true) : FunT K x qual st f (PySem.W.fnOf x qual (defArgs st) (defBody st) (defScope st) .none kV doc pm an cdv ct) c p := by
  subst e
  exact ⟨⟨oc, od, kV, doc, pm, an, ct, osl, rfl, l, hc⟩, by simpa using t, h⟩
end L2

set_option Elab.async false
set_option linter.all false
set_option autoImplicit false
set_option maxRecDepth 100000
set_option maxHeartbeats 1000000
namespace L2
open PySem PySem.Spec PySem.Calls PyProof.Rows
/-! ### the head: the law's call, with the tables of the defs' codes tracked -/
def ndB : List Nat → Bool
  | [] => true
  | a :: r => !(r.contains a) && ndB r
theorem find_nd {α : Type} (f : α → Nat) : ∀ {l : List α} {q : α}, ndB (l.map f) = true → q ∈ l → l.find? (fun t => f t == f q) = some q
  | [], _, _, m => nomatch m
  | a :: r, q, h, m => by
    rw [List.map_cons, ndB, Bool.and_eq_true] at h
    obtain ⟨h1, h2⟩ := h
    rcases List.mem_cons.mp m with e | m
    · subst e
      rw [List.find?_cons_of_pos (by simp)]
    · have ne : (f a == f q) = false := by
        cases z : f a == f q with
        | false => rfl
        | true =>
          have z' : f a = f q := eq_of_beq z
          have : (r.map f).contains (f a) = true := by
            rw [z']
            simpa using ⟨q, m, rfl⟩
          rw [this] at h1
          cases h1
      rw [List.find?_cons_of_neg (by rw [ne]; simp)]
      exact find_nd f h2 m
def tabH (K : PySem.W.Frag) (b : Addr) : Option HO := ((tabL K).find? fun t => t.2.2 == b).map fun t => HO.tbl #[.str (t.1 ++ ".<locals>." ++ "<lambda>") 0]
theorem tabH_mem {K : PySem.W.Frag} {b : Addr} {o : HO} (e : tabH K b = some o) : ∃ t ∈ tabL K, t.2.2 = b ∧ o = HO.tbl #[.str (t.1 ++ ".<locals>." ++ "<lambda>") 0] := by
  unfold tabH at e
  cases q : (tabL K).find? (fun t => t.2.2 == b) with
  | none => rw [q] at e; cases e
  | some t =>
    rw [q] at e
    cases e
    have := List.find?_some q
    exact ⟨t, List.mem_of_find?_eq_some q, eq_of_beq this, rfl⟩
def tabsOk (K : PySem.W.Frag) (names : List Str) : Bool := PySem.W.noTabs K && ndB ((tabL K).map fun t => t.2.2) && (tabL K).all fun t => names.contains t.1
theorem tabL_in {K : PySem.W.Frag} {t : Str × Addr × Addr} (h : t ∈ tabL K) : PySem.W.tabIn K t.1 = some t.2 := by
  unfold tabL at h
  split at h
  · obtain ⟨e, _, q⟩ := List.mem_filterMap.mp h
    split at q
    · rename_i x tk hx
      cases z : PySem.W.tabIn K x with
      | none => rw [z] at q; cases q
      | some r => rw [z] at q; cases q; exact z
    · cases q
  · cases h
theorem law_callT {P : Program} {w : World} {K : PySem.W.Frag} {mg mb : Str → Option Value} {CX : CXT} {k : Nat} {fa a : Addr} {fd : FuncData} {x : Str} {sp : Sp} {s₁ : Shared} {vs : List Value} {ns : List Int}
    (KX : K.In s₁.heap) (hns : s₁.heap.Ns mainGlobals mg) (hb : s₁.heap.Ns builtinsNs mb) (hbb : ∀ x : Str, x ≠ "__name__" → mb x = bootBuiltins x) (hlim : s₁.heap.NoLimit) (hg : s₁.gens = #[])
    (hbm : ∃ bm ob, mg "__builtins__" = some (.ref bm) ∧ bm ≠ builtinsNs ∧ s₁.heap.get? bm = some ob ∧ ob.cls = .type "module" ∧ ob.dict = some builtinsNs ∧ ob.data = .plain)
    (hT : ∀ t ∈ tabL K, PySem.W.CodeHd s₁.heap t.2.1 t.2.2 ∧ s₁.heap.get? t.2.2 = some (PySem.W.tabObj #[])) (nt : PySem.W.noTabs K = true) (nd : ndB ((tabL K).map fun t => t.2.2) = true)
    (ha : s₁.heap.get? a = some { cls := .type "list", data := .seq vs.toArray }) (hi : IntsAre vs ns) (hl : ns.length ≤ sizeLine) (hr : Room k callerA)
    (F : ∀ base : Heap, FnOk P w K mg base CX k fa fd [x] sp) (hbind : ∀ (s : Shared) (u : Value), BindsTo s fd ⟨[u], []⟩ [(x, u)])
    (hsp : ∀ H : Hp, SqL K H a (ns.map V.int) → sp [.ref a] H (fun v _ => v = .bl true) fun _ _ _ => False)
    (hCX : ∀ H e s', CX [] H s₁ (fun _ _ _ => False) e s' → False) :
    codeAny (model P w) callerA (.call (.ref fa) ⟨[.ref a], []⟩) (fun r s' => r = .ok (.ret (.bool true)) ∧ OldK s₁.heap s'.heap ∧ s'.os = s₁.os ∧ AllBare s'.gens) s₁ := by
  have rv := vals_ints hi
  have lenV := hi.length
  have tabNot : ∀ b o, K.lookup b = some o → tabH K b = none := fun b o e => by
    cases q : tabH K b with
    | none => rfl
    | some u =>
      obtain ⟨t, ht, rfl, _⟩ := tabH_mem q
      have e1 := (hT t ht).2
      rw [KX _ _ e] at e1
      cases e1
      have h2 := List.all_eq_true.mp nt _ (PySem.W.mem_of_lookupK e)
      exact absurd (show false = true from h2) Bool.false_ne_true
  have tabA : tabH K a = none := by
    cases q : tabH K a with
    | none => rfl
    | some u =>
      obtain ⟨t, ht, e, _⟩ := tabH_mem q
      have e1 := (hT t ht).2
      rw [e, ha] at e1
      cases e1
  -- what is tracked: the script, where it is no object of the module, and the tables
  have core : ∀ H : Hp, (∀ b, b ≠ a → H b = tabH K b) → (H a = none ∨ (K.lookup a = none ∧ H a = some (.frz { cls := .type "list", data := .seq vs.toArray } (.lst (ns.map V.int))))) → SqL K H a (ns.map V.int) →
      codeAny (model P w) callerA (.call (.ref fa) ⟨[.ref a], []⟩) (fun r s' => r = .ok (.ret (.bool true)) ∧ OldK s₁.heap s'.heap ∧ s'.os = s₁.os ∧ AllBare s'.gens) s₁ := by
    intro H hH hA hS
    have what : ∀ b u, H b = some u → (b = a ∧ K.lookup a = none ∧ u = .frz { cls := .type "list", data := .seq vs.toArray } (.lst (ns.map V.int))) ∨ ∃ t ∈ tabL K, t.2.2 = b ∧ u = HO.tbl #[.str (t.1 ++ ".<locals>." ++ "<lambda>") 0] := fun b u e => by
      by_cases hb : b = a
      · subst hb
        rcases hA with z | ⟨z1, z2⟩
        · rw [z] at e; cases e
        · rw [z2] at e; cases e
          exact .inl ⟨rfl, z1, rfl⟩
      · rw [hH b hb] at e
        exact .inr (tabH_mem e)
    have hok : HOk P w H s₁.heap := fun b u e => by
      rcases what b u e with ⟨rfl, _, rfl⟩ | ⟨t, ht, rfl, rfl⟩
      · exact ⟨ha, by rw [List.length_map]; exact hl, vs, _, rv, ha⟩
      · exact ⟨#[], (hT t ht).2, trivial, fun pos cv q => by cases q⟩
    have tt : TabT K H := fun t ht => by
      refine ⟨#[.str (t.1 ++ ".<locals>." ++ "<lambda>") 0], ?_, rfl⟩
      have ne : t.2.2 ≠ a := fun z => by
        have e1 := (hT t ht).2
        rw [z, ha] at e1
        cases e1
      rw [hH _ ne]
      unfold tabH
      rw [find_nd (fun t : Str × Addr × Addr => t.2.2) nd ht]
      rfl
    have base_of : ∀ {b : Addr} {o : Obj}, s₁.heap.get? b = some o → H b = none → (hidT s₁.heap H).get? b = some o := fun e n => hidT_get e n
    have freeB : ∀ {b : Addr} {o : Obj}, s₁.heap.get? b = some o → o.cls ≠ .none → o.cls ≠ .type "list" → H b = none := fun {b o} e c1 c2 => by
      cases q : H b with
      | none => rfl
      | some u =>
        rcases what b u q with ⟨rfl, _, _⟩ | ⟨t, ht, rfl, _⟩
        · rw [ha] at e; cases e; exact absurd rfl c2
        · rw [(hT t ht).2] at e; cases e; exact absurd rfl c1
    have noD : ∀ {b : Addr} {o : Obj} {es : Array DictEntry} {ep : Nat}, s₁.heap.get? b = some o → o.data = .dict es ep → H b = none := fun {b o es ep} e d => by
      cases q : H b with
      | none => rfl
      | some u =>
        rcases what b u q with ⟨rfl, _, _⟩ | ⟨t, ht, rfl, _⟩
        · rw [ha] at e; cases e; cases d
        · rw [(hT t ht).2] at e; cases e; cases d
    have nsK : ∀ {b : Addr} {m : Str → Option Value}, s₁.heap.Ns b m → (hidT s₁.heap H).Ns b m := fun {b m} ⟨o, es, ep, e, d, r⟩ => ⟨o, es, ep, base_of e (noD e d), d, r⟩
    have hKb : K.In (hidT s₁.heap H) := fun b o e => base_of (KX b o e) (by
      cases q : H b with
      | none => rfl
      | some u =>
        by_cases hb : b = a
        · subst hb
          rcases hA with z | ⟨z1, _⟩
          · rw [z] at q; cases q
          · rw [e] at z1; cases z1
        · rw [hH b hb, tabNot b o e] at q; cases q)
    have hM : Mod K mg (hidT s₁.heap H) := ⟨hKb, nsK hns, ⟨mb, nsK hb, hbb⟩, let ⟨mc, h1, h2⟩ := hlim; ⟨mc, nsK h1, h2⟩,
      let ⟨bm, ob, b1, b2, b3, b4, b5, b6⟩ := hbm; ⟨bm, ob, b1, b2, base_of b3 (freeB b3 (by rw [b4]; nofun) (by rw [b4]; decide)), b4, b5, b6⟩⟩
    have e0 : Env0 P w K mg (hidT s₁.heap H) callerA [] s₁ H := ⟨rfl, hM, fun b o e => of_hidT e, Nat.le_of_eq (hidT_size _ _), trivial, fun b hb => absurd (show b ∈ ([] : List Addr) from hb) (by simp), tt, hok, .of_eq hg⟩
    refine codeAny_mono ((F _).run callerA [] s₁ H ⟨[.ref a], []⟩ [.ref a] [.ref a] _ _ hr e0 (hbind s₁ (.ref a)) (.cons rfl .nil) (hsp H hS)) fun r s' h => ?_
    cases r with
    | error e => exact (hCX H e s' h).elim
    | ok fl =>
      cases fl with
      | next => exact False.elim h
      | brk => exact False.elim h
      | cont => exact False.elim h
      | ret u =>
        obtain ⟨v, H', os, bare, un, hok', r', q⟩ := h
        have q' : v = .bl true := q
        subst q'
        obtain rfl : u = Value.bool true := r'
        refine ⟨rfl, ⟨fun b o e => ?_, fun b o e => un.there b o e (by simp)⟩, os, bare⟩
        cases q : H b with
        | none => exact .inl (un.keep b o e q (by intro z; exact absurd (show b ∈ ([] : List Addr) from z) (by simp)) (by simp))
        | some u =>
          rcases what b u q with ⟨rfl, _, rfl⟩ | ⟨t, ht, rfl, rfl⟩
          · have z2 := un.frzs _ _ _ q
            obtain ⟨e1, _⟩ := hok _ _ q
            obtain ⟨e2, _⟩ := hok' _ _ z2
            rw [e] at e1; cases e1
            exact .inl e2
          · obtain ⟨more, z2⟩ := un.tbls _ _ q
            obtain ⟨qs, e2, _⟩ := hok' _ _ z2
            have e1 := (hT t ht).2
            rw [e] at e1
            obtain rfl := Option.some.inj e1
            exact .inr (.inl ⟨((hT t ht).1.tab (hT t ht).2).isCodeTable, rfl, #[], qs, rfl, by rw [Array.empty_append]; exact e2⟩)
  cases hk : K.lookup a with
  | some o =>
    have e := KX a o hk
    rw [ha] at e
    cases e
    exact core (fun b => tabH K b) (fun _ _ => rfl) (.inl tabA) (.inr ⟨_, vs.toArray, _, hk, rfl, rfl, rfl, by rw [List.size_toArray, lenV]; exact hl, by simpa using rv⟩)
  | none =>
    refine core (fun b => if b = a then some (.frz { cls := .type "list", data := .seq vs.toArray } (.lst (ns.map V.int))) else tabH K b) (fun b hb => if_neg hb) (.inr ⟨hk, if_pos rfl⟩) (.inl (.inr ⟨_, if_pos rfl⟩))
/-- from the law's promise to the goal that k_head leaves -/
theorem walk_ofT {l : PySem.W.OpenLaw} {n k : Nat} {q : Program} {loose : List Str} {XP : (Str → Option Value) → Heap → Prop} {YP : World → Heap → Prop} {d : DefRec} {K : Params → PySem.W.Frag} {CX : CXT} {sp : PySem.W.Frag → Sp} {x : Str}
    (hn : l.most = some n) (hn2 : n ≤ sizeLine) (hdf : d.params.defaults = []) (hr : Room k callerA)
    (hY : ∀ (w : World) (h : Heap), YP w h → (K w.params).In h)
    (tabs : ∀ w : World, tabsOk (K w.params) ((recsOf q).map (·.name)) = true)
    (F : ∀ (w : World) (mg : Str → Option Value) (fa : Addr) (h : Heap), (K w.params).In h → h.Ns mainGlobals mg → mg d.name = some (.ref fa) →
      ∃ fd : FuncData, (∀ (s : Shared) (u : Value), BindsTo s fd ⟨[u], []⟩ [(x, u)]) ∧ ∀ base : Heap, FnOk l.prog w (K w.params) mg base CX k fa fd [x] (sp (K w.params)))
    (hsp : ∀ (K : PySem.W.Frag) (H : Hp) (a : Addr) (ns : List Int), ns.length ≤ n → Only H → SqL K H a (ns.map V.int) → sp K [.ref a] H (fun v _ => v = .bl true) fun _ _ _ => False)
    (hCX : ∀ (H : Hp) (s : Shared) (e : Value) (s' : Shared), CX [] H s (fun _ _ _ => False) e s' → False) :
    PySem.W.WalkO q loose XP YP l.row.toRowW d [] (fun f vs => PySem.call f vs) := by
  refine Att.attach_call hn hdf fun w s₀ s₁ mg mb fa o pm cd doc a vs ns G Y ho hd hcd hmg hobj hints hlen hg => ?_
  have KX := hY w _ Y
  have tb := tabs w
  unfold tabsOk at tb
  rw [Bool.and_eq_true, Bool.and_eq_true] at tb
  obtain ⟨⟨t1, t2⟩, t3⟩ := tb
  obtain ⟨fd, hb, hF⟩ := F w mg fa _ KX G.T.g hmg
  refine law_callT KX G.T.g G.T.b G.T.builtins G.T.nolimit hg G.T.bmain (fun t ht => ?_) t1 t2 hobj hints (Nat.le_trans hlen hn2) hr hF hb (fun H hS => hsp _ H a ns hlen trivial hS) fun H e s' => hCX H s₁ e s'
  have hc := List.all_eq_true.mp t3 t ht
  have hm : t.1 ∈ (recsOf q).map (·.name) := by simpa using hc
  obtain ⟨r, hr1, hr2⟩ := List.mem_map.mp hm
  cases z : (recsOf q).find? (fun e => e.name == t.1) with
  | none =>
    have := List.find?_eq_none.mp z r hr1
    rw [hr2] at this
    simp at this
  | some d' => exact PySem.W.tab_of G.T KX z (tabL_in ht)
end L2

set_option Elab.async false
set_option linter.all false
set_option autoImplicit false
set_option maxRecDepth 100000
set_option maxHeartbeats 1000000
namespace L2
open PySem PySem.Spec PySem.Calls PyProof.Rows
open AutoSeq1 (wpAny_loadPart')
/-! ### enumerate over a tuple or a list -/
section
variable {prog : Program} {w : World} {A : Around} {E : Value → Shared → Prop} {S : Shared}
theorem nextT_item {j t : Addr} {k : Nat} {its : Array Value} {v : Value} {Q : Value → Shared → Prop} (hj : S.heap.IsTupleIter j t k) (ht : S.heap.IsTuple t its) (hv : its[k]? = some v)
    (hQ : ∀ h1, h1.IsTupleIter j t (k + 1) → Heap.SameBut j S.heap h1 → Q v { S with heap := h1 }) : wpAny (model prog w) A (Builtin.SmallTypes.nextOf (.ref j)) Q E S := by
  obtain ⟨oj, hoj, hcj, hdj⟩ := id hj
  obtain ⟨ot, hot, _, nt, hdt⟩ := ht
  unfold Builtin.SmallTypes.nextOf
  refine wpAny_bind (wpAny_callSpecial?_slot (name := Str.ofString "__next__") hj.typeIs F.slot_tuple_iterator_next (wpAny_call_entry F.slot_tuple_iterator_next hj.typeIs F.entry_tuple_iterator_next ?_ (F.args_tuple_iterator_next_1 _)))
  show wpAny _ _ (field (.ref j) 0 >>= _) _ _ S
  refine wpAny_bind (wpAny_field hoj hdj (x := .ref t) rfl ?_)
  show wpAny _ _ (if (Value.ref t == Value.none) = true then _ else _) _ _ S
  rw [if_neg (show ¬ (Value.ref t == Value.none) = true by intro z; cases z)]
  show wpAny _ _ (field (.ref j) 1 >>= _) _ _ S
  refine wpAny_bind (wpAny_field hoj hdj (x := .int k 0) rfl ?_)
  show wpAny _ _ (seqItems? (.ref t) >>= _) _ _ S
  refine wpAny_bind (wpAny_seqItems hot hdt ?_)
  simp only [Int.toNat_natCast, hv]
  refine wpAny_bind (wpAny_setField hoj hdj (by simp) (wpAny_pure ⟨v, rfl, wpAny_pure (hQ _ ?_ (Heap.SameBut.update ..))⟩))
  refine ⟨_, Heap.get?_update_self _ hoj (Obj.isFreed_of_fields (Obj.data_mapFields hdj _)), (Obj.cls_mapFields ..).trans hcj, ?_⟩
  rw [Obj.data_mapFields hdj]
  simp [rawInt]
theorem nextT_end {j t : Addr} {k : Nat} {its : Array Value} {Q : Value → Shared → Prop} (hh : A.handled = none) (hj : S.heap.IsTupleIter j t k) (ht : S.heap.IsTuple t its) (hv : its[k]? = none)
    (hE : ∀ h1 e, Heap.ExtBut j S.heap h1 → (∃ o, h1.get? e = some o ∧ o.cls = .type "StopIteration") → E (.ref e) { S with heap := h1 }) : wpAny (model prog w) A (Builtin.SmallTypes.nextOf (.ref j)) Q E S := by
  obtain ⟨oj, hoj, hcj, hdj⟩ := id hj
  obtain ⟨ot, hot, _, nt, hdt⟩ := ht
  unfold Builtin.SmallTypes.nextOf
  refine wpAny_bind (wpAny_callSpecial?_slot (name := Str.ofString "__next__") hj.typeIs F.slot_tuple_iterator_next (wpAny_call_entry F.slot_tuple_iterator_next hj.typeIs F.entry_tuple_iterator_next ?_ (F.args_tuple_iterator_next_1 _)))
  show wpAny _ _ (field (.ref j) 0 >>= _) _ _ S
  refine wpAny_bind (wpAny_field hoj hdj (x := .ref t) rfl ?_)
  show wpAny _ _ (if (Value.ref t == Value.none) = true then _ else _) _ _ S
  rw [if_neg (show ¬ (Value.ref t == Value.none) = true by intro z; cases z)]
  show wpAny _ _ (field (.ref j) 1 >>= _) _ _ S
  refine wpAny_bind (wpAny_field hoj hdj (x := .int k 0) rfl ?_)
  show wpAny _ _ (seqItems? (.ref t) >>= _) _ _ S
  refine wpAny_bind (wpAny_seqItems hot hdt ?_)
  simp only [Int.toNat_natCast, hv]
  refine wpAny_bind (wpAny_rule (wpAny_bind (wpAny_setField hoj hdj (by simp) ?_)))
  show wpAny _ _ (newExc (Value.type "StopIteration") [] >>= _) _ _ _
  refine wpAny_bind ?_
  simp only [newTuple, newExc]
  refine wpAny_bind (wpAny_newObj_type ?_ (by size_fits))
  refine wpAny_bind (m := firstArgMember _ _) (wpAny_of_eq (a := Value.none) (by first | rfl | (unfold firstArgMember; rfl)) ?_)
  refine wpAny_newObj_type ?_ (hd := by size_fits)
  unfold raiseNew
  refine wpAny_bind (wpAny_handled ?_)
  first | rw [show A.in1.handled = none from hh] | rw [hh]
  refine wpAny_bind (wpAny_pure (wpAny_throw (hE _ _ ?_ ⟨_, Heap.get?_push_size _ rfl, rfl⟩)))
  exact ((Heap.SameBut.update ..).extBut.push _).push _
theorem drawsT (hh : A.handled = none) (j t : Addr) (hne : t ≠ j) (its : Array Value) :
    Draws prog w A j [j, t] its.size (fun k v => its[k]? = some v) (fun k h => h.IsTupleIter j t k ∧ h.IsTuple t its) where
  live := fun _ _ x => let ⟨o, ho, _⟩ := x.1; ⟨o, ho⟩
  frame := fun _ _ _ x kk => ⟨x.1.at fun o e => kk j (by simp) o e, let ⟨o, e, r⟩ := x.2; ⟨o, kk t (by simp) o e, r⟩⟩
  item := fun k S Q E hk x hQ => nextT_item x.1 x.2 (v := its[k]) (by simp [hk]) fun h1 y sb => hQ _ h1 S.toks (by simp [hk]) ⟨y, let ⟨o, e, r⟩ := x.2; ⟨o, (sb.2 t hne).trans e, r⟩⟩ sb
  done := fun S Q E x hE => nextT_end hh x.1 x.2 (by simp) hE
set_option maxHeartbeats 2000000 in
theorem enumT_new (t : Addr) (its : Array Value) :
    Meets (Builtin.«enumerate.__new__» ⟨[.type "enumerate", .ref t], []⟩) (fun _ R S => S.heap.IsTuple t its ∧
      R (.ok (.ret (.ref (S.heap.push { cls := .type "tuple_iterator", data := .fields #[.ref t, .int 0 0] }).objs.size)))
        { S with heap := (S.heap.push { cls := .type "tuple_iterator", data := .fields #[.ref t, .int 0 0] }).push { cls := .type "enumerate", data := .fields #[.none, .bool false, .ref S.heap.objs.size, rawInt 0, .none, .none] } }) :=
  .of_wp fun prog w A R S h => by
    obtain ⟨hp, g, d, tk, os⟩ := S
    obtain ⟨⟨ot, hot, hct, nt, hdt⟩, h⟩ := h
    have hsub := sub_enumerate
    have hTT : Heap.IsTuple (Shared.heap ⟨hp, g, d, tk, os⟩) t its := ⟨ot, hot, hct, nt, hdt⟩
    obtain ⟨c, dd, dt, sl⟩ := ot
    replace hct : c = .type "tuple" := hct
    replace hdt : dt = .seq its nt := hdt
    subst hct hdt
    wp_walk using wpAny_loadPart' hot
    refine wpAny_stack_any fun st => wpAny_pure ?_
    split
    · rename_i c _ _ _ _ _
      cases (c == Value.type "enumerate") <;> (wp_walk using wpAny_loadPart' hot, wpAny_pyIter_tuple hTT; exact ⟨_, rfl, h⟩)
    · wp_walk using wpAny_loadPart' hot, wpAny_pyIter_tuple hTT
      exact ⟨_, rfl, h⟩
theorem call_enumT {t : Addr} {its : Array Value} {Q : Value → Shared → Prop} (hT : S.heap.IsTuple t its)
    (h : ∀ h1, IsEnum h1 (S.heap.objs.size + 1) S.heap.objs.size 0 .none → h1.IsTupleIter S.heap.objs.size t 0 → h1.objs.size = S.heap.objs.size + 2 → (∀ b o, S.heap.get? b = some o → h1.get? b = some o) → Q (.ref (S.heap.objs.size + 1)) { S with heap := h1 }) :
    wpAny (model prog w) A (call (.type "enumerate") [.ref t]) Q E S := by
  refine callType_new F.called_enumerate (by decide) (F.typeCall_enumerate_1 _) (F.newCall_enumerate_1 _) (fun obj => F.args_object_init_2 obj _) F.entry_enumerate_new (enumT_new t its) ⟨hT, ?_⟩
  have hz : (S.heap.push { cls := .type "tuple_iterator", data := .fields #[.ref t, .int 0 0] }).objs.size = S.heap.objs.size + 1 := Heap.size_push ..
  show _ ∧ _
  have he := Heap.get?_push_size (S.heap.push { cls := .type "tuple_iterator", data := .fields #[.ref t, .int 0 0] }) (o := { cls := .type "enumerate", data := .fields #[.none, .bool false, .ref S.heap.objs.size, rawInt 0, .none, .none] }) rfl
  rw [hz] at he ⊢
  exact ⟨⟨_, he, rfl⟩, h _ he ⟨_, Heap.get?_push_of_some _ (Heap.get?_push_size _ rfl), rfl, rfl⟩ (by rw [Heap.size_push, hz]) fun b o y => Heap.get?_push_of_some _ (Heap.get?_push_of_some _ y)⟩
end

/-- records of an iterator have turned, a new thing is tracked -/
theorem Inv.turnNew {X : Cx} {pins : List (Addr × Obj)} {σ : St} {H : Hp} {s : Shared} {h' : Heap} {tk : Nat} {ch : List Addr} {T : Addr} {o : HO} (I : Inv X pins σ H s) (hch : ∀ b ∈ ch, FpOk X pins H b)
    (k : ∀ b ob, b ∉ ch → s.heap.get? b = some ob → h'.get? b = some ob) (hT : s.heap.objs.size ≤ T) (new : ObjOk X.prog X.w (upd H T o) h' T o) : Inv X pins σ (upd H T o) { s with heap := h', toks := tk } := by
  have hn := I.hok.fresh hT
  have nc : ∀ b u, H b = some u → b ∉ ch := fun b u e hb => by rw [(hch b hb).1] at e; cases e
  have nT : ∀ b u, H b = some u → b ≠ T := fun b u e => ne_of_none e hn
  have lT : ∀ b ob, s.heap.get? b = some ob → b ≠ T := fun b ob e => Nat.ne_of_lt (Nat.lt_of_lt_of_le (Heap.lt_size e) hT)
  refine I.step (g' := s.gens) (d' := s.drawn) (ch := ch) (fun b hb => ?_) (fun b ob _ _ hc e _ => k b ob hc e) (fun b ob _ _ hc e _ => ⟨ob.slots, k b ob hc e⟩) (fun b ob _ e n => by rw [upd_ne (lT b ob e)]; exact n)
    (fun b ob hc e => ⟨ob, k b ob hc e⟩) (fun b xs e => by rw [upd_ne (nT b _ e)]; exact e) (fun b ob u e => by rw [upd_ne (nT b _ e)]; exact e) (fun b ps e => ⟨#[], by rw [upd_ne (nT b _ e), e]; simp⟩) (fun m hm => ?_) (fun b u e => ?_) I.bare
  · obtain ⟨f0, f1, f2, f3, f4, f5⟩ := hch b hb
    exact ⟨f3, f1, f4, f5⟩
  · obtain ⟨ob, es, ep, ho, r⟩ := hm
    exact ⟨ob, es, ep, k _ ob (fun z => (hch _ z).2.1 rfl) ho, r⟩
  · by_cases hb : b = T
    · subst hb; rw [upd_same] at e; cases e; exact new
    · rw [upd_ne hb] at e
      refine (I.hok b u e).stay (fun c v hc q => k c v ?_ q) (fun c q => by rw [upd_ne (nT c _ q)]; exact q) (fun c xs q => by rw [upd_ne (nT c _ q)]; exact q) fun c ob u' q => by rw [upd_ne (nT c _ q)]; exact q
      rcases hc with rfl | hc
      · exact nc _ _ e
      · exact nc _ _ hc
/-- .. and nothing is new -/
theorem Inv.turnAll {X : Cx} {pins : List (Addr × Obj)} {σ : St} {H : Hp} {s : Shared} {h' : Heap} {tk : Nat} {ch : List Addr} (I : Inv X pins σ H s) (hch : ∀ b ∈ ch, FpOk X pins H b)
    (k : ∀ b ob, b ∉ ch → s.heap.get? b = some ob → h'.get? b = some ob) : Inv X pins σ H { s with heap := h', toks := tk } := by
  have nc : ∀ b u, H b = some u → b ∉ ch := fun b u e hb => by rw [(hch b hb).1] at e; cases e
  refine I.step (g' := s.gens) (d' := s.drawn) (ch := ch) (fun b hb => ?_) (fun b ob _ _ hc e _ => k b ob hc e) (fun b ob _ _ hc e _ => ⟨ob.slots, k b ob hc e⟩) (fun b ob _ e n => n)
    (fun b ob hc e => ⟨ob, k b ob hc e⟩) (fun b xs e => e) (fun b ob u e => e) (fun b ps e => ⟨#[], by rw [e]; simp⟩) (fun m hm => ?_) (fun b u e => ?_) I.bare
  · obtain ⟨f0, f1, f2, f3, f4, f5⟩ := hch b hb
    exact ⟨f3, f1, f4, f5⟩
  · obtain ⟨ob, es, ep, ho, r⟩ := hm
    exact ⟨ob, es, ep, k _ ob (fun z => (hch _ z).2.1 rfl) ho, r⟩
  · refine (I.hok b u e).stay (fun c v hc q => k c v ?_ q) (fun c q => q) (fun c xs q => q) fun c ob u' q => q
    rcases hc with rfl | hc
    · exact nc _ _ e
    · exact nc _ _ hc
end L2

set_option Elab.async false
set_option linter.all false
set_option autoImplicit false
set_option maxRecDepth 100000
set_option maxHeartbeats 1000000
namespace L2
open PySem PySem.Spec PySem.Calls PyProof.Rows
/-- the pairs (place, item) of the tuple at a, each in a tuple of its own -/
def Ent (K : PySem.W.Frag) (a : Addr) : It :=
  ⟨fun i H => ∃ xs x, SqT K H a xs ∧ xs[i]? = some x, fun i H v H' => ∃ T x, H T = none ∧ v = .ref T ∧ H' = upd H T (.tup [.int i, x]) ∧ ∀ xs, SqT K H a xs → xs[i]? = some x, fun i H => ∃ xs, SqT K H a xs ∧ xs.length = i⟩
def Enl (K : PySem.W.Frag) (a : Addr) : It :=
  ⟨fun i H => ∃ xs x, SqL K H a xs ∧ xs[i]? = some x, fun i H v H' => ∃ T x, H T = none ∧ v = .ref T ∧ H' = upd H T (.tup [.int i, x]) ∧ ∀ xs, SqL K H a xs → xs[i]? = some x, fun i H => ∃ xs, SqL K H a xs ∧ xs.length = i⟩
theorem turn_enumT {P : Program} {w : World} {K : PySem.W.Frag} {elts : List Expr} {kk : Nat} {pp : Pos} (a e it : Addr) (hne : e ≠ it) :
    Turn P w K (.Tuple elts kk pp) (Ent K a) [e, it] e (fun i h => (∃ old, IsEnum h e it i old) ∧ h.IsTupleIter it a i) where
  mem := by simp
  obj := fun i h st b hb => by
    obtain ⟨⟨old, he⟩, o, ho, c, d⟩ := st
    rcases (by simpa using hb : b = e ∨ b = it) with rfl | rfl
    · exact ⟨_, he, fun v z => by cases z⟩
    · exact ⟨o, ho, fun v z => by rw [d] at z; cases z⟩
  keep := fun i h h' st k => by
    obtain ⟨⟨old, he⟩, hi⟩ := st
    exact ⟨⟨old, k e (by simp) _ he⟩, hi.at fun o q => k it (by simp) o q⟩
  item := by
    intro X hP hw hK hc i pins s σ H E I hf st hg
    subst hP hw hK
    obtain ⟨xs, x, hq, hx⟩ := hg
    obtain ⟨its, rv, p, hz⟩ := I.tuple hq
    obtain ⟨u, hu, ru⟩ := rv.get hx
    obtain ⟨⟨old, he⟩, hi⟩ := st
    have pT : s.heap.IsTuple a its.toArray := p
    have nai : a ≠ it := fun z => by
      obtain ⟨o1, e1, c1, _⟩ := hi
      obtain ⟨o2, e2, c2, _⟩ := pT
      rw [z, e1] at e2; cases e2; rw [c1] at c2; injection c2 with z2; exact absurd z2 (by decide)
    have nae : a ≠ e := fun z => by
      obtain ⟨o2, e2, c2, _⟩ := pT
      rw [z, he] at e2; cases e2; injection c2 with z2; exact absurd z2 (by decide)
    have hil : i < its.toArray.size := by
      have := (List.getElem?_eq_some_iff.mp hu).1
      simpa using this
    refine wpAny_pyNext_enum_itemD (drawsT (prog := X.prog) (w := X.w) (A := X.A.in1) (I.ok.hd hc) it a nai its.toArray) he ⟨hi, pT⟩ hil hne (by simp [hne, Ne.symm nae]) fun v h1 tk hv hout hst' hT hsz hk => ?_
    have hvu : v = u := by
      have : its.toArray[i]? = some u := by simpa using hu
      rw [this] at hv; exact (Option.some.inj hv).symm
    subst hvu
    refine ⟨_, rfl, wpAny_letOwnedTupleGo_enum hout fun h2 he2 sb2 => ?_⟩
    have hes : e < s.heap.objs.size := Heap.lt_size he
    have his : it < s.heap.objs.size := by obtain ⟨_, e1, _⟩ := hi; exact Heap.lt_size e1
    have hT2 : h2.get? s.heap.objs.size = some { cls := .type "tuple", data := .seq #[.int i tk, v] } := (sb2.2 _ (Nat.ne_of_gt hes)).trans hT
    have k2 : ∀ b ob, b ∉ [e, it] → s.heap.get? b = some ob → h2.get? b = some ob := fun b ob hb q => by
      have h1' : b ≠ e := fun z => hb (by simp [z])
      exact (sb2.2 b h1').trans (hk b ob h1' (fun z => hb (by simp [z])) q)
    have i2 : h2.IsTupleIter it a (i + 1) := hst'.1.at fun o q => (sb2.2 it (Ne.symm hne)).trans q
    have J := I.turnNew (h' := h2) (tk := tk + 1) (ch := [e, it]) (T := s.heap.objs.size) (o := .tup [.int i, x]) hf k2 (Nat.le_refl _) ⟨(show 2 ≤ sizeLine by decide), [.int i tk, v], .cons ⟨tk, rfl⟩ (.cons ru .nil), ⟨_, hT2, rfl, _, rfl⟩⟩
    refine ⟨.ref s.heap.objs.size, _, J, rfl, ⟨_, x, I.hok.fresh (Nat.le_refl _), rfl, rfl, fun ys hy => by rw [I.tuple_inj hy hq]; exact hx⟩, ⟨⟨_, by simpa using he2⟩, i2⟩, fun b hb => ?_⟩
    have hlt : b < s.heap.objs.size := by
      rcases (by simpa using hb : b = e ∨ b = it) with rfl | rfl
      · exact hes
      · exact his
    rw [upd_ne (Nat.ne_of_lt hlt)]
    exact (hf b hb).1
  done := by
    intro X hP hw hK hc i pins s σ H E I hf st hg
    subst hP hw hK
    obtain ⟨xs, hq, hx⟩ := hg
    obtain ⟨its, rv, p, hz⟩ := I.tuple hq
    obtain ⟨⟨old, he⟩, hi⟩ := st
    have pT : s.heap.IsTuple a its.toArray := p
    have nai : a ≠ it := fun z => by
      obtain ⟨o1, e1, c1, _⟩ := hi
      obtain ⟨o2, e2, c2, _⟩ := pT
      rw [z, e1] at e2; cases e2; rw [c1] at c2; injection c2 with z2; exact absurd z2 (by decide)
    have hsz : i = its.toArray.size := by
      have := rv.length
      simp; omega
    refine wpAny_pyNext_enum_endD (drawsT (prog := X.prog) (w := X.w) (A := X.A.in1) (I.ok.hd hc) it a nai its.toArray) he ⟨by rw [← hsz]; exact hi, pT⟩ fun h1 eb => ⟨rfl, ?_⟩
    obtain ⟨f0, f1, f2, f3, f4, f5⟩ := hf it (by simp)
    exact I.turned (t' := s.toks) (fun b o hb q => eb b o hb q) f0 f1 f3 f4 f5
  self := fun A i s Q E st h => by
    obtain ⟨⟨old, he⟩, _⟩ := st
    exact wpAny_pyIter_enum he h
def iEnumT (K : PySem.W.Frag) (ta : TA) : TI := fun σ H R => ta σ H fun vs H1 => ∃ a, vs = [.ref a] ∧ (∃ xs, SqT K H1 a xs) ∧ R (Ent K a) H1
theorem boot_enum : bootBuiltins "enumerate" = some (.type "enumerate") := by kernel_rfl
section
variable {X : Cx}
theorem pi_enumT {a : Expr} {p pos pp : Pos} {elts : List Expr} {kk : Nat} {ta : TA} (hg : Gl X "enumerate") (hm : X.mg "enumerate" = none) (ha : PA X [a] ta)
    (hs : starEach [a] X.env = [(false, eval a X.env)] := by rfl) : PI X (.Tuple elts kk pp) (.Call (.Name "enumerate" p) [a] [] pos) (iEnumT X.K ta) := by
  intro pins s σ H R I h
  refine Call_ (ld_blt I hg hm boot_enum (PyProof.Rows.callWith_type1 (thn (ha pos pins s σ H _ I h) fun us s1 ⟨vs, H1, I1, r1, q1⟩ => ?_) hs rfl))
  obtain ⟨l, e, ⟨xs, hq⟩, q⟩ := q1
  subst e
  obtain ⟨u, rfl, ru⟩ := vals1 r1
  cases ru
  obtain ⟨its, rv, p', hz⟩ := I1.tuple hq
  refine call_enumT (show s1.heap.IsTuple l its.toArray from p') fun h1 he hi hsz hk => ?_
  refine wpAny_pyIter_enum he ⟨_, [s1.heap.objs.size + 1, s1.heap.objs.size], _, _, H1, rfl, I1.kept (t' := s1.toks) hk, turn_enumT l _ _ (Nat.succ_ne_self _), ⟨⟨_, he⟩, hi⟩, fun b hb => ?_, q⟩
  rcases (by simpa using hb : b = s1.heap.objs.size + 1 ∨ b = s1.heap.objs.size) with rfl | rfl
  · exact I1.fpOk (Nat.le_succ _) (I1.hok.fresh (Nat.le_succ _))
  · exact I1.fpOk (Nat.le_refl _) (I1.hok.fresh (Nat.le_refl _))
end
def iEnumL (K : PySem.W.Frag) (ta : TA) : TI := fun σ H R => ta σ H fun vs H1 => ∃ a, vs = [.ref a] ∧ (∃ xs, SqL K H1 a xs) ∧ R (Enl K a) H1
section
variable {X : Cx}
end
end L2

set_option Elab.async false
set_option linter.all false
set_option autoImplicit false
set_option maxRecDepth 100000
set_option maxHeartbeats 1000000
namespace L2
open PySem PySem.Spec PySem.Calls PyProof.Rows
/-! ### zip of two: tuples or lists -/
/-- an iterator at j over what stands at q -/
structure Src (prog : Program) (w : World) (A : Around) (j q : Addr) (its : Array Value) (It1 : Nat → Heap → Prop) (Sq1 : Heap → Prop) : Prop where
  item : ∀ (n : Nat) (v : Value) (S : Shared) (Q : Value → Shared → Prop) (E : Value → Shared → Prop), It1 n S.heap → Sq1 S.heap → its[n]? = some v → (∀ h1, It1 (n + 1) h1 → Heap.SameBut j S.heap h1 → Q v { S with heap := h1 }) → wpAny (model prog w) A (Builtin.SmallTypes.nextOf (.ref j)) Q E S
  stop : ∀ (n : Nat) (S : Shared) (Q : Value → Shared → Prop) (E : Value → Shared → Prop), It1 n S.heap → Sq1 S.heap → its[n]? = none → (∀ h1 e, Heap.ExtBut j S.heap h1 → (∃ o, h1.get? e = some o ∧ o.cls = .type "StopIteration") → E (.ref e) { S with heap := h1 }) → wpAny (model prog w) A (Builtin.SmallTypes.nextOf (.ref j)) Q E S
  mv : ∀ (n : Nat) (h h1 : Heap), It1 n h → (∀ o, h.get? j = some o → h1.get? j = some o) → It1 n h1
  sv : ∀ (h h1 : Heap), Sq1 h → (∀ o, h.get? q = some o → h1.get? q = some o) → Sq1 h1
  live : ∀ (n : Nat) (h : Heap), It1 n h → ∃ o vs, h.get? j = some o ∧ o.data = .fields vs
theorem srcT {prog : Program} {w : World} {A : Around} (hh : A.handled = none) (j q : Addr) (its : Array Value) : Src prog w A j q its (fun n h => h.IsTupleIter j q n) (fun h => h.IsTuple q its) :=
  ⟨fun n v S Q E a b c d => nextT_item a b c d, fun n S Q E a b c d => nextT_end hh a b c d, fun n h h1 a k => a.at k, fun h h1 a k => let ⟨o, e, r⟩ := a; ⟨o, k o e, r⟩, fun n h a => let ⟨o, e, _, d⟩ := a; ⟨o, _, e, d⟩⟩
theorem srcL {prog : Program} {w : World} {A : Around} (hh : A.handled = none) (j q : Addr) (its : Array Value) : Src prog w A j q its (fun n h => h.IsListIter j q n) (fun h => h.IsList q its) :=
  ⟨fun n v S Q E a b c d => wpAny_nextOf_list_item a b c d, fun n S Q E a b c d => wpAny_nextOf_list_end hh a b c d, fun n h h1 a k => a.at k, fun h h1 a k => let ⟨o, e, r⟩ := a; ⟨o, k o e, r⟩, fun n h a => let ⟨o, e, _, d⟩ := a; ⟨o, _, e, d⟩⟩
section
variable {prog : Program} {w : World} {A : Around} {E : Value → Shared → Prop} {S : Shared} {z u o i j p q : Addr} {m n : Nat} {xs ys : Array Value} {x y a b : Value} {Ii Ij : Nat → Heap → Prop} {Sp Sq : Heap → Prop}
theorem zipG_item {Q : Value → Shared → Prop} (D : ZipApart z u o i j p q) (Gi : Src prog w A i p xs Ii Sp) (Gj : Src prog w A j q ys Ij Sq) (hz : IsZip S.heap z u o .none) (hu : IsPair S.heap u (.ref i) (.ref j)) (ho : IsPair S.heap o a b)
    (hi : Ii m S.heap) (hj : Ij n S.heap) (hp : Sp S.heap) (hq : Sq S.heap) (hx : xs[m]? = some x) (hy : ys[n]? = some y)
    (hQ : ∀ h1, IsZip h1 z u o (rawInt S.heap.objs.size) → IsPair h1 o x y → Ii (m + 1) h1 → Ij (n + 1) h1 → IsPair h1 S.heap.objs.size x y → (∀ c ob, c ≠ z → c ≠ o → c ≠ i → c ≠ j → S.heap.get? c = some ob → h1.get? c = some ob) → Q (.ref S.heap.objs.size) { S with heap := h1 }) :
    wpAny (model prog w) A (Builtin.«zip.__next__» ⟨[.ref z], []⟩) (fun fin s1 => ∃ v, fin = .done (.ret v) ∧ Q v s1) E S := by
  show wpAny _ _ (field (.ref z) 2 >>= _) _ _ S
  refine wpAny_bind (wpAny_field hz (x := .bool false) rfl rfl ?_)
  show wpAny _ _ (field (.ref z) 3 >>= _) _ _ S
  refine wpAny_bind (wpAny_field hz (x := .ref u) rfl rfl ?_)
  refine wpAny_bind (wpAny_seqItems hu rfl ?_)
  show wpAny _ _ (Builtin.SmallTypes.ownedTupleIsFree (.ref z) >>= _) _ _ S
  refine wpAny_bind ?_
  unfold Builtin.SmallTypes.ownedTupleIsFree
  refine wpAny_bind (wpAny_field hz (x := .none) rfl rfl (wpAny_pure ?_))
  simp only [if_true]
  refine wpAny_bind (wpAny_rule (wpAny_bind (wpAny_field hz (x := .ref o) rfl rfl ?_)))
  refine wpAny_bind (wpAny_setField_rec hz (by simp) fun k1 z1 b1 => ?_)
  replace z1 : IsZip k1 z u o .ellipsis := z1
  refine wpAny_bind ?_
  simp only [List.zipIdx_cons, List.forIn_cons, List.zipIdx_nil, List.forIn_nil]
  refine wpAny_bind (wpAny_bind (wpAny_onRaise ?_))
  show wpAny _ _ (Builtin.SmallTypes.nextOf (.ref i) >>= _) _ _ _
  refine wpAny_bind (Gi.item m x _ _ _ (Gi.mv _ _ _ hi fun ob e => b1.extBut _ _ D.i1z e) (Gi.sv _ _ hp fun ob e => b1.extBut _ _ D.l1z e) hx fun k2 i2 b2 => wpAny_pure ?_)
  have o2 : IsPair k2 o a b := b2.extBut _ _ D.TOi1 (b1.extBut _ _ D.TOz ho)
  refine wpAny_bind (wpAny_seqItems o2 rfl ?_)
  refine wpAny_bind (wpAny_updateSeq_pair o2 fun k3 o3 b3 => ?_)
  replace o3 : IsPair k3 o x b := o3
  refine wpAny_bind (wpAny_letGo (wpAny_pure ?_))
  refine wpAny_bind (wpAny_bind (wpAny_onRaise ?_))
  show wpAny _ _ (Builtin.SmallTypes.nextOf (.ref j) >>= _) _ _ _
  refine wpAny_bind (Gj.item n y _ _ _ (Gj.mv _ _ _ hj fun ob e => b3.extBut _ _ D.TOi2.symm (b2.extBut _ _ D.i12.symm (b1.extBut _ _ D.i2z e))) (Gj.sv _ _ hq fun ob e => b3.extBut _ _ D.l2TO (b2.extBut _ _ D.l2i1 (b1.extBut _ _ D.l2z e))) hy fun k4 j4 b4 => wpAny_pure ?_)
  have o4 : IsPair k4 o x b := b4.extBut _ _ D.TOi2 o3
  refine wpAny_bind (wpAny_seqItems o4 rfl ?_)
  refine wpAny_bind (wpAny_updateSeq_pair o4 fun k5 o5 b5 => ?_)
  replace o5 : IsPair k5 o x y := o5
  refine wpAny_bind (wpAny_letGo (wpAny_pure (wpAny_pure ?_)))
  refine wpAny_bind (wpAny_seqItems o5 rfl (wpAny_bind (wpAny_newTuple ?_)))
  have hsz : k5.objs.size = S.heap.objs.size := by rw [b5.1, b4.1, b3.1, b2.1, b1.1]
  have z5 : IsZip k5 z u o .ellipsis := b5.extBut _ _ D.TOz.symm (b4.extBut _ _ D.i2z.symm (b3.extBut _ _ D.TOz.symm (b2.extBut _ _ D.i1z.symm z1)))
  have all5 : ∀ c ob, c ≠ z → c ≠ o → c ≠ i → c ≠ j → S.heap.get? c = some ob → k5.get? c = some ob := fun c ob c1 c2 c3 c4 e => b5.extBut _ _ c2 (b4.extBut _ _ c4 (b3.extBut _ _ c2 (b2.extBut _ _ c3 (b1.extBut _ _ c1 e))))
  have i5 : Ii (m + 1) k5 := Gi.mv _ _ _ i2 fun ob e => b5.extBut _ _ D.TOi1.symm (b4.extBut _ _ D.i12 (b3.extBut _ _ D.TOi1.symm e))
  have j5 : Ij (n + 1) k5 := Gj.mv _ _ _ j4 fun ob e => b5.extBut _ _ D.TOi2.symm e
  have zlt : z < k5.objs.size := Heap.lt_size z5
  show wpAny _ _ (Builtin.SmallTypes.ownedTupleHandOut (.ref z) (.ref k5.objs.size) >>= _) _ _ _
  refine wpAny_bind ?_
  unfold Builtin.SmallTypes.ownedTupleHandOut
  have z6 : IsZip (k5.push { cls := .type "tuple", data := .seq #[x, y] }) z u o .ellipsis := Heap.get?_push_of_some _ z5
  refine wpAny_bind (wpAny_setField_rec z6 (by simp) fun k7 z7 b7 => ?_)
  replace z7 : IsZip k7 z u o (rawInt k5.objs.size) := z7
  refine wpAny_setField_rec z7 (by simp) fun k8 z8 b8 => ?_
  replace z8 : IsZip k8 z u o (rawInt k5.objs.size) := z8
  have up : ∀ c ob, c ≠ z → k5.get? c = some ob → k8.get? c = some ob := fun c ob c1 e => b8.extBut _ _ c1 (b7.extBut _ _ c1 (Heap.get?_push_of_some _ e))
  have t8 : IsPair k8 k5.objs.size x y := b8.extBut _ _ (Nat.ne_of_gt zlt) (b7.extBut _ _ (Nat.ne_of_gt zlt) (Heap.get?_push_size _ rfl))
  rw [hsz] at z8 t8
  refine wpAny_pure ⟨_, rfl, ?_⟩
  show Q (.ref k5.objs.size) _
  rw [hsz]
  exact hQ k8 z8 (up _ _ D.TOz o5) (Gi.mv _ _ _ i5 fun ob e => up _ ob D.i1z e) (Gj.mv _ _ _ j5 fun ob e => up _ ob D.i2z e) t8 fun c ob c1 c2 c3 c4 e => up c ob c1 (all5 c ob c1 c2 c3 c4 e)
theorem zipG_end {Q : Fin → Shared → Prop} (D : ZipApart z u o i j p q) (Gi : Src prog w A i p xs Ii Sp) (Gj : Src prog w A j q ys Ij Sq) (hz : IsZip S.heap z u o .none) (hu : IsPair S.heap u (.ref i) (.ref j)) (ho : IsPair S.heap o a b)
    (hi : Ii m S.heap) (hj : Ij n S.heap) (hp : Sp S.heap) (hq : Sq S.heap) (he : xs[m]? = none ∨ ys[n]? = none)
    (hE : ∀ h1 e, (∀ c ob, c ≠ z → c ≠ o → c ≠ i → c ≠ j → S.heap.get? c = some ob → h1.get? c = some ob) → (∃ ob, h1.get? e = some ob ∧ ob.cls = .type "StopIteration") → E (.ref e) { S with heap := h1 }) :
    wpAny (model prog w) A (Builtin.«zip.__next__» ⟨[.ref z], []⟩) Q E S := by
  show wpAny _ _ (field (.ref z) 2 >>= _) _ _ S
  refine wpAny_bind (wpAny_field hz (x := .bool false) rfl rfl ?_)
  show wpAny _ _ (field (.ref z) 3 >>= _) _ _ S
  refine wpAny_bind (wpAny_field hz (x := .ref u) rfl rfl ?_)
  refine wpAny_bind (wpAny_seqItems hu rfl ?_)
  show wpAny _ _ (Builtin.SmallTypes.ownedTupleIsFree (.ref z) >>= _) _ _ S
  refine wpAny_bind ?_
  unfold Builtin.SmallTypes.ownedTupleIsFree
  refine wpAny_bind (wpAny_field hz (x := .none) rfl rfl (wpAny_pure ?_))
  simp only [if_true]
  refine wpAny_bind (wpAny_rule (wpAny_bind (wpAny_field hz (x := .ref o) rfl rfl ?_)))
  refine wpAny_bind (wpAny_setField_rec hz (by simp) fun k1 z1 b1 => ?_)
  replace z1 : IsZip k1 z u o .ellipsis := z1
  refine wpAny_bind ?_
  simp only [List.zipIdx_cons, List.forIn_cons, List.zipIdx_nil, List.forIn_nil]
  refine wpAny_bind (wpAny_bind (wpAny_onRaise ?_))
  show wpAny _ _ (Builtin.SmallTypes.nextOf (.ref i) >>= _) _ _ _
  have i1 := Gi.mv _ _ _ hi fun ob e => b1.extBut _ _ D.i1z e
  have p1 := Gi.sv _ _ hp fun ob e => b1.extBut _ _ D.l1z e
  cases hx : xs[m]? with
  | none =>
    refine wpAny_bind (Gi.stop m _ _ _ i1 p1 hx fun k2 e b2 x2 => ?_)
    obtain ⟨oe, eoe, ece⟩ := x2
    have z2 : IsZip k2 z u o .ellipsis := b2 _ _ D.i1z.symm z1
    have ez : e ≠ z := fun w1 => by subst w1; rw [z2] at eoe; cases eoe; simp at ece
    exact wpAny_setField_rec z2 (by simp) fun k3 _ b3 => hE k3 e (fun c ob c1 _ c3 _ e1 => b3.extBut _ _ c1 (b2 _ _ c3 (b1.extBut _ _ c1 e1))) ⟨oe, b3.extBut _ _ ez eoe, ece⟩
  | some x =>
    have hy : ys[n]? = none := he.resolve_left (by rw [hx]; simp)
    refine wpAny_bind (Gi.item m x _ _ _ i1 p1 hx fun k2 i2 b2 => wpAny_pure ?_)
    have o2 : IsPair k2 o a b := b2.extBut _ _ D.TOi1 (b1.extBut _ _ D.TOz ho)
    refine wpAny_bind (wpAny_seqItems o2 rfl ?_)
    refine wpAny_bind (wpAny_updateSeq_pair o2 fun k3 o3 b3 => ?_)
    refine wpAny_bind (wpAny_letGo (wpAny_pure ?_))
    refine wpAny_bind (wpAny_bind (wpAny_onRaise ?_))
    show wpAny _ _ (Builtin.SmallTypes.nextOf (.ref j) >>= _) _ _ _
    refine wpAny_bind (Gj.stop n _ _ _ (Gj.mv _ _ _ hj fun ob e => b3.extBut _ _ D.TOi2.symm (b2.extBut _ _ D.i12.symm (b1.extBut _ _ D.i2z e))) (Gj.sv _ _ hq fun ob e => b3.extBut _ _ D.l2TO (b2.extBut _ _ D.l2i1 (b1.extBut _ _ D.l2z e))) hy fun k4 e b4 x4 => ?_)
    obtain ⟨oe, eoe, ece⟩ := x4
    have z4 : IsZip k4 z u o .ellipsis := b4 _ _ D.i2z.symm (b3.extBut _ _ D.TOz.symm (b2.extBut _ _ D.i1z.symm z1))
    have ez : e ≠ z := fun w1 => by subst w1; rw [z4] at eoe; cases eoe; simp at ece
    exact wpAny_setField_rec z4 (by simp) fun k5 _ b5 => hE k5 e (fun c ob c1 c2 c3 c4 e1 => b5.extBut _ _ c1 (b4 _ _ c4 (b3.extBut _ _ c2 (b2.extBut _ _ c3 (b1.extBut _ _ c1 e1))))) ⟨oe, b5.extBut _ _ ez eoe, ece⟩
end
/-! ### the pairs of two, each in a tuple of its own -/
/-- f tells what stands at an address: a tuple's items, a list's -/
def Zp (Sa Sb : Hp → Addr → List V → Prop) (a b : Addr) : It :=
  ⟨fun i H => ∃ xs ys x y, Sa H a xs ∧ Sb H b ys ∧ xs[i]? = some x ∧ ys[i]? = some y, fun i H v H' => ∃ T x y, H T = none ∧ v = .ref T ∧ H' = upd H T (.tup [x, y]) ∧ ∀ xs ys, Sa H a xs → Sb H b ys → xs[i]? = some x ∧ ys[i]? = some y,
   fun i H => ∃ xs ys, Sa H a xs ∧ Sb H b ys ∧ min xs.length ys.length = i⟩
/-- what a walk over a kind of thing wants -/
structure Kd (cls : String) (Sa : PySem.W.Frag → Hp → Addr → List V → Prop) (Iti : Heap → Addr → Addr → Nat → Prop) (Is : Heap → Addr → Array Value → Prop) : Prop where
  got : ∀ {X : Cx} {pins : List (Addr × Obj)} {σ : St} {H : Hp} {s : Shared} {a : Addr} {xs : List V}, Inv X pins σ H s → Sa X.K H a xs → ∃ its : List Value, Vals xs its ∧ Is s.heap a its.toArray
  inj : ∀ {X : Cx} {pins : List (Addr × Obj)} {σ : St} {H : Hp} {s : Shared} {a : Addr} {xs ys : List V}, Inv X pins σ H s → Sa X.K H a xs → Sa X.K H a ys → xs = ys
  src : ∀ (prog : Program) (w : World) (A : Around) (j q : Addr) (its : Array Value), A.handled = none → Src prog w A j q its (fun n h => Iti h j q n) (fun h => Is h q its)
  seq : ∀ {h : Heap} {a : Addr} {its : Array Value}, Is h a its → ∃ o n, h.get? a = some o ∧ o.data = .seq its n
  ne : ∀ {X : Cx} {pins : List (Addr × Obj)} {σ : St} {H : Hp} {s : Shared} {a b : Addr} {xs : List V}, Inv X pins σ H s → Sa X.K H a xs → FpOk X pins H b → a ≠ b
  itr : ∀ {prog : Program} {w : World} {A : Around} {E : Value → Shared → Prop} {S : Shared} {a : Addr} {its : Array Value} {Q : Value → Shared → Prop}, Is S.heap a its → Q (.ref S.heap.objs.size) { S with heap := S.heap.push { cls := .type cls, data := .fields #[.ref a, .int 0 0] } } → wpAny (model prog w) A (pyIter (.ref a)) Q E S
  sv : ∀ {h h1 : Heap} {a : Addr} {its : Array Value}, Is h a its → (∀ ob, h.get? a = some ob → h1.get? a = some ob) → Is h1 a its
  new : ∀ {h : Heap} {j q : Addr}, h.get? j = some { cls := .type cls, data := .fields #[.ref q, .int 0 0] } → Iti h j q 0
theorem k_ne {X : Cx} {pins : List (Addr × Obj)} {σ : St} {H : Hp} {s : Shared} {a b : Addr} {ob : Obj} (I : Inv X pins σ H s) (e : X.K.lookup a = some ob) (f : FpOk X pins H b) : a ≠ b := fun z => by
  subst z
  have hb := I.ok.mod.kin a ob e
  rcases f.2.2.2.1 with h | h
  · exact I.ok.noex a ob hb h
  · exact absurd (Nat.lt_of_lt_of_le (Heap.lt_size hb) (Nat.le_trans I.ok.bsz h)) (Nat.lt_irrefl _)
theorem kdT : Kd "tuple_iterator" SqT (fun h j q n => h.IsTupleIter j q n) (fun h q its => h.IsTuple q its) where
  got := fun I h => let ⟨its, rv, p, _⟩ := I.tuple h; ⟨its, rv, p⟩
  inj := fun I h h' => I.tuple_inj h h'
  src := fun prog w A j q its hh => srcT hh j q its
  seq := fun x => let ⟨o, e, _, n, d⟩ := x; ⟨o, n, e, d⟩
  ne := fun I h f => by
    rcases h with (h | ⟨ob, h⟩) | ⟨ob, its, n, hk, _⟩
    · exact ne_of_none h f.1
    · exact ne_of_none h f.1
    · exact k_ne I hk f
  itr := fun h hQ => wpAny_pyIter_tuple h hQ
  sv := fun x k => let ⟨o, e, r⟩ := x; ⟨o, k o e, r⟩
  new := fun e => ⟨_, e, rfl, rfl⟩
theorem kdL : Kd "list_iterator" SqL (fun h j q n => h.IsListIter j q n) (fun h q its => h.IsList q its) where
  got := fun I h => let ⟨its, rv, p, _⟩ := I.list h; ⟨its, rv, p.isList⟩
  inj := fun I h h' => I.list_inj h h'
  src := fun prog w A j q its hh => srcL hh j q its
  seq := fun x => let ⟨o, e, _, n, d⟩ := x; ⟨o, n, e, d⟩
  ne := fun I h f => by
    rcases h with (h | ⟨ob, h⟩) | ⟨ob, its, n, hk, _⟩
    · exact ne_of_none h f.1
    · exact ne_of_none h f.1
    · exact k_ne I hk f
  itr := fun h hQ => wpAny_pyIter_list h hQ
  sv := fun x k => let ⟨o, e, r⟩ := x; ⟨o, k o e, r⟩
  new := fun e => ⟨_, e, rfl, rfl⟩
section
variable {c1 c2 : String} {Sa Sb : PySem.W.Frag → Hp → Addr → List V → Prop} {Ia Ib : Heap → Addr → Addr → Nat → Prop} {Isa Isb : Heap → Addr → Array Value → Prop}
theorem turn_zip {P : Program} {w : World} {K : PySem.W.Frag} {elts : List Expr} {kk : Nat} {pp : Pos} (k1 : Kd c1 Sa Ia Isa) (k2 : Kd c2 Sb Ib Isb) (a b z u o i j : Addr) (huz : u ≠ z) (hoz : o ≠ z) (hiz : i ≠ z) (hjz : j ≠ z) (huo : u ≠ o) (hui : u ≠ i) (huj : u ≠ j) (hoi : o ≠ i) (hoj : o ≠ j) (hij : i ≠ j) :
    Turn P w K (.Tuple elts kk pp) (Zp (Sa K) (Sb K) a b) [z, u, o, i, j] z (fun n h => IsZip h z u o .none ∧ IsPair h u (.ref i) (.ref j) ∧ (∃ x y, IsPair h o x y) ∧ Ia h i a n ∧ Ib h j b n) where
  mem := by simp
  obj := fun n h st c hc => by
    obtain ⟨h1, h2, ⟨x, y, h3⟩, h4, h5⟩ := st
    obtain ⟨o4, v4, e4, d4⟩ := (k1.src default w callerA i a #[] rfl).live _ _ h4
    obtain ⟨o5, v5, e5, d5⟩ := (k2.src default w callerA j b #[] rfl).live _ _ h5
    rcases (by simpa using hc : c = z ∨ c = u ∨ c = o ∨ c = i ∨ c = j) with rfl | rfl | rfl | rfl | rfl
    · exact ⟨_, h1, fun v q => by cases q⟩
    · exact ⟨_, h2, fun v q => by cases q⟩
    · exact ⟨_, h3, fun v q => by cases q⟩
    · exact ⟨_, e4, fun v q => by rw [d4] at q; cases q⟩
    · exact ⟨_, e5, fun v q => by rw [d5] at q; cases q⟩
  keep := fun n h h' st k => by
    obtain ⟨h1, h2, ⟨x, y, h3⟩, h4, h5⟩ := st
    exact ⟨k z (by simp) _ h1, k u (by simp) _ h2, ⟨x, y, k o (by simp) _ h3⟩, (k1.src default w callerA i a #[] rfl).mv _ _ _ h4 fun ob e => k i (by simp) ob e, (k2.src default w callerA j b #[] rfl).mv _ _ _ h5 fun ob e => k j (by simp) ob e⟩
  item := by
    intro X hP hw hK hc n pins s σ H E I hf st hg
    subst hP hw hK
    obtain ⟨xs, ys, x, y, ha, hb, hx, hy⟩ := hg
    obtain ⟨its, rv, pa⟩ := k1.got I ha
    obtain ⟨jts, rw', pb⟩ := k2.got I hb
    obtain ⟨vx, hvx, rx⟩ := rv.get hx
    obtain ⟨vy, hvy, ry⟩ := rw'.get hy
    obtain ⟨h1, h2, ⟨x0, y0, h3⟩, h4, h5⟩ := st
    have na := fun c (hc : c ∈ [z, u, o, i, j]) => k1.ne I ha (hf c hc)
    have nb := fun c (hc : c ∈ [z, u, o, i, j]) => k2.ne I hb (hf c hc)
    have D : ZipApart z u o i j a b := ⟨huz, hoz, hiz, hjz, huo, hui, huj, hoi, hoj, hij, na z (by simp), na o (by simp), na i (by simp), na j (by simp), nb z (by simp), nb o (by simp), nb i (by simp), nb j (by simp)⟩
    have hT : s.TypeIs (.ref z) "zip" := ⟨_, h1, rfl⟩
    unfold pyNext
    refine wpAny_bind (wpAny_attempt (wpAny_callSpecial?_slot (name := Str.ofString "__next__") hT F.slot_zip_next (wpAny_call_entry F.slot_zip_next hT F.entry_zip_next
      (zipG_item D (k1.src X.prog X.w _ i a its.toArray (I.ok.hd hc)) (k2.src X.prog X.w _ j b jts.toArray (I.ok.hd hc)) h1 h2 h3 h4 h5 pa pb (x := vx) (y := vy) (by simpa using hvx) (by simpa using hvy) fun q1 a1 a2 a3 a4 a5 a6 => wpAny_pure ?_) (F.args_zip_next_1 _))))
    refine ⟨_, rfl, wpAny_letOwnedTupleGo_zip a1 fun q2 b1 sb => ?_⟩
    have lt : ∀ {c ob}, s.heap.get? c = some ob → c < s.heap.objs.size := fun e => Heap.lt_size e
    have zl := lt h1
    have kp : ∀ c ob, c ∉ [z, u, o, i, j] → s.heap.get? c = some ob → q2.get? c = some ob := fun c ob hc' e => (sb.2 c fun w1 => hc' (by simp [w1])).trans (a6 c ob (fun w1 => hc' (by simp [w1])) (fun w1 => hc' (by simp [w1])) (fun w1 => hc' (by simp [w1])) (fun w1 => hc' (by simp [w1])) e)
    have hT2 : q2.get? s.heap.objs.size = some { cls := .type "tuple", data := .seq #[vx, vy] } := (sb.2 _ (Nat.ne_of_gt zl)).trans a5
    have J := I.turnNew (h' := q2) (tk := s.toks) (ch := [z, u, o, i, j]) (T := s.heap.objs.size) (o := .tup [x, y]) hf kp (Nat.le_refl _) ⟨(show 2 ≤ sizeLine by decide), [vx, vy], .cons rx (.cons ry .nil), ⟨_, hT2, rfl, _, rfl⟩⟩
    refine ⟨.ref s.heap.objs.size, _, J, rfl, ⟨_, x, y, I.hok.fresh (Nat.le_refl _), rfl, rfl, fun xs' ys' e1 e2 => ⟨by rw [k1.inj I e1 ha]; exact hx, by rw [k2.inj I e2 hb]; exact hy⟩⟩, ⟨b1, (sb.2 u huz).trans (a6 u _ huz huo hui huj h2), ⟨vx, vy, (sb.2 o hoz).trans a2⟩, ?_, ?_⟩, fun c hc' => ?_⟩
    · exact (k1.src default X.w callerA i a #[] rfl).mv _ _ _ a3 fun ob e => (sb.2 i hiz).trans e
    · exact (k2.src default X.w callerA j b #[] rfl).mv _ _ _ a4 fun ob e => (sb.2 j hjz).trans e
    · have hlt : c < s.heap.objs.size := by
        obtain ⟨o4, v4, e4, d4⟩ := (k1.src default X.w callerA i a #[] rfl).live _ _ h4
        obtain ⟨o5, v5, e5, d5⟩ := (k2.src default X.w callerA j b #[] rfl).live _ _ h5
        rcases (by simpa using hc' : c = z ∨ c = u ∨ c = o ∨ c = i ∨ c = j) with rfl | rfl | rfl | rfl | rfl
        · exact lt h1
        · exact lt h2
        · exact lt h3
        · exact lt e4
        · exact lt e5
      rw [upd_ne (Nat.ne_of_lt hlt)]
      exact (hf c hc').1
  done := by
    intro X hP hw hK hc n pins s σ H E I hf st hg
    subst hP hw hK
    obtain ⟨xs, ys, ha, hb, hm⟩ := hg
    obtain ⟨its, rv, pa⟩ := k1.got I ha
    obtain ⟨jts, rw', pb⟩ := k2.got I hb
    obtain ⟨h1, h2, ⟨x0, y0, h3⟩, h4, h5⟩ := st
    have na := fun c (hc : c ∈ [z, u, o, i, j]) => k1.ne I ha (hf c hc)
    have nb := fun c (hc : c ∈ [z, u, o, i, j]) => k2.ne I hb (hf c hc)
    have D : ZipApart z u o i j a b := ⟨huz, hoz, hiz, hjz, huo, hui, huj, hoi, hoj, hij, na z (by simp), na o (by simp), na i (by simp), na j (by simp), nb z (by simp), nb o (by simp), nb i (by simp), nb j (by simp)⟩
    have hT : s.TypeIs (.ref z) "zip" := ⟨_, h1, rfl⟩
    have l1 := rv.length
    have l2 := rw'.length
    unfold pyNext
    refine wpAny_bind (wpAny_attempt (wpAny_callSpecial?_slot (name := Str.ofString "__next__") hT F.slot_zip_next (wpAny_call_entry F.slot_zip_next hT F.entry_zip_next
      (zipG_end D (k1.src X.prog X.w _ i a its.toArray (I.ok.hd hc)) (k2.src X.prog X.w _ j b jts.toArray (I.ok.hd hc)) h1 h2 h3 h4 h5 pa pb ?_ fun q1 e ke xe => ?_) (F.args_zip_next_1 _))))
    · rcases Nat.le_total xs.length ys.length with h | h
      · exact .inl (Array.getElem?_eq_none (by simp; omega))
      · exact .inr (Array.getElem?_eq_none (by simp; omega))
    · obtain ⟨ob, eob, cob⟩ := xe
      refine wpAny_bind (wpAny_isInstance (T := "StopIteration") (b := true) ⟨ob, eob, cob⟩ isSubtype_stop (wpAny_pure ⟨rfl, ?_⟩))
      exact I.turnAll (h' := q1) (tk := s.toks) (ch := [z, u, o, i, j]) hf fun c ob' hc' e1 => ke c ob' (fun w1 => hc' (by simp [w1])) (fun w1 => hc' (by simp [w1])) (fun w1 => hc' (by simp [w1])) (fun w1 => hc' (by simp [w1])) e1
  self := fun A n s Q E st h => wpAny_pyIter_zip st.1 h
end
end L2

set_option Elab.async false
set_option linter.all false
set_option autoImplicit false
set_option maxRecDepth 100000
set_option maxHeartbeats 1000000
namespace L2
open PySem PySem.Spec PySem.Calls PyProof.Rows
section
variable {c1 c2 : String} {Sa Sb : PySem.W.Frag → Hp → Addr → List V → Prop} {Ia Ib : Heap → Addr → Addr → Nat → Prop} {Isa Isb : Heap → Addr → Array Value → Prop}
abbrev zk1 (c1 : String) (h : Heap) (a : Addr) : Heap := h.push { cls := .type c1, data := .fields #[.ref a, .int 0 0] }
abbrev zk2 (c1 c2 : String) (h : Heap) (a b : Addr) : Heap := (zk1 c1 h a).push { cls := .type c2, data := .fields #[.ref b, .int 0 0] }
abbrev zk3 (c1 c2 : String) (h : Heap) (a b : Addr) : Heap := (zk2 c1 c2 h a b).push { cls := .type "tuple", data := .seq #[.ref h.objs.size, .ref (zk1 c1 h a).objs.size] }
abbrev zk4 (c1 c2 : String) (h : Heap) (a b : Addr) : Heap := (zk3 c1 c2 h a b).push { cls := .type "tuple", data := .seq #[.none, .none] }
abbrev zk5 (c1 c2 : String) (h : Heap) (a b : Addr) : Heap := (zk4 c1 c2 h a b).push { cls := .type "zip", data := .fields #[.none, .bool false, .bool false, .ref (zk2 c1 c2 h a b).objs.size, .ref (zk3 c1 c2 h a b).objs.size] }
theorem zipK_new (k1 : Kd c1 Sa Ia Isa) (k2 : Kd c2 Sb Ib Isb) (a b : Addr) (its jts : Array Value) :
    Meets (Builtin.«zip.__new__» ⟨[.type "zip", .ref a, .ref b], []⟩) (fun _ R S => Isa S.heap a its ∧ Isb S.heap b jts ∧ R (.ok (.ret (.ref (zk4 c1 c2 S.heap a b).objs.size))) { S with heap := zk5 c1 c2 S.heap a b }) :=
  .of_wp fun prog w A R S h => by
    obtain ⟨hp, g, d, tk, os⟩ := S
    obtain ⟨h1, h2, h⟩ := h
    have hsub := sub_zip
    have g1 : Isa (Shared.heap ⟨hp, g, d, tk, os⟩) a its := h1
    have g2 : Isb (Shared.heap ⟨zk1 c1 hp a, g, d, tk, os⟩) b jts := k2.sv h2 fun ob e => Heap.get?_push_of_some _ e
    wp_walk using k1.itr g1, k2.itr g2
    exact ⟨_, rfl, h⟩
theorem call_zipK {prog : Program} {w : World} {A : Around} {E : Value → Shared → Prop} {S : Shared} {a b : Addr} {its jts : Array Value} {Q : Value → Shared → Prop} (k1 : Kd c1 Sa Ia Isa) (k2 : Kd c2 Sb Ib Isb) (h1 : Isa S.heap a its) (h2 : Isb S.heap b jts)
    (h : ∀ q, IsZip q (S.heap.objs.size + 4) (S.heap.objs.size + 2) (S.heap.objs.size + 3) .none → IsPair q (S.heap.objs.size + 2) (.ref S.heap.objs.size) (.ref (S.heap.objs.size + 1)) → IsPair q (S.heap.objs.size + 3) .none .none →
      Ia q S.heap.objs.size a 0 → Ib q (S.heap.objs.size + 1) b 0 → (∀ c ob, S.heap.get? c = some ob → q.get? c = some ob) → Q (.ref (S.heap.objs.size + 4)) { S with heap := q }) : wpAny (model prog w) A (call (.type "zip") [.ref a, .ref b]) Q E S := by
  refine callType_new F.called_zip (by decide) (F.typeCall_zip_2 _ _) (F.newCall_zip_2 _ _) (fun obj => F.args_object_init_3 obj _ _) F.entry_zip_new (zipK_new k1 k2 a b its jts) ⟨h1, h2, ?_⟩
  have n1 : (zk1 c1 S.heap a).objs.size = S.heap.objs.size + 1 := Heap.size_push ..
  have n2 : (zk2 c1 c2 S.heap a b).objs.size = S.heap.objs.size + 2 := by rw [Heap.size_push, n1]
  have n3 : (zk3 c1 c2 S.heap a b).objs.size = S.heap.objs.size + 3 := by rw [Heap.size_push, n2]
  have n4 : (zk4 c1 c2 S.heap a b).objs.size = S.heap.objs.size + 4 := by rw [Heap.size_push, n3]
  have g5 : (zk5 c1 c2 S.heap a b).get? (zk4 c1 c2 S.heap a b).objs.size = some _ := Heap.get?_push_size _ rfl
  have g4 : (zk5 c1 c2 S.heap a b).get? (zk3 c1 c2 S.heap a b).objs.size = some _ := Heap.get?_push_of_some _ (Heap.get?_push_size _ rfl)
  have g3 : (zk5 c1 c2 S.heap a b).get? (zk2 c1 c2 S.heap a b).objs.size = some _ := Heap.get?_push_of_some _ (Heap.get?_push_of_some _ (Heap.get?_push_size _ rfl))
  have g2 : (zk5 c1 c2 S.heap a b).get? (zk1 c1 S.heap a).objs.size = some _ := Heap.get?_push_of_some _ (Heap.get?_push_of_some _ (Heap.get?_push_of_some _ (Heap.get?_push_size _ rfl)))
  have g1 : (zk5 c1 c2 S.heap a b).get? S.heap.objs.size = some _ := Heap.get?_push_of_some _ (Heap.get?_push_of_some _ (Heap.get?_push_of_some _ (Heap.get?_push_of_some _ (Heap.get?_push_size _ rfl))))
  show _ ∧ _
  rw [n2, n3, n4] at g5
  rw [n1, n2] at g3
  rw [n3] at g4
  rw [n1] at g2
  rw [n4]
  exact ⟨⟨_, g5, rfl⟩, h _ g5 g3 g4 (k1.new g1) (k2.new g2) fun c ob e => Heap.get?_push_of_some _ (Heap.get?_push_of_some _ (Heap.get?_push_of_some _ (Heap.get?_push_of_some _ (Heap.get?_push_of_some _ e))))⟩
def iZip (Sa Sb : PySem.W.Frag → Hp → Addr → List V → Prop) (K : PySem.W.Frag) (ta : TA) : TI := fun σ H R => ta σ H fun vs H1 => ∃ a b, vs = [.ref a, .ref b] ∧ (∃ xs, Sa K H1 a xs) ∧ (∃ ys, Sb K H1 b ys) ∧ R (Zp (Sa K) (Sb K) a b) H1
variable {X : Cx}
theorem pi_zip {a b : Expr} {p pos pp : Pos} {elts : List Expr} {kk : Nat} {ta : TA} (k1 : Kd c1 Sa Ia Isa) (k2 : Kd c2 Sb Ib Isb) (hg : Gl X "zip") (hm : X.mg "zip" = none) (ha : PA X [a, b] ta)
    (hs : starEach [a, b] X.env = [(false, eval a X.env), (false, eval b X.env)] := by rfl) (hs2 : starEach [b] X.env = [(false, eval b X.env)] := by rfl) : PI X (.Tuple elts kk pp) (.Call (.Name "zip" p) [a, b] [] pos) (iZip Sa Sb X.K ta) := by
  intro pins s σ H R I h
  refine Call_ (ld_blt I hg hm PyProof.Rows.boot_zip (PyProof.Rows.callWith_type1 (thn (ha pos pins s σ H _ I h) fun us s1 ⟨vs, H1, I1, r1, q1⟩ => ?_) (by rw [hs, hs2]) (by rw [hs2]; rfl)))
  obtain ⟨l, m, e, ⟨xs, hq⟩, ⟨ys, hy⟩, q⟩ := q1
  subst e
  cases r1 with
  | cons ra rr =>
    cases rr with
    | cons rb rr =>
      cases rr
      cases ra
      cases rb
      obtain ⟨its, _, pa⟩ := k1.got I1 hq
      obtain ⟨jts, _, pb⟩ := k2.got I1 hy
      refine call_zipK k1 k2 pa pb fun h1 z1 z2 z3 z4 z5 hk => ?_
      refine wpAny_pyIter_zip z1 ⟨_, [s1.heap.objs.size + 4, s1.heap.objs.size + 2, s1.heap.objs.size + 3, s1.heap.objs.size, s1.heap.objs.size + 1], _, _, H1, rfl, I1.kept (t' := s1.toks) hk,
        turn_zip k1 k2 l m (s1.heap.objs.size + 4) (s1.heap.objs.size + 2) (s1.heap.objs.size + 3) s1.heap.objs.size (s1.heap.objs.size + 1) (by simp) (by simp) (by simp) (by simp) (by simp) (by simp) (by simp) (by simp) (by simp) (by simp), ⟨z1, z2, ⟨_, _, z3⟩, z4, z5⟩, fun c hc => ?_, q⟩
      have hge : s1.heap.objs.size ≤ c := by
        rcases (by simpa using hc : c = s1.heap.objs.size + 4 ∨ c = s1.heap.objs.size + 2 ∨ c = s1.heap.objs.size + 3 ∨ c = s1.heap.objs.size ∨ c = s1.heap.objs.size + 1) with rfl | rfl | rfl | rfl | rfl <;> omega
      exact I1.fpOk hge (I1.hok.fresh hge)
end
theorem pg_tupK {X : Cx} (K : PySem.W.Frag) (h : X.K = K) {ts : List Expr} {k n : Nat} {pos : Pos} {t : TGs} (hc : X.calm = true) (hts : PGs X ts t)
    (hn : (assignEach ts X.env).length = n := by rfl) (hst : (assignEach ts X.env).findIdx? (·.1) = none := by rfl) : PG X (.Tuple ts k pos) (gTup K n t) := h ▸ pg_tup hc hts hn hst
/-! ### loops over such pairs -/
section
variable {K : PySem.W.Frag} {a b : Addr} {xs ys : List V} {g : TG} {tb : TS} {D : Ends} {σ : St} {H : Hp} {Sa Sb : Hp → Addr → List V → Prop} {acc : Addr} {tc : TT} {l : TL} {R : St → Hp → Prop} {J : It} {n : Nat}
theorem forW_gen (Pv : Nat → St → Hp → Prop) (h0 : Pv 0 σ H) (hg : ∀ i σ H, i < n → Pv i σ H → J.go i H) (hst : ∀ σ H, Pv n σ H → J.stop n H)
    (hs : ∀ i σ H, i < n → Pv i σ H → ∀ x H', J.yld i H x H' → g x σ H' fun σ2 H2 => tb { D with nx := Pv (i + 1), ct := Pv (i + 1), bk := D.nx } σ2 H2) (hd : ∀ σ H, Pv n σ H → D.nx σ H) : forW J g tb D σ H := by
  refine ⟨fun i m σ H => m = n - i ∧ i ≤ n ∧ Pv i σ H, ⟨n, by simp, Nat.zero_le _, h0⟩, ?_⟩
  rintro i m σ H ⟨rfl, hi, p⟩
  by_cases hlt : i < n
  · exact .inr ⟨hg i σ H hlt p, Pv (i + 1), fun σ' H' p' => ⟨n - (i + 1), by omega, rfl, hlt, p'⟩, fun x H' y => hs i σ H hlt p x H' y⟩
  · have e : i = n := by omega
    subst e
    exact .inl ⟨hst σ H p, hd σ H p⟩
theorem cloop_gen (Pv : Nat → St → Hp → Prop) (h0 : Pv 0 σ H) (hg : ∀ i σ H, i < n → Pv i σ H → J.go i H) (hst : ∀ σ H, Pv n σ H → J.stop n H)
    (hs : ∀ i σ H, i < n → Pv i σ H → ∀ x H', J.yld i H x H' → g x σ H' fun σ2 H2 => tc σ2 H2 fun b H3 => if b = true then l acc σ2 H3 (Pv (i + 1)) else Pv (i + 1) σ2 H3)
    (hd : ∀ σ H, Pv n σ H → R σ H) : lLoop J g tc l acc σ H R := by
  refine ⟨fun i m σ H => Pv i σ H ∧ m + i = n ∧ i ≤ n, ⟨n, h0, by omega, Nat.zero_le _⟩, ?_⟩
  rintro i m σ H ⟨p, hm, hi⟩
  by_cases hlt : i < n
  · refine .inr ⟨hg i σ H hlt p, fun x H' y => ?_⟩
    have := hs i σ H hlt p x H' y
    simp only [cont_eq (Pv := Pv) hlt hm, cont_prop (Pv := Pv) hlt hm]
    exact this
  · have e : i = n := by omega
    subst e
    exact .inl ⟨hst σ H p, hd σ H p⟩
theorem get_lt {xs : List V} {i : Nat} (h : i < xs.length) : xs[i]? = some xs[i] := List.getElem?_eq_getElem h
theorem cloop_enumT (Pv : Nat → St → Hp → Prop) (h0 : Pv 0 σ H) (hl : ∀ i σ H, i ≤ xs.length → Pv i σ H → SqT K H a xs)
    (hs : ∀ i x T σ H, xs[i]? = some x → H T = none → Pv i σ H → g (.ref T) σ (upd H T (.tup [.int i, x])) fun σ2 H2 => tc σ2 H2 fun b H3 => if b = true then l acc σ2 H3 (Pv (i + 1)) else Pv (i + 1) σ2 H3)
    (hd : ∀ σ H, Pv xs.length σ H → R σ H) : lLoop (Ent K a) g tc l acc σ H R :=
  cloop_gen Pv h0 (fun i σ H hi p => ⟨xs, xs[i], hl i σ H (Nat.le_of_lt hi) p, get_lt hi⟩) (fun σ H p => ⟨xs, hl _ σ H (Nat.le_refl _) p, rfl⟩)
    (fun i σ H hi p x H' ⟨T, v, hT, e1, e2, hv⟩ => by subst e1 e2; exact hs i v T σ H (hv xs (hl i σ H (Nat.le_of_lt hi) p)) hT p) hd
/-- for x, y in zip(.., ..), as many of both -/
theorem forW_zip (he : xs.length = ys.length) (Pv : Nat → St → Hp → Prop) (h0 : Pv 0 σ H) (hl : ∀ i σ H, i ≤ xs.length → Pv i σ H → Sa H a xs ∧ Sb H b ys)
    (hs : ∀ i x y T σ H, xs[i]? = some x → ys[i]? = some y → H T = none → Pv i σ H → g (.ref T) σ (upd H T (.tup [x, y])) fun σ2 H2 => tb { D with nx := Pv (i + 1), ct := Pv (i + 1), bk := D.nx } σ2 H2) (hd : ∀ σ H, Pv xs.length σ H → D.nx σ H) : forW (Zp Sa Sb a b) g tb D σ H :=
  forW_gen Pv h0 (fun i σ H hi p => ⟨xs, ys, xs[i], ys[i]'(he ▸ hi), (hl i σ H (Nat.le_of_lt hi) p).1, (hl i σ H (Nat.le_of_lt hi) p).2, get_lt hi, get_lt (he ▸ hi)⟩) (fun σ H p => ⟨xs, ys, (hl _ σ H (Nat.le_refl _) p).1, (hl _ σ H (Nat.le_refl _) p).2, by rw [← he]; exact Nat.min_self _⟩)
    (fun i σ H hi p x H' ⟨T, v, w, hT, e1, e2, hv⟩ => by subst e1 e2; obtain ⟨q1, q2⟩ := hv xs ys (hl i σ H (Nat.le_of_lt hi) p).1 (hl i σ H (Nat.le_of_lt hi) p).2; exact hs i v w T σ H q1 q2 hT p) hd
end
end L2

set_option maxHeartbeats 4000000
namespace My
open PySem PySem.Spec L2
set_option linter.all false
set_option maxHeartbeats 4000000
def top (i : Nat) : Stmt := PySem.Challenge.pw_unlikeplace_k12_sayings_by_words.main.body.getD i (.Pass ⟨0, 0, 0, 0⟩)
abbrev s_joined : Stmt := top 1
abbrev s_by_yes : Stmt := top 2
abbrev s_by_no : Stmt := top 3
abbrev s_is_the_word : Stmt := top 4
abbrev s_is_another_word : Stmt := top 5
abbrev s_upward : Stmt := top 7
abbrev s_folded : Stmt := top 8
abbrev s_is_whole : Stmt := top 11
abbrev s_is_bit : Stmt := top 12
abbrev s_are_places : Stmt := top 13
abbrev s_is_place : Stmt := top 14
abbrev s_is_saying : Stmt := top 16
abbrev s_value : Stmt := top 17
abbrev s_missed : Stmt := top 18
abbrev s_parts : Stmt := top 19
abbrev s_l_pen : Stmt := top 21
abbrev s_l_draw : Stmt := top 22
abbrev s_l_whole : Stmt := top 23
abbrev s_l_word : Stmt := top 24
abbrev s_l_mask : Stmt := top 25
abbrev s_l_case : Stmt := top 26
abbrev s_l_unjoined : Stmt := top 27
abbrev s_l_leaves_right : Stmt := top 28
abbrev s_l_joined_right : Stmt := top 29
abbrev s_l_parted : Stmt := top 30
abbrev s_law : Stmt := top 31
theorem sc_joined : FnScope ["join", "some", "half"] ["join", "some"] (defScope s_joined) := ⟨rfl, rfl, rfl, by decide +kernel, rfl, by decide +kernel, by decide +kernel⟩
theorem sc_by_yes : FnScope ["case"] ["case"] (defScope s_by_yes) := ⟨rfl, rfl, rfl, by decide +kernel, rfl, by decide +kernel, by decide +kernel⟩
theorem sc_by_no : FnScope ["case"] ["case"] (defScope s_by_no) := ⟨rfl, rfl, rfl, by decide +kernel, rfl, by decide +kernel, by decide +kernel⟩
theorem sc_is_the_word : FnScope ["word"] ["word"] (defScope s_is_the_word) := ⟨rfl, rfl, rfl, by decide +kernel, rfl, by decide +kernel, by decide +kernel⟩
theorem sc_is_another_word : FnScope ["word"] ["word"] (defScope s_is_another_word) := ⟨rfl, rfl, rfl, by decide +kernel, rfl, by decide +kernel, by decide +kernel⟩
theorem sc_upward : FnScope ["tree", "leaf", "waiting", "downward", "part"] ["tree", "leaf"] (defScope s_upward) := ⟨rfl, rfl, rfl, by decide +kernel, rfl, by decide +kernel, by decide +kernel⟩
theorem sc_folded : FnScope ["tree", "leaf", "of_leaf", "of_fork", "done", "part", "second", "first"] ["tree", "leaf", "of_leaf", "of_fork"] (defScope s_folded) := ⟨rfl, rfl, rfl, by decide +kernel, rfl, by decide +kernel, by decide +kernel⟩
theorem sc_is_whole : FnScope ["thing"] ["thing"] (defScope s_is_whole) := ⟨rfl, rfl, rfl, by decide +kernel, rfl, by decide +kernel, by decide +kernel⟩
theorem sc_is_bit : FnScope ["thing"] ["thing"] (defScope s_is_bit) := ⟨rfl, rfl, rfl, by decide +kernel, rfl, by decide +kernel, by decide +kernel⟩
theorem sc_are_places : FnScope ["thing"] ["thing"] (defScope s_are_places) := ⟨rfl, rfl, rfl, by decide +kernel, rfl, by decide +kernel, by decide +kernel⟩
theorem sc_is_place : FnScope ["places", "thing"] ["places", "thing"] (defScope s_is_place) := ⟨rfl, rfl, rfl, by decide +kernel, rfl, by decide +kernel, by decide +kernel⟩
theorem sc_is_saying : FnScope ["places", "thing", "waiting", "part"] ["places", "thing"] (defScope s_is_saying) := ⟨rfl, rfl, rfl, by decide +kernel, rfl, by decide +kernel, by decide +kernel⟩
theorem sc_value : FnScope ["saying", "word"] ["saying", "word"] (defScope s_value) := ⟨rfl, rfl, rfl, by decide +kernel, rfl, by decide +kernel, by decide +kernel⟩
theorem sc_missed : FnScope ["case", "saying", "word"] ["case", "saying"] (defScope s_missed) := ⟨rfl, rfl, rfl, by decide +kernel, rfl, by decide +kernel, by decide +kernel⟩
theorem sc_parts : FnScope ["case", "saying"] ["case", "saying"] (defScope s_parts) := ⟨rfl, rfl, rfl, by decide +kernel, rfl, by decide +kernel, by decide +kernel⟩
theorem sc_l_pen : FnScope ["_law_script"] ["_law_script"] (defScope s_l_pen) := ⟨rfl, rfl, rfl, by decide +kernel, rfl, by decide +kernel, by decide +kernel⟩
theorem sc_l_draw : FnScope ["_law_pen_here", "_law_many", "_law_digit", "_law_script", "_law_at", "_law_cell", "_law_number"] ["_law_pen_here", "_law_many"] (defScope s_l_draw) := ⟨rfl, rfl, rfl, by decide +kernel, rfl, by decide +kernel, by decide +kernel⟩
theorem sc_l_whole : FnScope ["_law_thing"] ["_law_thing"] (defScope s_l_whole) := ⟨rfl, rfl, rfl, by decide +kernel, rfl, by decide +kernel, by decide +kernel⟩
theorem sc_l_word : FnScope ["_law_places", "_law_number"] ["_law_places", "_law_number"] (defScope s_l_word) := ⟨rfl, rfl, rfl, by decide +kernel, rfl, by decide +kernel, by decide +kernel⟩
theorem sc_l_mask : FnScope ["_law_places", "_law_saying", "_law_join", "_law_one", "_law_other", "_law_found", "_law_k"] ["_law_places", "_law_saying"] (defScope s_l_mask) := ⟨rfl, rfl, rfl, by decide +kernel, rfl, by decide +kernel, by decide +kernel⟩
theorem sc_l_case : FnScope ["_law_pen_here", "_law_places", "_law_way", "_law_sorts", "_law_number", "_law_at", "_law_some"] ["_law_pen_here", "_law_places"] (defScope s_l_case) := ⟨rfl, rfl, rfl, by decide +kernel, rfl, by decide +kernel, by decide +kernel⟩
theorem sc_l_unjoined : FnScope ["_law_thing", "_law_join", "_law_many", "_law_waiting", "_law_found", "_law_here", "_law_count", "_law_half"] ["_law_thing", "_law_join", "_law_many"] (defScope s_l_unjoined) := ⟨rfl, rfl, rfl, by decide +kernel, rfl, by decide +kernel, by decide +kernel⟩
theorem sc_l_leaves_right : FnScope ["_law_word_here", "_law_some", "_law_bit", "_law_told"] ["_law_word_here", "_law_some", "_law_bit"] (defScope s_l_leaves_right) := ⟨rfl, rfl, rfl, by decide +kernel, rfl, by decide +kernel, by decide +kernel⟩
theorem sc_l_joined_right : FnScope ["_law_found", "_law_words", "_law_outer", "_law_inner", "_law_bit", "_law_some", "_law_word_here", "_law_part"] ["_law_found", "_law_words", "_law_outer", "_law_inner", "_law_bit"] (defScope s_l_joined_right) := ⟨rfl, rfl, rfl, by decide +kernel, rfl, by decide +kernel, by decide +kernel⟩
theorem sc_l_parted : FnScope ["_law_case_here", "_law_saying", "_law_places", "_law_yes", "_law_no", "_law_bits", "_law_some", "_law_due", "_law_word_here", "_law_number"] ["_law_case_here", "_law_saying"] (defScope s_l_parted) := ⟨rfl, rfl, rfl, by decide +kernel, rfl, by decide +kernel, by decide +kernel⟩
theorem sc_law : FnScope ["_law_script", "_law_pen_here", "_law_turn", "_law_places", "_law_case_here", "_law_kept_case", "_law_again", "_law_first", "_law_second"] ["_law_script"] (defScope s_law) := ⟨rfl, rfl, rfl, by decide +kernel, rfl, by decide +kernel, by decide +kernel⟩
structure Adr where
  a_joined : Addr
  d_joined : FuncData
  a_by_yes : Addr
  d_by_yes : FuncData
  a_by_no : Addr
  d_by_no : FuncData
  a_is_the_word : Addr
  d_is_the_word : FuncData
  a_is_another_word : Addr
  d_is_another_word : FuncData
  a_upward : Addr
  d_upward : FuncData
  a_folded : Addr
  d_folded : FuncData
  a_is_whole : Addr
  d_is_whole : FuncData
  a_is_bit : Addr
  d_is_bit : FuncData
  a_are_places : Addr
  d_are_places : FuncData
  a_is_place : Addr
  d_is_place : FuncData
  a_is_saying : Addr
  d_is_saying : FuncData
  a_value : Addr
  d_value : FuncData
  a_missed : Addr
  d_missed : FuncData
  a_parts : Addr
  d_parts : FuncData
  a_l_pen : Addr
  d_l_pen : FuncData
  a_l_draw : Addr
  d_l_draw : FuncData
  a_l_whole : Addr
  d_l_whole : FuncData
  a_l_word : Addr
  d_l_word : FuncData
  a_l_mask : Addr
  d_l_mask : FuncData
  a_l_case : Addr
  d_l_case : FuncData
  a_l_unjoined : Addr
  d_l_unjoined : FuncData
  a_l_leaves_right : Addr
  d_l_leaves_right : FuncData
  a_l_joined_right : Addr
  d_l_joined_right : FuncData
  a_l_parted : Addr
  d_l_parted : FuncData
  a_law : Addr
  d_law : FuncData
  k_MOST_PLACES : Tok
  c_value : Addr
  p_value : Addr
structure Txt (K : PySem.W.Frag) (mg : Str → Option Value) (t : Adr) : Prop where
  m_joined : mg "joined" = some (.ref t.a_joined)
  f_joined : Fun K "joined" "joined" s_joined t.a_joined t.d_joined
  k_joined : PySem.W.keepIn K (.ref t.a_joined) = true
  p_joined : Binds K t.d_joined ["join", "some"] []
  m_by_yes : mg "by_yes" = some (.ref t.a_by_yes)
  f_by_yes : Fun K "by_yes" "by_yes" s_by_yes t.a_by_yes t.d_by_yes
  k_by_yes : PySem.W.keepIn K (.ref t.a_by_yes) = true
  p_by_yes : Binds K t.d_by_yes ["case"] []
  m_by_no : mg "by_no" = some (.ref t.a_by_no)
  f_by_no : Fun K "by_no" "by_no" s_by_no t.a_by_no t.d_by_no
  k_by_no : PySem.W.keepIn K (.ref t.a_by_no) = true
  p_by_no : Binds K t.d_by_no ["case"] []
  m_is_the_word : mg "is_the_word" = some (.ref t.a_is_the_word)
  f_is_the_word : Fun K "is_the_word" "is_the_word" s_is_the_word t.a_is_the_word t.d_is_the_word
  k_is_the_word : PySem.W.keepIn K (.ref t.a_is_the_word) = true
  p_is_the_word : Binds K t.d_is_the_word ["word"] []
  m_is_another_word : mg "is_another_word" = some (.ref t.a_is_another_word)
  f_is_another_word : Fun K "is_another_word" "is_another_word" s_is_another_word t.a_is_another_word t.d_is_another_word
  k_is_another_word : PySem.W.keepIn K (.ref t.a_is_another_word) = true
  p_is_another_word : Binds K t.d_is_another_word ["word"] []
  m_upward : mg "upward" = some (.ref t.a_upward)
  f_upward : Fun K "upward" "upward" s_upward t.a_upward t.d_upward
  k_upward : PySem.W.keepIn K (.ref t.a_upward) = true
  p_upward : Binds K t.d_upward ["tree", "leaf"] []
  m_folded : mg "folded" = some (.ref t.a_folded)
  f_folded : Fun K "folded" "folded" s_folded t.a_folded t.d_folded
  k_folded : PySem.W.keepIn K (.ref t.a_folded) = true
  p_folded : Binds K t.d_folded ["tree", "leaf", "of_leaf", "of_fork"] []
  m_is_whole : mg "is_whole" = some (.ref t.a_is_whole)
  f_is_whole : Fun K "is_whole" "is_whole" s_is_whole t.a_is_whole t.d_is_whole
  k_is_whole : PySem.W.keepIn K (.ref t.a_is_whole) = true
  p_is_whole : Binds K t.d_is_whole ["thing"] []
  m_is_bit : mg "is_bit" = some (.ref t.a_is_bit)
  f_is_bit : Fun K "is_bit" "is_bit" s_is_bit t.a_is_bit t.d_is_bit
  k_is_bit : PySem.W.keepIn K (.ref t.a_is_bit) = true
  p_is_bit : Binds K t.d_is_bit ["thing"] []
  m_are_places : mg "are_places" = some (.ref t.a_are_places)
  f_are_places : Fun K "are_places" "are_places" s_are_places t.a_are_places t.d_are_places
  k_are_places : PySem.W.keepIn K (.ref t.a_are_places) = true
  p_are_places : Binds K t.d_are_places ["thing"] []
  m_is_place : mg "is_place" = some (.ref t.a_is_place)
  f_is_place : Fun K "is_place" "is_place" s_is_place t.a_is_place t.d_is_place
  k_is_place : PySem.W.keepIn K (.ref t.a_is_place) = true
  p_is_place : Binds K t.d_is_place ["places", "thing"] []
  m_is_saying : mg "is_saying" = some (.ref t.a_is_saying)
  f_is_saying : Fun K "is_saying" "is_saying" s_is_saying t.a_is_saying t.d_is_saying
  k_is_saying : PySem.W.keepIn K (.ref t.a_is_saying) = true
  p_is_saying : Binds K t.d_is_saying ["places", "thing"] []
  m_value : mg "value" = some (.ref t.a_value)
  f_value : Fun K "value" "value" s_value t.a_value t.d_value
  k_value : PySem.W.keepIn K (.ref t.a_value) = true
  p_value : Binds K t.d_value ["saying", "word"] []
  m_missed : mg "missed" = some (.ref t.a_missed)
  f_missed : Fun K "missed" "missed" s_missed t.a_missed t.d_missed
  k_missed : PySem.W.keepIn K (.ref t.a_missed) = true
  p_missed : Binds K t.d_missed ["case", "saying"] []
  m_parts : mg "parts" = some (.ref t.a_parts)
  f_parts : Fun K "parts" "parts" s_parts t.a_parts t.d_parts
  k_parts : PySem.W.keepIn K (.ref t.a_parts) = true
  p_parts : Binds K t.d_parts ["case", "saying"] []
  m_l_pen : mg "_law_pen" = some (.ref t.a_l_pen)
  f_l_pen : Fun K "_law_pen" "_law_pen" s_l_pen t.a_l_pen t.d_l_pen
  k_l_pen : PySem.W.keepIn K (.ref t.a_l_pen) = true
  p_l_pen : Binds K t.d_l_pen ["_law_script"] []
  m_l_draw : mg "_law_draw" = some (.ref t.a_l_draw)
  f_l_draw : Fun K "_law_draw" "_law_draw" s_l_draw t.a_l_draw t.d_l_draw
  k_l_draw : PySem.W.keepIn K (.ref t.a_l_draw) = true
  p_l_draw : Binds K t.d_l_draw ["_law_pen_here", "_law_many"] []
  m_l_whole : mg "_law_whole" = some (.ref t.a_l_whole)
  f_l_whole : Fun K "_law_whole" "_law_whole" s_l_whole t.a_l_whole t.d_l_whole
  k_l_whole : PySem.W.keepIn K (.ref t.a_l_whole) = true
  p_l_whole : Binds K t.d_l_whole ["_law_thing"] []
  m_l_word : mg "_law_word" = some (.ref t.a_l_word)
  f_l_word : Fun K "_law_word" "_law_word" s_l_word t.a_l_word t.d_l_word
  k_l_word : PySem.W.keepIn K (.ref t.a_l_word) = true
  p_l_word : Binds K t.d_l_word ["_law_places", "_law_number"] []
  m_l_mask : mg "_law_mask" = some (.ref t.a_l_mask)
  f_l_mask : Fun K "_law_mask" "_law_mask" s_l_mask t.a_l_mask t.d_l_mask
  k_l_mask : PySem.W.keepIn K (.ref t.a_l_mask) = true
  p_l_mask : Binds K t.d_l_mask ["_law_places", "_law_saying"] []
  m_l_case : mg "_law_case" = some (.ref t.a_l_case)
  f_l_case : Fun K "_law_case" "_law_case" s_l_case t.a_l_case t.d_l_case
  k_l_case : PySem.W.keepIn K (.ref t.a_l_case) = true
  p_l_case : Binds K t.d_l_case ["_law_pen_here", "_law_places"] []
  m_l_unjoined : mg "_law_unjoined" = some (.ref t.a_l_unjoined)
  f_l_unjoined : Fun K "_law_unjoined" "_law_unjoined" s_l_unjoined t.a_l_unjoined t.d_l_unjoined
  k_l_unjoined : PySem.W.keepIn K (.ref t.a_l_unjoined) = true
  p_l_unjoined : Binds K t.d_l_unjoined ["_law_thing", "_law_join", "_law_many"] []
  m_l_leaves_right : mg "_law_leaves_right" = some (.ref t.a_l_leaves_right)
  f_l_leaves_right : Fun K "_law_leaves_right" "_law_leaves_right" s_l_leaves_right t.a_l_leaves_right t.d_l_leaves_right
  k_l_leaves_right : PySem.W.keepIn K (.ref t.a_l_leaves_right) = true
  p_l_leaves_right : Binds K t.d_l_leaves_right ["_law_word_here", "_law_some", "_law_bit"] []
  m_l_joined_right : mg "_law_joined_right" = some (.ref t.a_l_joined_right)
  f_l_joined_right : Fun K "_law_joined_right" "_law_joined_right" s_l_joined_right t.a_l_joined_right t.d_l_joined_right
  k_l_joined_right : PySem.W.keepIn K (.ref t.a_l_joined_right) = true
  p_l_joined_right : Binds K t.d_l_joined_right ["_law_found", "_law_words", "_law_outer", "_law_inner", "_law_bit"] []
  m_l_parted : mg "_law_parted" = some (.ref t.a_l_parted)
  f_l_parted : Fun K "_law_parted" "_law_parted" s_l_parted t.a_l_parted t.d_l_parted
  k_l_parted : PySem.W.keepIn K (.ref t.a_l_parted) = true
  p_l_parted : Binds K t.d_l_parted ["_law_case_here", "_law_saying"] []
  m_law : mg "law" = some (.ref t.a_law)
  f_law : Fun K "law" "law" s_law t.a_law t.d_law
  k_law : PySem.W.keepIn K (.ref t.a_law) = true
  p_law : Binds K t.d_law ["_law_script"] []
  bl_law : ∀ (s : Shared) (v : Value), BindsTo s t.d_law ⟨[v], []⟩ [("_law_script", v)]
  b_abs : mg "abs" = none
  b_all : mg "all" = none
  b_bool : mg "bool" = none
  b_enumerate : mg "enumerate" = none
  b_int : mg "int" = none
  b_isinstance : mg "isinstance" = none
  b_len : mg "len" = none
  b_list : mg "list" = none
  b_max : mg "max" = none
  b_min : mg "min" = none
  b_range : mg "range" = none
  b_sum : mg "sum" = none
  b_tuple : mg "tuple" = none
  b_zip : mg "zip" = none
  c_MOST_PLACES : mg "MOST_PLACES" = some (.int 5 t.k_MOST_PLACES)
  ft_value : FunT K "value" "value" s_value t.a_value t.d_value t.c_value t.p_value
local macro_rules | `(tactic| walk_at "rd") => `(tactic| simp only [gTup, gCons, gNil, tSl, tPart, tNoPart, rSlL, tDGet, sDPut, tDisp, tPairs, tFor_eq, iRng1, iRng2, tComp, iList, iTup, iEnumT, iEnumL, iZip, lFor, lLast, tNoTest, blkSt, tSeq, tIfS, tTest, tRev, tSGet, gLst, tOp, tUn, rI0, rI, rU, tVar, tC, tRet, tRetN, tNext, tAsg, gName, tDrop, tNil, tCons, tCB, tCall, tCallV, tCallC, tLam, cxLam, tIf, tAnd, tOr, tNot, tAndV, tOrV, tNotV, tBM, tBM0, tB, tTup, tLst, rEq, rNe, TruV_bl, scal_ii, scal_ss, scal_bb, V.ty.injEq, L2.start, List.map_cons, List.map_nil, List.cons_append, List.nil_append, List.length_cons, List.length_nil, List.replicate, List.getElem?_cons_zero, List.getElem?_cons_succ, List.set_cons_zero, List.set_cons_succ, Option.some.injEq, exists_eq_left', exists_eq_left, exists_eq_right, V.int.injEq, V.bl.injEq, V.str.injEq, V.ref.injEq, List.cons.injEq, and_true, true_and, and_assoc, exists_and_left, exists_and_right, Nat.sub_self, Nat.reduceAdd, Nat.reduceSub, decide_eq_true_eq, tyV, cxOf, rIx, rIxL, rIxT, rSetL, gSub, rAppend, rClear, rPop, rRep, rEqD, rCatD, List.length_append, List.length_map, List.take, Bool.not_eq_true, Bool.not_true, Bool.not_false, if_true, if_false, Bool.false_eq_true, reduceCtorEq, false_and, and_false, or_false, false_or, exists_false])
local macro_rules | `(tactic| walk_at "st") => `(tactic| repeat (first | (refine ⟨_, rfl, ?_⟩) | (refine And.intro (cmul_l (by decide)) ?_) | (refine And.intro (cmul_r (by decide)) ?_) | (refine And.intro (cmul_mod (by decide) (by decide)) ?_) | (refine And.intro ⟨by decide, by decide, by decide⟩ ?_) | (refine And.intro ⟨by decide, by decide⟩ ?_) | (refine And.intro (by assumption) ?_) | (refine And.intro ⟨by assumption, by assumption⟩ ?_) | (refine And.intro (by decide) ?_)))
section
variable {P : Program} {w : World} {K : PySem.W.Frag} {mg : Str → Option Value} {base : Heap} {t : Adr}
/-- a pen stands at p for the script at a -/
def DPen (K : PySem.W.Frag) (H : Hp) (p a : Addr) (ns : List Int) : Prop := ∃ i l : Int, H p = some (.dK (penK a i l)) ∧ 0 ≤ i ∧ 0 ≤ l ∧ SqL K H a (ns.map V.int)
theorem DPen.keep {K : PySem.W.Frag} {H H' : Hp} {p a : Addr} {ns : List Int} (h : DPen K H p a ns) (e : H' p = H p) (k : Keep p H H') : DPen K H' p a ns := by
  obtain ⟨i, l, hp, hi, hl, hS⟩ := h
  exact ⟨i, l, by rw [e]; exact hp, hi, hl, hS.keep hp k⟩
theorem DPen.same {K : PySem.W.Frag} {H H' : Hp} {p a : Addr} {ns : List Int} (h : DPen K H p a ns) (s : Same H H') : DPen K H' p a ns := by
  obtain ⟨i, l, hp, hi, hl, hS⟩ := h
  exact ⟨i, l, s _ _ hp, hi, hl, s.seq hS⟩
def sp_draw (K : PySem.W.Frag) : Sp := fun vs H Q _ => ∃ (p a : Addr) (ns : List Int) (m : Int), vs = [.ref p, .int m] ∧ DPen K H p a ns ∧ 0 < m ∧ m < 1073741824 ∧ ∀ r H', 0 ≤ r → r < m → DPen K H' p a ns → Keep p H H' → Q (.int r) H'
theorem ok_draw (T : Txt K mg t) : FnOk P w K mg base CX0 1 t.a_l_draw t.d_l_draw ["_law_pen_here", "_law_many"] (sp_draw K) := by
  refine T.f_l_draw.ok sc_l_draw (fun vs H Q E h => ?_) (fun cdv A outer s H vs Q E hr h => ?_)
  · obtain ⟨p, a, ns, m, rfl, _⟩ := h; rfl
  · obtain ⟨p, a, ns, m, rfl, ⟨i, l, hp, hi, hl, hS⟩, hm, hm2, k⟩ := h
    have hu := hu_of hr
    have absn : ∀ z : Int, 0 ≤ (if z < 0 then -z else z) := fun z => by split <;> omega
    refine ⟨_, (pss_cons (ps_if (pt_cmpR op_gt (pe_dget hu (pv 0) pe_str (fun _ _ => rfl)) pe_int (nomark _)) (pss_cons (ps_set (i := 2) sc_l_draw.nd rfl (Or.inl rfl) (pe_op op_mod (pe_dget hu (pv 0) pe_str (fun _ _ => rfl)) (pv 1)))
      (pss_cons (ps_dput hu (pv 0) pe_str (pe_op op_fdiv (pe_dget hu (pv 0) pe_str (fun _ _ => rfl)) (pv 1)) rfl)
      (pss_one (ps_ret (pv 2))))) pss_nil)
      (pss_cons (ps_set (i := 3) sc_l_draw.nd rfl (Or.inl rfl) (pe_dget hu (pv 0) pe_str (fun _ _ => rfl)))
      (pss_cons (ps_set (i := 4) sc_l_draw.nd rfl (Or.inl rfl) (pe_dget hu (pv 0) pe_str (fun _ _ => rfl)))
      (pss_cons (ps_dput hu (pv 0) pe_str (pe_op op_add (pv 4) pe_int) rfl)
      (pss_cons (ps_set (i := 5) sc_l_draw.nd rfl (Or.inl rfl) (pe_op op_add (pe_op op_mul pe_int (pv 4)) pe_int))
      (pss_cons (ps_if (pt_cmpR (op_neNil hr.u100) (pv 3) (pe_lst pa_nil) (nomark _)) (pss_one (ps_set (i := 5) sc_l_draw.nd rfl (Or.inl rfl) (pe_ix ix_list (pv 3) (pe_op op_mod (pv 4) (pe_callB call_len (by rfl) T.b_len (by kernel_rfl) (pa_cons (pv 3) pa_nil))) (fun _ _ => rfl)))) pss_nil)
      (pss_cons (ps_if (PW.pt (pw_and (pt_cmpR op_lt (pv 4) (pe_callB call_len (by rfl) T.b_len (by kernel_rfl) (pa_cons (pv 3) pa_nil)) (nomark _)) (pw_and1 (pt_cmpR op_ge (pe_callB call_abs (by rfl) T.b_abs (by kernel_rfl) (pa_cons (pv 5) pa_nil)) (pe_op op_pow pe_int pe_int) (nomark _))))) (pss_cons (ps_dput hu (pv 0) pe_str (pe_op op_fdiv (pe_callB call_abs (by rfl) T.b_abs (by kernel_rfl) (pa_cons (pv 5) pa_nil)) (pv 1)) rfl)
      (pss_one (ps_ret (pe_op op_mod (pe_callB call_abs (by rfl) T.b_abs (by kernel_rfl) (pa_cons (pv 5) pa_nil)) (pv 1))))) pss_nil)
      (pss_cons (ps_set (i := 6) sc_l_draw.nd rfl (Or.inl rfl) (pe_op op_mod (pe_op op_mul (pe_op op_add (pe_op op_add (pe_op op_mod (pv 5) pe_int) (pe_op op_mul pe_int (pv 4))) pe_int) pe_int) pe_int))
      (pss_cons (ps_set (i := 6) sc_l_draw.nd rfl (Or.inl rfl) (pe_op op_mod (pe_op op_add (pe_op op_add (pe_op op_mul (pv 6) (pv 6)) (pe_op op_mul pe_int (pv 6))) (pv 4)) pe_int))
      (pss_one (ps_ret (pe_op op_mod (pe_op op_fdiv (pv 6) pe_int) (pv 1))))))))))))), ?_⟩
    walk_at "rd"
    refine ⟨_, dget hp (pen_left a i l), l, rfl, ite2 (fun h1 => ?_) (fun h1 => ?_)⟩
    · refine ⟨_, dget hp (pen_left a i l), l, rfl, hm, _, dget hp (pen_left a i l), l, rfl, ⟨hm, hm2⟩, _, dput hp (by show 3 ≤ 1000; decide) (pen_putL a i l (l / m)), ?_⟩
      exact k _ _ (Int.emod_nonneg _ (by omega)) (Int.emod_lt_of_pos _ hm) ⟨i, l / m, upd_same, hi, Int.ediv_nonneg hl (by omega), hS.keep hp keep_upd⟩ keep_upd
    · refine ⟨_, dget hp (pen_script a i l), _, dget hp (pen_at a i l), i, rfl, _, dput hp (by show 3 ≤ 1000; decide) (pen_putA a i l (i + 1)), i, rfl, cmul_l (by decide), by decide, fun q hq => ?_⟩
      generalize hH2 : upd (upd H p (.dK (penK a (i + 1) l))) q (.lst []) = H2
      have nqp : p ≠ q := fun e => by subst e; rw [upd_same] at hq; cases hq
      have hp2 : H2 p = some (.dK (penK a (i + 1) l)) := by rw [← hH2, upd_ne nqp, upd_same]
      have kp : Keep p H H2 := by rw [← hH2]; exact keep_upd.trans (same_upd hq).keep
      have hS2 : SqL K H2 a (ns.map V.int) := hS.keep hp kp
      have hq2 : H2 q = some (.lst []) := by rw [← hH2, upd_same]
      have fin : ∀ z, Q (.int (z % m)) H2 := fun z => k _ _ (Int.emod_nonneg _ (by omega)) (Int.emod_lt_of_pos _ hm) ⟨i + 1, l, hp2, by omega, hl, hS2⟩ kp
      have fin2 : ∀ z y, 0 ≤ y → Q (.int (z % m)) (upd H2 p (.dK (penK a (i + 1) y))) := fun z y hy => k _ _ (Int.emod_nonneg _ (by omega)) (Int.emod_lt_of_pos _ hm) ⟨i + 1, y, upd_same, by omega, hy, hS2.keep hp2 keep_upd⟩ (kp.trans keep_upd)
      clear hH2
      refine ⟨a, rfl, _, hS2, SqL.of hq2, ite2 (fun h2 => ?_) (fun h2 => ?_)⟩
      · have hne : 0 < (ns.map V.int).length := by
          cases ns with
          | nil => simp at h2
          | cons _ _ => simp
        have hi2 : i % ((ns.map V.int).length : Int) < ((ns.map V.int).length : Int) := Int.emod_lt_of_pos _ (by omega)
        have hi1 : 0 ≤ i % ((ns.map V.int).length : Int) := Int.emod_nonneg _ (by omega)
        obtain ⟨c, hc⟩ := atI_ints (ns := ns) hi1 (by rw [List.length_map] at hi2 ⊢; exact hi2)
        refine ⟨_, len_lst hS2, i, rfl, by omega, a, rfl, _, hS2, _, hc, _, len_lst hS2, i, rfl, ite2 (fun h3 => ?_) (fun h3 => ?_)⟩
        · walk_at "st"
          refine ite2 (fun h4 => ?_) (fun h4 => ?_)
          · walk_at "st"
            refine ⟨_, dput hp2 (by show 3 ≤ 1000; decide) (pen_putL a (i + 1) l _), ?_⟩
            walk_at "st"
            exact fin2 _ _ (Int.ediv_nonneg (absn _) (by omega))
          · walk_at "st"
            exact fin _
        · walk_at "st"
          exact fin _
      · refine ⟨_, len_lst hS2, i, rfl, ite2 (fun h3 => ?_) (fun h3 => ?_)⟩
        · walk_at "st"
          refine ite2 (fun h4 => ?_) (fun h4 => ?_)
          · walk_at "st"
            refine ⟨_, dput hp2 (by show 3 ≤ 1000; decide) (pen_putL a (i + 1) l _), ?_⟩
            walk_at "st"
            exact fin2 _ _ (Int.ediv_nonneg (absn _) (by omega))
          · walk_at "st"
            exact fin _
        · walk_at "st"
          exact fin _
end
section
variable {P : Program} {w : World} {K : PySem.W.Frag} {mg : Str → Option Value} {base : Heap} {t : Adr}
theorem fn_false {f : Addr} {fd : FuncData} {ps : List Str} : FnOk P w K mg base CX0 0 f fd ps (fun _ _ _ _ => False) := ⟨fun _ _ _ _ h => h.elim, fun _ _ _ _ _ _ _ _ _ _ _ _ _ h => h.elim⟩
def sp_pen (K : PySem.W.Frag) : Sp := fun vs H Q _ => ∃ (a : Addr) (ns : List Int), vs = [.ref a] ∧ SqL K H a (ns.map V.int) ∧ ∀ p H', H p = none → Same H H' → DPen K H' p a ns → Q (.ref p) H'
theorem ok_pen (T : Txt K mg t) : FnOk P w K mg base CX0 1 t.a_l_pen t.d_l_pen ["_law_script"] (sp_pen K) := by
  refine T.f_l_pen.ok sc_l_pen (fun vs H Q E h => ?_) (fun cdv A outer s H vs Q E hr h => ?_)
  · obtain ⟨a, ns, rfl, _⟩ := h; rfl
  · obtain ⟨a, ns, rfl, hS, k⟩ := h
    refine ⟨_, (pss_one (ps_ret (pe_disp (pps_cons pe_str (pv 0) (pps_cons pe_str pe_int (pps_cons pe_str pe_int pps_nil))) rfl rfl (by simp) (by decide)))), ?_⟩
    walk_at "rd"
    refine fun p hp => ⟨upd_same, penK a 0 0, rfl, by show 3 ≤ 15; decide, ?_⟩
    have e : mergeK [] (penK a 0 0) = penK a 0 0 := by
      unfold penK
      simp [mergeK, putK, ps1, ps2, ps3]
    rw [e, upd_upd]
    exact k p _ hp (same_upd hp) ⟨0, 0, upd_same, by decide, by decide, (same_upd hp).seq hS⟩
end
section
variable {P : Program} {w : World} {K : PySem.W.Frag} {mg : Str → Option Value} {base : Heap} {t : Adr}
theorem mem_noLs : ∀ {ds : List D} {d : D}, noLs ds = true → d ∈ ds → noL d = true
  | e :: ds, d, h, m => by
    simp only [noLs, Bool.and_eq_true] at h
    rcases List.mem_cons.mp m with rfl | m
    · exact h.1
    · exact mem_noLs h.2 m
theorem flat_len (st : List Tr) : st.length ≤ ((st.reverse.map Tr.pre).flatten).length := by
  induction st with
  | nil => simp
  | cons a st ih =>
    have := a.size_pos
    rw [List.reverse_cons, List.map_append, List.flatten_append, List.length_append]
    simp only [List.map_cons, List.map_nil, List.flatten_cons, List.flatten_nil, List.append_nil, List.length_cons, Tr.pre_len]
    omega
def sp_upward : Sp := fun vs H Q _ => ∃ (v : V) (lw : Str) (u : Tr), vs = [v, .str lw] ∧ Dat H u.d v ∧ u.ok lw ∧ u.size ≤ 100000 ∧ ∀ l H', H l = none → Same H H' → LD H' l (u.post.map Tr.d) → Q (.ref l) H'
theorem ok_upward (T : Txt K mg t) : FnOk P w K mg base CX0 1 t.a_upward t.d_upward ["tree", "leaf"] sp_upward := by
  refine T.f_upward.ok sc_upward (fun vs H Q E h => ?_) (fun cdv A outer s H vs Q E hr h => ?_)
  · obtain ⟨v, lw, u, rfl, _⟩ := h; rfl
  · obtain ⟨v, lw, u, rfl, hv, hok, hsz, k⟩ := h
    refine ⟨_, (pss_cons (ps_set (i := 2) sc_upward.nd rfl (Or.inl rfl) (pe_lst (pa_cons (pv 0) pa_nil)))
      (pss_cons (ps_set (i := 3) sc_upward.nd rfl (Or.inl rfl) (pe_lst pa_nil))
      (pss_cons (ps_while PassesOwn.never (pt_truth (pv 2) (fun _ => rfl)) (pss_cons (ps_set (i := 4) sc_upward.nd rfl (Or.inl rfl) (pe_bm0 PySem.F.plainAttrs_list PySem.F.slot_list_pop PySem.F.type_list_pop mt_pop (pv 2)))
      (pss_cons (ps_expr (pe_bm PySem.F.plainAttrs_list PySem.F.slot_list_append PySem.F.type_list_append mt_append (pv 3) (pa_cons (pv 4) pa_nil)))
      (pss_one (ps_if (pt_cmpR op_ne (pe_ix ix_tup (pv 4) pe_int (fun _ _ => rfl)) (pv 1) (nomark _)) (pss_cons (ps_expr (pe_bm PySem.F.plainAttrs_list PySem.F.slot_list_append PySem.F.type_list_append mt_append (pv 2) (pa_cons (pe_ix ix_tup (pv 4) (pe_un un_neg pe_int) (fun _ _ => rfl)) pa_nil)))
      (pss_one (ps_expr (pe_bm PySem.F.plainAttrs_list PySem.F.slot_list_append PySem.F.type_list_append mt_append (pv 2) (pa_cons (pe_ix ix_tup (pv 4) (pe_un un_neg pe_int) (fun _ _ => rfl)) pa_nil))))) pss_nil)))))
      (pss_one (ps_ret (pe_rev K rfl (pv 3) (pe_un un_neg pe_int))))))), ?_⟩
    walk_at "rd"
    refine ⟨by decide, fun pw hw => ⟨by decide, fun pd hd => ?_⟩⟩
    have nwd : pd ≠ pw := fun e => by subst e; rw [upd_same] at hd; cases hd
    have hd0 : H pd = none := (same_upd hw).free hd
    obtain ⟨Pv, iP⟩ := inv fun m σ H2 => ∃ (st dn : List Tr) (v5 : Option V), σ = [some v, some (.str lw), some (.ref pw), some (.ref pd), v5] ∧ Same H H2 ∧
      LD H2 pw (st.map Tr.d) ∧ LD H2 pd (dn.map Tr.d) ∧ dn ++ (st.reverse.map Tr.pre).flatten = u.pre ∧ (∀ e ∈ st, e.ok lw) ∧ m = (st.map Tr.size).sum
    refine ⟨Pv, ⟨_, (iP _ _ _).mpr ⟨[u], [], none, rfl, (same_over hw (Same.refl H)).trans (same_upd hd), (LD.one hw hok.noL hv).same (same_upd hd), LD.new, by simp, by simpa using hok, rfl⟩⟩, fun m σ H2 h => ?_⟩
    obtain ⟨st, dn, v5, rfl, sH, lw2, ld2, hfl, hst, hm⟩ := (iP _ _ _).mp h
    walk_at "rd"
    have hlen : dn.length + ((st.reverse.map Tr.pre).flatten).length ≤ 100000 := by
      have := congrArg List.length hfl
      rw [List.length_append, Tr.pre_len] at this
      omega
    have hstl := flat_len st
    obtain hst0 | ⟨st', e, hst0⟩ := last_or st
    all_goals subst hst0
    · refine ⟨_, lw2.tru0, iteF ?_⟩
      obtain ⟨nd, xs, hx, hdx⟩ := ld2
      refine ⟨xs, SqL.of hx, fun p hp => k p _ (sH.free hp) (sH.trans (same_upd hp)) ?_⟩
      have e1 : dn = u.pre := by simpa using hfl
      rw [← Tr.pre_rev, ← e1, List.map_reverse]
      refine ⟨?_, xs.reverse, upd_same, (hdx.same (same_upd hp)).reverse⟩
      exact noLs_all fun d hd => by
        rw [List.mem_reverse] at hd
        exact mem_noLs nd hd
    · refine ⟨_, lw2.tru1 (by simp), iteT ⟨fun σ' H' => ∃ m', m' < m ∧ Pv m' σ' H', fun _ _ h => h, .inl lw2.sq, ?_⟩⟩
      rw [List.map_append, List.map_cons, List.map_nil] at lw2
      obtain ⟨xs, y, hx, hy, hn, hdy, lw3, ts3⟩ := lw2.pop
      refine ⟨xs, hx, y, hy, ?_⟩
      have ld3 : LD (upd H2 pw (.lst xs.dropLast)) pd (dn.map Tr.d) := ld2.over hx nwd
      have sH3 : Same H (upd H2 pw (.lst xs.dropLast)) := same_over hw sH
      generalize upd H2 pw (.lst xs.dropLast) = H3 at hdy lw3 ts3 ld3 sH3 ⊢
      obtain ⟨ys, hys, hysl, ld4, ts4⟩ := ld3.push hn hdy (by simp; omega)
      refine ⟨.inl ld3.sq, ys, hys, hysl, ?_⟩
      have lw4 : LD (upd H3 pd (.lst (ys ++ [y]))) pw (st'.map Tr.d) := lw3.over hys nwd.symm
      have sH4 : Same H (upd H3 pd (.lst (ys ++ [y]))) := same_over hd0 sH3
      have hdy4 := Dat.t ts4 hn hdy
      generalize upd H3 pd (.lst (ys ++ [y])) = H4 at hdy4 ld4 ts4 lw4 sH4 ⊢
      have hok' := hst e (by simp)
      have hst' : ∀ z ∈ st', z.ok lw := fun z hz => hst z (by simp [hz])
      have hdn : dn.map Tr.d ++ [e.d] = (dn ++ [e]).map Tr.d := by simp
      rw [hdn] at ld4
      have hst1 : (st' ++ [e]).length ≤ 100000 := by omega
      rw [List.length_append, List.length_singleton] at hst1
      cases e with
      | lf x =>
        simp only [Tr.d, Dat] at hdy4
        obtain ⟨a, zs, rfl, ha, hz⟩ := hdy4
        obtain ⟨z0, hz0, hdz0⟩ := hz.get hok'.1
        simp only [Dat] at hdz0
        subst hdz0
        refine ⟨a, rfl, zs, SqT.of ha, _, atI_nat (j := 0) hz0, rfl, iteNS rfl ⟨_, ?_, (iP _ _ _).mpr ⟨st', dn ++ [.lf x], _, rfl, sH4, lw4, ld4, ?_, hst', rfl⟩⟩⟩
        · rw [hm]; simp [Tr.size]
        · rw [← hfl]; simp [Tr.pre]
      | nd x l r =>
        obtain ⟨⟨w0, hw0, hw0n⟩, hnx, okl, okr⟩ := hok'
        simp only [Tr.d, Dat] at hdy4
        obtain ⟨a, zs, rfl, ha, hz⟩ := hdy4
        obtain ⟨z0, hz0, hdz0⟩ := hz.get (i := 0) (d := .str w0) (by rw [List.getElem?_append_left (by have := (List.getElem?_eq_some_iff.mp hw0).1; exact this)]; exact hw0)
        simp only [Dat] at hdz0
        subst hdz0
        obtain ⟨zx, zz, rfl, hzx, hzz⟩ := hz.split
        simp only [Dats] at hzz
        obtain ⟨zl, _, rfl, hzl, zr, _, rfl, hzr, rfl⟩ := hzz
        refine ⟨a, rfl, _, SqT.of ha, _, atI_nat (j := 0) hz0, rfl, ?_⟩
        have hne : (!decide (V.str w0 = V.str lw)) = true := by
          simp [hw0n]
        rw [hne]
        refine iteT ⟨.inl lw4.sq, a, rfl, _, SqT.of ha, _, atI_last2, ?_⟩
        obtain ⟨us, hus, husl, lw5, ts5⟩ := lw4.push okl.noL hzl (by simp; omega)
        refine ⟨us, hus, husl, .inl lw5.sq, a, rfl, _, SqT.of (ts5 _ _ ha), _, atI_last1, ?_⟩
        have ld5 := ld4.over (o := .lst (us ++ [zl])) hus nwd
        have sH5 := same_over (o := .lst (us ++ [zl])) hw sH4
        have hzr5 := Dat.t ts5 okr.noL hzr
        generalize upd H4 pw (.lst (us ++ [zl])) = H5 at lw5 ts5 ld5 sH5 hzr5 ⊢
        obtain ⟨us2, hus2, husl2, lw6, ts6⟩ := lw5.push okr.noL hzr5 (by simp; omega)
        refine ⟨us2, hus2, husl2, _, ?_, (iP _ _ _).mpr ⟨st' ++ [l, r], dn ++ [.nd x l r], _, rfl, same_over hw sH5, ?_, ld5.over hus2 nwd, ?_, ?_, rfl⟩⟩
        · rw [hm]; simp [Tr.size] <;> omega
        · simpa using lw6
        · rw [← hfl]; simp [Tr.pre]
        · intro z hz
          simp only [List.mem_append, List.mem_cons, List.not_mem_nil, or_false] at hz
          rcases hz with hz | rfl | rfl
          · exact hst' z hz
          · exact okl
          · exact okr
end
section
variable {P : Program} {w : World} {K : PySem.W.Frag} {mg : Str → Option Value} {base : Heap} {t : Adr}
def lfB : Tr → Bool
  | .lf _ => true
  | .nd _ _ _ => false
/-- the head of a part -/
theorem part_head {H : Hp} {u : Tr} {lw : Str} {x : V} (ho : u.ok lw) (h : Dat H u.d x) : ∃ a xs z, x = .ref a ∧ H a = some (.tup xs) ∧ atI xs 0 = some (.str z) ∧ (z = lw ↔ lfB u = true) := by
  cases u with
  | lf y =>
    simp only [Tr.d, Dat] at h
    obtain ⟨a, zs, rfl, ha, hz⟩ := h
    obtain ⟨z0, hz0, hdz0⟩ := hz.get ho.1
    simp only [Dat] at hdz0
    subst hdz0
    exact ⟨a, zs, lw, rfl, ha, atI_nat (j := 0) hz0, by simp [lfB]⟩
  | nd y l r =>
    obtain ⟨⟨w0, hw0, hw0n⟩, hnx, okl, okr⟩ := ho
    simp only [Tr.d, Dat] at h
    obtain ⟨a, zs, rfl, ha, hz⟩ := h
    obtain ⟨z0, hz0, hdz0⟩ := hz.get (i := 0) (d := .str w0) (by rw [List.getElem?_append_left (by have := (List.getElem?_eq_some_iff.mp hw0).1; exact this)]; exact hw0)
    simp only [Dat] at hdz0
    subst hdz0
    exact ⟨a, zs, w0, rfl, ha, atI_nat (j := 0) hz0, by simp [lfB, hw0n]⟩
theorem drop_cons {α : Type} {xs : List α} {i : Nat} {x : α} (h : xs[i]? = some x) : xs.drop i = x :: xs.drop (i + 1) := by
  have hi := (List.getElem?_eq_some_iff.mp h).1
  rw [List.drop_eq_getElem_cons hi]
  congr 1
  exact (List.getElem?_eq_some_iff.mp h).2
theorem map_get {α β : Type} {f : α → β} {xs : List α} {i : Nat} {y : β} (h : (xs.map f)[i]? = some y) : ∃ x, xs[i]? = some x ∧ y = f x := by
  rw [List.getElem?_map] at h
  cases e : xs[i]? with
  | none => rw [e] at h; cases h
  | some x => rw [e] at h; cases h; exact ⟨x, rfl, rfl⟩
end
section
variable {P : Program} {w : World} {K : PySem.W.Frag} {mg : Str → Option Value} {base : Heap} {t : Adr}
/-- what comes of a tree, by g: of_leaf and of_fork tell g of a leaf, of a fork -/
def sp_folded (kc : Nat) (P : Program) (w : World) (K : PySem.W.Frag) (mg : Str → Option Value) (base : Heap) : Sp := fun vs H Q _ => ∃ (v : V) (lw : Str) (u : Tr) (f1 f2 : Addr) (g : Tr → D) (s1 s2 : Sp), vs = [v, .str lw, .ref f1, .ref f2] ∧ Dat H u.d v ∧ u.ok lw ∧ u.size ≤ 100000 ∧
  (∀ e ∈ u.post, noL (g e) = true) ∧ Clo P w K mg base H kc f1 1 s1 ∧ Clo P w K mg base H kc f2 3 s2 ∧
  (∀ x H1 y Q1, Tr.lf x ∈ u.post → Same H H1 → Dat H1 (Tr.lf x).d y → (∀ r H2, Same H1 H2 → Dat H2 (g (.lf x)) r → Q1 r H2) → s1 [y] H1 Q1 E0) ∧
  (∀ x l r H1 y a b Q1, Tr.nd x l r ∈ u.post → Same H H1 → Dat H1 (Tr.nd x l r).d y → Dat H1 (g l) a → Dat H1 (g r) b → (∀ z H2, Same H1 H2 → Dat H2 (g (.nd x l r)) z → Q1 z H2) → s2 [y, a, b] H1 Q1 E0) ∧
  ∀ r H', Same H H' → Dat H' (g u) r → Q r H'
theorem capNil (b : Heap) : CapOk b [] [] [] := ⟨rfl, fun _ _ h => (nomatch h), fun _ _ _ h => (nomatch h), fun _ _ _ h => (nomatch h)⟩
theorem cap1 {b : Heap} {x : Str} {c : Addr} {v : V} {u : Value} (h : b.IsCell c (some u)) (r : RelV v u) : CapOk b [(x, c)] [x] [v] := by
  have lk : ∀ y d, ([(x, c)] : List (Str × Addr)).lookup y = some d → y = x ∧ d = c := fun y d e => by
    rw [List.lookup_cons] at e
    cases q : y == x with
    | true => rw [q] at e; cases e; exact ⟨eq_of_beq q, rfl⟩
    | false => rw [q] at e; cases e
  refine ⟨rfl, fun y d e => ?_, fun y z d e1 e2 => (lk y d e1).1.trans (lk z d e2).1.symm, fun j y w h1 h2 => ?_⟩
  · rw [(lk y d e).1]; exact List.mem_singleton.mpr rfl
  · cases j with
    | zero =>
      simp at h1 h2
      subst h1 h2
      exact ⟨c, u, by simp [List.lookup], h, r⟩
    | succ j => simp at h1
theorem ok_folded (kc : Nat) (T : Txt K mg t) : FnOk P w K mg base CX0 (kc + 3) t.a_folded t.d_folded ["tree", "leaf", "of_leaf", "of_fork"] (sp_folded kc P w K mg base) := by
  have G_upward : FnOk P w K mg base CX0 1 t.a_upward t.d_upward ["tree", "leaf"] sp_upward := ok_upward T
  refine T.f_folded.ok sc_folded (fun vs H Q E h => ?_) (fun cdv A outer s H vs Q E hr h => ?_)
  · obtain ⟨v, lw, u, f1, f2, g, s1, s2, rfl, _⟩ := h; rfl
  · obtain ⟨v, lw, u, f1, f2, g, s1, s2, rfl, hv, hok, hsz, hg, C1, C2, k1, k2, k⟩ := h
    refine ⟨_, (pss_cons (ps_set (i := 4) sc_folded.nd rfl (Or.inl rfl) (pe_lst pa_nil))
      (pss_cons (ps_for PassesOwn.never rfl (pi_list (pe_call G_upward (hr.mono (by omega)) (by rfl) T.m_upward T.k_upward T.p_upward .nil pass0 (pa_cons (pv 0) (pa_cons (pv 1) pa_nil)))) (pg_name (i := 5) sc_folded.nd rfl (Or.inl rfl)) (pss_one (ps_if (pt_cmpR op_eq (pe_ix ix_tup (pv 5) pe_int (fun _ _ => rfl)) (pv 1) (nomark _)) (pss_one (ps_expr (pe_bm PySem.F.plainAttrs_list PySem.F.slot_list_append PySem.F.type_list_append mt_append (pv 4) (pa_cons (pe_callV (k := kc) (n := 1) (i := 2) (hr.mono (by omega)) rfl (Or.inl rfl) (pa_cons (pv 5) pa_nil)) pa_nil)))) (pss_cons (ps_set (i := 6) sc_folded.nd rfl (Or.inl rfl) (pe_bm0 PySem.F.plainAttrs_list PySem.F.slot_list_pop PySem.F.type_list_pop mt_pop (pv 4)))
      (pss_cons (ps_set (i := 7) sc_folded.nd rfl (Or.inl rfl) (pe_bm0 PySem.F.plainAttrs_list PySem.F.slot_list_pop PySem.F.type_list_pop mt_pop (pv 4)))
      (pss_one (ps_expr (pe_bm PySem.F.plainAttrs_list PySem.F.slot_list_append PySem.F.type_list_append mt_append (pv 4) (pa_cons (pe_callV (k := kc) (n := 3) (i := 3) (hr.mono (by omega)) rfl (Or.inl rfl) (pa_cons (pv 5) (pa_cons (pv 7) (pa_cons (pv 6) pa_nil)))) pa_nil)))))))))
      (pss_one (ps_ret (pe_ix ix_list (pv 4) pe_int (fun _ _ => rfl)))))), ?_⟩
    walk_at "rd"
    refine ⟨by decide, fun pd hd => ⟨v, lw, u, rfl, hv.same (same_upd hd), hok, hsz, fun L H1 hL s1' l1 => ⟨L, rfl, l1.sq, ?_⟩⟩⟩
    have hpd1 : H1 pd = some (.lst []) := s1' _ _ upd_same
    have nLd : L ≠ pd := fun e => by subst e; rw [upd_same] at hL; cases hL
    have sH1 : Same H H1 := (same_upd hd).trans s1'
    obtain ⟨Pv, iP⟩ := inv fun i σ H2 => ∃ (st : List Tr) (v5 v6 v7 : Option V), σ = [some v, some (.str lw), some (.ref f1), some (.ref f2), some (.ref pd), v5, v6, v7] ∧ Keep pd H1 H2 ∧ LD H2 pd (st.map g) ∧ Tr.chk u (u.post.drop i) st ∧ st.length ≤ i
    refine forW_LD l1 hpd1 nLd Pv ((iP _ _ _).mpr ⟨[], _, _, _, rfl, Keep.refl _ _, (LD.new (H := H)).same s1', by simpa using Tr.chk_all u, Nat.le_refl _⟩) (fun i σ H2 h => by obtain ⟨_, _, _, _, _, h, _⟩ := (iP _ _ _).mp h; exact h) (fun i x d σ H2 hx hn hdx k2' h => ?_) (fun σ H2 h => ?_)
    · obtain ⟨st, v5, v6, v7, rfl, _, ld, hc, hsl⟩ := (iP _ _ _).mp h
      obtain ⟨e, he, rfl⟩ := map_get hx
      have hil : i ≤ 100000 := by
        have := (List.getElem?_eq_some_iff.mp he).1
        rw [Tr.post_len] at this
        omega
      rw [drop_cons he] at hc
      have hme := List.mem_of_getElem? he
      have hoe := hok.post e hme
      have sH2 : Same H H2 := Keep.same hd sH1 k2'
      obtain ⟨a, xs, z, rfl, ha, hz, hm⟩ := part_head hoe hdx
      walk_at "rd"
      refine ⟨xs, SqT.of ha, _, hz, rfl, ?_⟩
      cases e with
      | lf y =>
        have hm := hm.mpr rfl
        subst hm
        simp only [Tr.chk] at hc
        rw [if_pos (by simp)]
        refine ⟨.inl ld.sq, s1, C1, k1 y H2 _ _ hme sH2 hdx fun r H3 s3 hr3 => ?_⟩
        obtain ⟨ys, h1, h2, h3, h4⟩ := (ld.same s3).push (hg _ hme) hr3 (by simp; omega)
        refine ⟨ys, h1, h2, (iP _ _ _).mpr ⟨st ++ [.lf y], _, _, _, rfl, Keep.trans (Keep.trans k2' (fun c o _ h => s3 c o h)) keep_upd, ?_, hc, by simp; omega⟩⟩
        simpa using h3
      | nd y l r =>
        rw [if_neg (by simp [lfB] at hm ⊢; exact hm)]
        simp only [Tr.chk] at hc
        obtain ⟨st', rfl, hc⟩ := hc
        rw [List.length_append] at hsl
        have e2 : (st' ++ [l, r]).map g = (st'.map g ++ [g l]) ++ [g r] := by simp
        rw [e2] at ld
        obtain ⟨ys, y1, h1, h2, hn1, hd1, h3, h4⟩ := ld.pop
        refine ⟨.inl ld.sq, ys, h1, _, h2, .inl h3.sq, ?_⟩
        obtain ⟨zs, y2, h5, h6, hn2, hd2, h7, h8⟩ := h3.pop
        refine ⟨zs, h5, _, h6, .inl h7.sq, s2, C2, ?_⟩
        have hdx3 := Dat.t h8 hoe.noL (Dat.t h4 hoe.noL hdx)
        have hd13 := Dat.t h8 hn1 hd1
        have kk : Keep pd H1 (upd (upd H2 pd (.lst ys.dropLast)) pd (.lst zs.dropLast)) := (k2'.trans keep_upd).trans keep_upd
        refine k2 y l r _ _ _ _ _ hme (Keep.same hd sH1 kk) hdx3 hd2 hd13 fun z H3 s3 hz3 => ?_
        obtain ⟨ws, h9, h10, h11, h12⟩ := (h7.same s3).push (hg _ hme) hz3 (by simp at hsl ⊢; omega)
        refine ⟨ws, h9, h10, (iP _ _ _).mpr ⟨st' ++ [.nd y l r], _, _, _, rfl, Keep.trans (Keep.trans kk (fun c o _ h => s3 c o h)) keep_upd, ?_, hc, by simp at hsl ⊢; omega⟩⟩
        simpa using h11
    · obtain ⟨st, v5, v6, v7, rfl, k2', ld, hc, hsl⟩ := (iP _ _ _).mp h
      rw [List.drop_of_length_le (by simp)] at hc
      simp only [Tr.chk] at hc
      subst hc
      obtain ⟨xs, x, h1, h2, _, _, hd3⟩ := ld.get (i := 0) rfl
      walk_at "rd"
      exact ⟨xs, SqL.of h1, _, atI_nat (j := 0) h2, k _ _ (Keep.same hd sH1 k2') hd3⟩
end
section
variable {P : Program} {w : World} {K : PySem.W.Frag} {mg : Str → Option Value} {base : Heap} {t : Adr}
theorem tkeep {p : Addr} {H H' : Hp} {kvs : List (Key × V)} (hp : H p = some (.dK kvs)) (k : Keep p H H') : TSame H H' := fun b xs h => k b _ (ne_of h hp (by intro z; cases z)) h
/-- a saying as a tree -/
def SayT (pl : Nat) (bs : List Int) : Tr → Prop
  | .lf x => ∃ (p : Nat) (b : Int), x = [.str "is", .int p, .int b] ∧ p < pl ∧ b ∈ bs
  | .nd x l r => (x = [.str "and"] ∨ x = [.str "or"]) ∧ SayT pl bs l ∧ SayT pl bs r
theorem sw1 : ¬ ("and" : Str) = "is" := by decide +kernel
theorem sw2 : ¬ ("or" : Str) = "is" := by decide +kernel
theorem sw3 : ¬ ("or" : Str) = "and" := by decide +kernel
theorem SayT.ok {pl : Nat} {bs : List Int} : ∀ {u : Tr}, SayT pl bs u → u.ok "is"
  | .lf x, h => by
    obtain ⟨p, b, rfl, _⟩ := h
    exact ⟨rfl, by simp [noLs, noL]⟩
  | .nd x l r, h => by
    obtain ⟨hx, hl, hr⟩ := h
    refine ⟨?_, ?_, SayT.ok hl, SayT.ok hr⟩
    · rcases hx with rfl | rfl
      · exact ⟨_, rfl, sw1⟩
      · exact ⟨_, rfl, sw2⟩
    · rcases hx with rfl | rfl <;> simp [noLs, noL]
theorem SayT.post {pl : Nat} {bs : List Int} : ∀ {u : Tr}, SayT pl bs u → ∀ e ∈ u.post, SayT pl bs e
  | .lf x, h, e, he => by simp only [Tr.post, List.mem_singleton] at he; subst he; exact h
  | .nd x l r, h, e, he => by
    simp only [Tr.post, List.mem_append, List.mem_singleton] at he
    rcases he with (he | he) | he
    · exact SayT.post h.2.1 e he
    · exact SayT.post h.2.2 e he
    · subst he; exact h
theorem SayT.mono {pl pl' : Nat} {bs : List Int} (hp : pl ≤ pl') : ∀ {u : Tr}, SayT pl bs u → SayT pl' bs u
  | .lf x, h => by
    obtain ⟨p, b, rfl, h1, h2⟩ := h
    exact ⟨p, b, rfl, by omega, h2⟩
  | .nd x l r, h => ⟨h.1, SayT.mono hp h.2.1, SayT.mono hp h.2.2⟩
def isAnd : List D → Bool
  | [.str j] => decide (j = "and")
  | _ => false
/-- the value at a word -/
def valT (wd : List Int) : Tr → Bool
  | .lf [_, .int p, .int b] => wd[p.toNat]? == some b
  | .lf _ => false
  | .nd x l r => if isAnd x then valT wd l && valT wd r else valT wd l || valT wd r
def sp_value : Sp := fun vs H Q _ => ∃ (v wv : V) (u : Tr) (pl : Nat) (bs wd : List Int), vs = [v, wv] ∧ Dat H u.d v ∧ SayT pl bs u ∧ u.size ≤ 100000 ∧ Dat H (.tup (wd.map D.int)) wv ∧ pl ≤ wd.length ∧ ∀ H', Same H H' → Q (.int (if valT wd u then 1 else 0)) H'
theorem ok_value (T : Txt K mg t) : FnOk P w K mg base CX0 6 t.a_value t.d_value ["saying", "word"] sp_value := by
  have G_folded : ∀ b', FnOk P w K mg b' CX0 4 t.a_folded t.d_folded ["tree", "leaf", "of_leaf", "of_fork"] (sp_folded 1 P w K mg b') := fun b' => ok_folded 1 T
  refine T.ft_value.ok sc_value (fun vs H Q E h => ?_) (fun A outer s H vs Q E hr h => ?_)
  · obtain ⟨v, wv, u, pl, bs, wd, rfl, _⟩ := h; rfl
  · obtain ⟨v, wv, u, pl, bs, wd, rfl, hv, hsay, hsz, hwv, hpl, k⟩ := h
    simp only [Dat] at hwv
    obtain ⟨wa, ws, rfl, hwa, hws⟩ := hwv
    refine ⟨_, (pss_one (ps_ret (pe_callC G_folded (hr.mono (by omega)) (by rfl) T.m_folded T.k_folded T.p_folded (pa_cons (pv 0) (pa_consC pe_str (pa_cons (pe_lam (x := "value") rfl rfl T.ft_value.tab T.ft_value.hd rfl) (pa_cons (pe_lam (x := "value") rfl rfl T.ft_value.tab T.ft_value.hd rfl) pa_nil))))))), ?_⟩
    walk_at "rd"
    intro f1 H1 m1 _ M1 f2 H2 m2 _ M2 b' sub cb
    have sH : Same H H2 := m1.trans m2
    obtain ⟨wc, wu, hwc, hcell, hrel⟩ := cb 1 "word" (.ref wa) rfl rfl rfl rfl
    obtain rfl : s.heap.objs.size + 1 = wc := Option.some.inj hwc
    have C1 : Clo P w K mg b' H2 1 f1 1 (fun vs H' Q' _ => ∃ (y : V) (p : Nat) (b : Int), vs = [y] ∧ Dat H' (.tup [.str "is", .int p, .int b]) y ∧ p < wd.length ∧ Same H H' ∧ Q' (.int (if valT wd (.lf [.str "is", .int p, .int b]) then 1 else 0)) H') := by
      refine clo_of (ps := ["leaf"]) (cs := ["word"]) (caps := [.ref wa]) (M1.frz m2.frz) ⟨rfl, rfl, rfl, by decide +kernel, by decide +kernel, by decide +kernel, by decide +kernel⟩ (cap1 hcell hrel) (fun pm c ctv us hl => match us, hl with | [_], _ => rfl) (fun vs H Q E h => ?_) (fun cd A outer s H' vs Q' E hr h => ?_)
      · obtain ⟨y, p, b, rfl, _⟩ := h; rfl
      · obtain ⟨y, p, b, rfl, hdx, hwp, sm, h⟩ := h
        simp only [Dat, Dats] at hdx
        obtain ⟨a, xs, rfl, ha, _, _, rfl, rfl, _, _, rfl, rfl, _, _, rfl, rfl, rfl⟩ := hdx
        obtain ⟨wx, hwx, hdw⟩ := hws.get (i := p) (d := .int wd[p]) (by rw [List.getElem?_map, List.getElem?_eq_getElem hwp]; rfl)
        simp only [Dat] at hdw
        subst hdw
        have ev : valT wd (.lf [.str "is", .int p, .int b]) = decide (wd[p] = b) := by
          simp only [valT, Int.toNat_natCast, List.getElem?_eq_getElem hwp]
          by_cases h : wd[p] = b <;> simp [h]
        refine ⟨_, (pe_ifExp (pt_cmpR op_eq (pe_ix ix_tup (pv 1) (pe_ix ix_tup (pv 0) pe_int (fun _ _ => rfl)) (fun _ _ => rfl)) (pe_ix ix_tup (pv 0) pe_int (fun _ _ => rfl)) (nomark _)) pe_int pe_int), ?_⟩
        walk_at "rd"
        refine ⟨_, SqT.of ha, _, rfl, _, _, rfl, SqT.of (sm _ _ hwa), _, atI_nat (j := p) hwx, _, SqT.of ha, _, rfl, rfl, ite2 (fun h5 => ?_) (fun h5 => ?_)⟩
        · rw [ev, decide_eq_true (V.int.inj h5)] at h; exact h
        · rw [ev, decide_eq_false (fun z => h5 (by rw [z]))] at h; exact h
    have C2 : Clo P w K mg b' H2 1 f2 3 (fun vs H' Q' _ => ∃ (y : V) (x : List D) (l r : Tr), vs = [y, .int (if valT wd l then 1 else 0), .int (if valT wd r then 1 else 0)] ∧ (x = [.str "and"] ∨ x = [.str "or"]) ∧ Dat H' (.tup (x ++ [l.d, r.d])) y ∧ Q' (.int (if valT wd (.nd x l r) then 1 else 0)) H') := by
      refine clo_of (ps := ["part", "one", "other"]) (cs := []) (caps := []) M2 ⟨rfl, rfl, rfl, by decide +kernel, by decide +kernel, by decide +kernel, by decide +kernel⟩ (capNil b') (fun pm c ctv us hl => match us, hl with | [_, _, _], _ => rfl) (fun vs H Q E h => ?_) (fun cd A outer s H' vs Q' E hr h => ?_)
      · obtain ⟨y, x, l, r, rfl, _⟩ := h; rfl
      · obtain ⟨y, x, l, r, rfl, hx, hdx, h⟩ := h
        obtain ⟨j, rfl, hja⟩ : ∃ j : Str, x = [.str j] ∧ isAnd x = decide (j = "and") := by
          rcases hx with rfl | rfl
          · exact ⟨_, rfl, rfl⟩
          · exact ⟨_, rfl, rfl⟩
        simp only [List.cons_append, List.nil_append, Dat, Dats] at hdx
        obtain ⟨a, xs, rfl, ha, _, _, rfl, rfl, xl, _, rfl, hxl, xr, _, rfl, hxr, rfl⟩ := hdx
        refine ⟨_, (pe_ifExp (pt_cmpR op_eq (pe_ix ix_tup (pv 0) pe_int (fun _ _ => rfl)) pe_str (nomark _)) (pe_callB (call_min2 rfl) (by rfl) T.b_min (by kernel_rfl) (pa_cons (pv 1) (pa_cons (pv 2) pa_nil))) (pe_callB (call_max2 rfl) (by rfl) T.b_max (by kernel_rfl) (pa_cons (pv 1) (pa_cons (pv 2) pa_nil)))), ?_⟩
        walk_at "rd"
        refine ⟨_, SqT.of ha, _, rfl, rfl, ite2 (fun h9 => ?_) (fun h9 => ?_)⟩
        · simp only [valT, hja, decide_eq_true (V.str.inj h9)] at h
          revert h
          cases valT wd l <;> cases valT wd r <;> exact fun h => h
        · have h10 : ¬ j = "and" := fun z => h9 (congrArg V.str z)
          simp only [valT, hja, decide_eq_false h10] at h
          revert h
          cases valT wd l <;> cases valT wd r <;> exact fun h => h
    refine ⟨v, _, u, f1, f2, fun e => .int (if valT wd e then 1 else 0), _, _, rfl, hv.same sH, hsay.ok, hsz, fun _ _ => rfl, C1, C2, fun x H3 y Q1 hm s3 hy h => ?_, fun x l r H3 y a b Q1 hm s3 hy ha hb h => ?_, fun r H' sm hr' => ?_⟩
    · obtain ⟨p, b, rfl, hp, hb⟩ := hsay.post _ hm
      exact ⟨y, p, b, rfl, hy, by omega, sH.trans s3, h _ _ (Same.refl _) (by simp [Dat])⟩
    · simp only [Dat] at ha hb
      subst ha hb
      obtain ⟨hx, _, _⟩ := hsay.post _ hm
      exact ⟨y, x, l, r, rfl, hx, hy, h _ _ (Same.refl _) (by simp [Dat])⟩
    · simp only [Dat] at hr'
      subst hr'
      exact k _ (sH.trans sm)
end
section
variable {P : Program} {w : World} {K : PySem.W.Frag} {mg : Str → Option Value} {base : Heap} {t : Adr}
/-- the word that is counted so -/
def wordOf (pl n : Nat) : List Int := (List.range pl).map fun p => if n.testBit (pl - 1 - p) then 1 else 0
theorem wordOf_len (pl n : Nat) : (wordOf pl n).length = pl := by simp [wordOf]
theorem wordOf_get {pl n p : Nat} (h : p < pl) : (wordOf pl n)[p]? = some (if n.testBit (pl - 1 - p) then 1 else 0) := by
  unfold wordOf
  rw [List.getElem?_map, List.getElem?_range h]
  rfl
/-- the bit of a number at a place of its word -/
theorem word_bit {pl n p : Nat} (h : p < pl) : Builtin.bitAnd ((n : Int) / 2 ^ ((pl : Int) - 1 - (p : Int)).toNat) 1 = if n.testBit (pl - 1 - p) then 1 else 0 := by
  have : ((pl : Int) - 1 - (p : Int)).toNat = pl - 1 - p := by omega
  rw [this, bit_at]
theorem take_map {α : Type} {f : α → D} {xs : List α} {i : Nat} {x : α} (h : xs[i]? = some x) : (xs.take (i + 1)).map f = (xs.take i).map f ++ [f x] := by
  rw [List.take_succ, h]; simp
end
section
variable {P : Program} {w : World} {K : PySem.W.Frag} {mg : Str → Option Value} {base : Heap} {t : Adr}
def sp_word : Sp := fun vs H Q _ => ∃ pl n : Nat, vs = [.int pl, .int n] ∧ pl ≤ 1000 ∧ ∀ v H', Same H H' → Dat H' (.tup ((wordOf pl n).map D.int)) v → Q v H'
theorem ok_word (T : Txt K mg t) : FnOk P w K mg base CX0 1 t.a_l_word t.d_l_word ["_law_places", "_law_number"] sp_word := by
  refine T.f_l_word.ok sc_l_word (fun vs H Q E h => ?_) (fun cdv A outer s H vs Q E hr h => ?_)
  · obtain ⟨pl, n, rfl, _⟩ := h; rfl
  · obtain ⟨pl, n, rfl, hpl, k⟩ := h
    refine ⟨_, (pss_one (ps_ret (pe_callTy call_tuple_of (by rfl) T.b_tuple (by kernel_rfl) (pa_cons (pe_comp (N := (["_law_p", "_law_places", "_law_number"] : List Str)) (src := [none, some 0, some 1]) rfl (by show blkOk _ (defScope s_l_word) _ _ (["_law_places", "_law_number"] : List Str) = true; decide +kernel) (by intro g' h; cases h) (pi_range1 rfl T.b_range (pa_cons (pv 0) pa_nil)) (fun _ _ _ _ _ _ => (pg_name (i := 0) (show (["_law_p", "_law_places", "_law_number"] : List Str).Nodup by decide +kernel) rfl (Or.inl rfl))) (fun _ _ _ _ _ _ => pts_nil) (fun _ _ _ _ _ _ => (pl_last rfl rfl (pe_op op_and (pe_op op_shr (pv 2) (pe_op op_sub (pe_op op_sub (pv 1) pe_int) (pv 0))) pe_int)))) pa_nil)))), ?_⟩
    walk_at "rd"
    refine ⟨by omega, by omega, fun acc hacc => ?_⟩
    obtain ⟨Pv, iP⟩ := inv fun i σ H2 => ∃ (v0 : Option V), σ = [v0, some (.int pl), some (.int n)] ∧ Keep acc (upd H acc (.lst [])) H2 ∧ LD H2 acc (((wordOf pl n).take i).map D.int)
    refine cloop_range Pv ((iP _ _ _).mpr ⟨none, rfl, Keep.refl _ _, LD.new⟩) (fun i σ H2 hi h => ?_) (fun σ H2 h => ?_)
    · obtain ⟨v0, rfl, k2, ld⟩ := (iP _ _ _).mp h
      have hi' : i < pl := by omega
      walk_at "rd"
      refine ⟨by omega, ?_⟩
      rw [show (0 : Int) + (i : Int) = i by omega, word_bit hi']
      obtain ⟨ys, h1, h2, h3, h4⟩ := ld.push (d := .int (if n.testBit (pl - 1 - i) then 1 else 0)) (v := .int (if n.testBit (pl - 1 - i) then 1 else 0)) (by simp [noL]) (by simp [Dat]) (by simp; omega)
      refine ⟨ys, h1, h2, (iP _ _ _).mpr ⟨_, rfl, k2.trans keep_upd, ?_⟩⟩
      rw [take_map (wordOf_get hi')]
      exact h3
    · obtain ⟨v0, rfl, k2, n2, xs, hx, hd⟩ := (iP _ _ _).mp h
      rw [List.take_of_length_le (by rw [wordOf_len]; omega)] at hd
      refine ⟨xs, .inl ⟨SqL.of hx, fun l hl => k _ _ ((Keep.same hacc (same_upd hacc) k2).trans (same_upd hl)) ?_⟩⟩
      simp only [Dat]
      exact ⟨l, xs, rfl, upd_same, hd.same (same_upd hl)⟩
end
section
variable {P : Program} {w : World} {K : PySem.W.Frag} {mg : Str → Option Value} {base : Heap} {t : Adr}
theorem na01 (c : Prop) [Decidable c] : ((if c then 1 else 0 : Int)).natAbs < 2 ^ 64 := by split <;> decide
def sp_mask (r : Nat) : Sp := fun vs H Q _ => ∃ (v : V) (u : Tr) (pl : Nat) (bs : List Int), vs = [.int pl, v] ∧ Dat H u.d v ∧ SayT pl bs u ∧ u.dp ≤ r ∧ pl ≤ 5 ∧ ∀ (m : Nat) H', Same H H' → (∀ n, n < 2 ^ pl → m.testBit n = valT (wordOf pl n) u) → Q (.int m) H'
theorem mask_step (T : Txt K mg t) (r : Nat) (sp' : Sp) (G_l_mask : FnOk P w K mg base CX0 r t.a_l_mask t.d_l_mask ["_law_places", "_law_saying"] sp') (hsp : ∀ g, r = g + 1 → sp' = sp_mask g) :
    FnOk P w K mg base CX0 (r + 1) t.a_l_mask t.d_l_mask ["_law_places", "_law_saying"] (sp_mask r) := by
  refine T.f_l_mask.ok sc_l_mask (fun vs H Q E h => ?_) (fun cdv A outer s H vs Q E hr h => ?_)
  · obtain ⟨v, u, pl, bs, rfl, _⟩ := h; rfl
  · obtain ⟨v, u, pl, bs, rfl, hv, hs, hdp, hpl, k⟩ := h
    refine ⟨_, (pss_cons (ps_asg (pv 1) (pg_tup (n := 3) rfl (pgs_cons (pg_name (i := 2) sc_l_mask.nd rfl (Or.inl rfl)) (pgs_cons (pg_name (i := 3) sc_l_mask.nd rfl (Or.inl rfl)) (pgs_cons (pg_name (i := 4) sc_l_mask.nd rfl (Or.inl rfl)) pgs_nil)))))
      (pss_cons (ps_if (pt_cmpR op_eq (pv 2) pe_str (nomark _)) (pss_cons (ps_set (i := 5) sc_l_mask.nd rfl (Or.inl rfl) pe_int)
      (pss_cons (ps_for PassesOwn.never rfl (pi_range1 rfl T.b_range (pa_cons (pe_op op_shl pe_int (pv 0)) pa_nil)) (pg_name (i := 6) sc_l_mask.nd rfl (Or.inl rfl)) (pss_one (ps_set (i := 5) sc_l_mask.nd rfl (Or.inl rfl) (pe_op op_or (pv 5) (pe_op op_shl (pe_callTy call_int1 (by rfl) T.b_int (by kernel_rfl) (pa_cons (pe_cmpR op_eq (pe_op op_and (pe_op op_shr (pv 6) (pe_op op_sub (pe_op op_sub (pv 0) pe_int) (pv 3))) pe_int) (pv 4) (nomark _)) pa_nil)) (pv 6))))))
      (pss_one (ps_ret (pv 5))))) pss_nil)
      (pss_cons (ps_if (pt_cmpR op_eq (pv 2) pe_str (nomark _)) (pss_one (ps_ret (pe_op op_and (pe_call G_l_mask (hr.mono (by omega)) (by rfl) T.m_l_mask T.k_l_mask T.p_l_mask .nil pass0 (pa_cons (pv 0) (pa_cons (pv 3) pa_nil))) (pe_call G_l_mask (hr.mono (by omega)) (by rfl) T.m_l_mask T.k_l_mask T.p_l_mask .nil pass0 (pa_cons (pv 0) (pa_cons (pv 4) pa_nil)))))) pss_nil)
      (pss_one (ps_ret (pe_op op_or (pe_call G_l_mask (hr.mono (by omega)) (by rfl) T.m_l_mask T.k_l_mask T.p_l_mask .nil pass0 (pa_cons (pv 0) (pa_cons (pv 3) pa_nil))) (pe_call G_l_mask (hr.mono (by omega)) (by rfl) T.m_l_mask T.k_l_mask T.p_l_mask .nil pass0 (pa_cons (pv 0) (pa_cons (pv 4) pa_nil))))))))), ?_⟩
    cases u with
    | lf x =>
      obtain ⟨p, b, rfl, hp, hb⟩ := hs
      simp only [Tr.d, Dat, Dats] at hv
      obtain ⟨a, xs, rfl, ha, _, _, rfl, rfl, _, _, rfl, rfl, _, _, rfl, rfl, rfl⟩ := hv
      walk_at "rd"
      refine ⟨_, SqT.of ha, rfl, _, _, rfl, _, _, rfl, _, _, rfl, rfl, rfl, ?_⟩
      rw [if_pos (by simp)]
      obtain ⟨z, hz⟩ : ∃ z : Nat, z = 2 ^ pl := ⟨_, rfl⟩
      have e2 : (1 : Int) * 2 ^ (pl : Int).toNat = (z : Int) := by
        rw [Int.one_mul, Int.toNat_natCast, hz]; push_cast; rfl
      have hz1 : z ≤ 32 := by
        rw [hz]
        exact Nat.le_trans (Nat.pow_le_pow_right (by decide) hpl) (by decide)
      rw [e2]
      refine ⟨⟨by omega, by omega, by decide⟩, by omega, by omega, ?_⟩
      obtain ⟨Pv, iP⟩ := inv fun i σ H2 => ∃ (m : Nat) (v6 : Option V), σ = [some (.int pl), some (.ref a), some (.str "is"), some (.int p), some (.int b), some (.int m), v6] ∧ H2 = H ∧ ∀ n, m.testBit n = (decide (n < i) && valT (wordOf pl n) (.lf [.str "is", .int p, .int b]))
      refine forW_range Pv ((iP _ _ _).mpr ⟨0, _, rfl, rfl, by simp⟩) (fun i σ H2 hi h => ?_) (fun σ H2 h => ?_)
      · obtain ⟨m, v6, rfl, rfl, hm⟩ := (iP _ _ _).mp h
        walk_at "rd"
        rw [show (0 : Int) + (i : Int) = i by omega, word_bit hp]
        have ev : valT (wordOf pl i) (.lf [.str "is", .int p, .int b]) = decide ((if i.testBit (pl - 1 - p) then (1 : Int) else 0) = b) := by
          simp only [valT, Int.toNat_natCast, wordOf_get hp]
          by_cases h : (if i.testBit (pl - 1 - p) then (1 : Int) else 0) = b <;> simp [h]
        refine ⟨by omega, ⟨by omega, by omega, na01 _⟩, ?_⟩
        have e3 : (if (if i.testBit (pl - 1 - p) = true then 1 else 0) = b then (1 : Int) else 0) * 2 ^ (i : Int).toNat = (((if valT (wordOf pl i) (.lf [.str "is", .int p, .int b]) then 2 ^ i else 0 : Nat)) : Int) := by
          rw [ev, Int.toNat_natCast]
          by_cases h : (if i.testBit (pl - 1 - p) then (1 : Int) else 0) = b
          · simp [h]
          · simp [h]
        rw [e3, bitOr_nat]
        refine (iP _ _ _).mpr ⟨_, _, rfl, rfl, fun n => ?_⟩
        rw [Nat.testBit_or, hm n]
        by_cases hni : n = i
        · subst hni
          cases valT (wordOf pl n) (.lf [.str "is", .int p, .int b]) <;> simp [Nat.testBit_two_pow_self]
        · have : (if valT (wordOf pl i) (.lf [.str "is", .int p, .int b]) then 2 ^ i else 0 : Nat).testBit n = false := by
            split
            · rw [Nat.testBit_two_pow]; simp; omega
            · simp
          rw [this, Bool.or_false]
          congr 1
          apply decide_eq_decide.mpr
          omega
      · obtain ⟨m, v6, rfl, rfl, hm⟩ := (iP _ _ _).mp h
        walk_at "rd"
        refine k m _ (Same.refl _) fun n hn => ?_
        rw [hm n]
        have : n < z := by omega
        simp [this]
    | nd x l r2 =>
      obtain ⟨hx, hl, hr2⟩ := hs
      obtain ⟨j, rfl, hja, hji⟩ : ∃ j : Str, x = [.str j] ∧ isAnd x = decide (j = "and") ∧ j ≠ "is" := by
        rcases hx with rfl | rfl
        · exact ⟨_, rfl, rfl, sw1⟩
        · exact ⟨_, rfl, rfl, sw2⟩
      simp only [Tr.dp] at hdp
      obtain ⟨g, rfl⟩ : ∃ g, r = g + 1 := ⟨r - 1, by omega⟩
      have esp := hsp g rfl
      subst esp
      simp only [Tr.d, List.cons_append, List.nil_append, Dat, Dats] at hv
      obtain ⟨a, xs, rfl, ha, _, _, rfl, rfl, xl, _, rfl, hxl, xr, _, rfl, hxr, rfl⟩ := hv
      walk_at "rd"
      refine ⟨_, SqT.of ha, rfl, _, _, rfl, _, _, rfl, _, _, rfl, rfl, rfl, ?_⟩
      rw [if_neg (by simpa using hji)]
      refine ⟨rfl, ite2 (fun h9 => ?_) (fun h9 => ?_)⟩
      · refine ⟨xl, l, pl, bs, rfl, hxl, hl, by omega, hpl, fun m1 H1 s1 hm1 => ⟨xr, r2, pl, bs, rfl, hxr.same s1, hr2, by omega, hpl, fun m2 H2 s2 hm2 => ?_⟩⟩
        refine ⟨_, rfl, _, rfl, ?_⟩
        rw [bitAnd_nat]
        refine k _ _ (s1.trans s2) fun n hn => ?_
        rw [Nat.testBit_and, hm1 n hn, hm2 n hn]
        simp only [valT, hja, decide_eq_true (V.str.inj h9)]
        simp
      · refine ⟨xl, l, pl, bs, rfl, hxl, hl, by omega, hpl, fun m1 H1 s1 hm1 => ⟨xr, r2, pl, bs, rfl, hxr.same s1, hr2, by omega, hpl, fun m2 H2 s2 hm2 => ?_⟩⟩
        refine ⟨_, rfl, _, rfl, ?_⟩
        rw [bitOr_nat]
        refine k _ _ (s1.trans s2) fun n hn => ?_
        rw [Nat.testBit_or, hm1 n hn, hm2 n hn]
        have h10 : ¬ j = "and" := fun z => h9 (congrArg V.str z)
        simp only [valT, hja, decide_eq_false h10]
        simp
theorem ok_mask (T : Txt K mg t) : ∀ r, FnOk P w K mg base CX0 (r + 1) t.a_l_mask t.d_l_mask ["_law_places", "_law_saying"] (sp_mask r)
  | 0 => mask_step T 0 _ fn_false fun g h => by omega
  | r + 1 => mask_step T (r + 1) _ (ok_mask T r) fun g h => by cases h; rfl
end
section
variable {P : Program} {w : World} {K : PySem.W.Frag} {mg : Str → Option Value} {base : Heap} {t : Adr}
/-- what a saying misses of a case -/
def missD (ys ns : List (List Int)) (u : Tr) : D :=
  match ys.find? (fun w => !valT w u) with
  | some w => .tup [.str "yes", wdD w]
  | none => match ns.find? (fun w => valT w u) with
    | some w => .tup [.str "no", wdD w]
    | none => .non
theorem find_take {α : Type} {p : α → Bool} {xs : List α} {i : Nat} {x : α} (h0 : (xs.take i).find? p = none) (hx : xs[i]? = some x) (hp : p x = true) : xs.find? p = some x := by
  rw [← List.take_append_drop i xs, List.find?_append, h0, drop_cons hx]
  simp [hp]
theorem find_step {α : Type} {p : α → Bool} {xs : List α} {i : Nat} {x : α} (h0 : (xs.take i).find? p = none) (hx : xs[i]? = some x) (hp : p x = false) : (xs.take (i + 1)).find? p = none := by
  rw [List.take_succ, hx, List.find?_append, h0]
  simp [hp]
def sp_missed : Sp := fun vs H Q _ => ∃ (cv v : V) (u : Tr) (pl : Nat) (bs : List Int) (ys ns : List (List Int)), vs = [cv, v] ∧ Dat H (csD pl ys ns) cv ∧ Dat H u.d v ∧ SayT pl bs u ∧ u.size ≤ 100000 ∧ (∀ x ∈ ys, x.length = pl) ∧ (∀ x ∈ ns, x.length = pl) ∧
  ∀ r H', Same H H' → Dat H' (missD ys ns u) r → Q r H'
theorem ok_missed (T : Txt K mg t) : FnOk P w K mg base CX0 7 t.a_missed t.d_missed ["case", "saying"] sp_missed := by
  have G_value : FnOk P w K mg base CX0 6 t.a_value t.d_value ["saying", "word"] sp_value := ok_value T
  refine T.f_missed.ok sc_missed (fun vs H Q E h => ?_) (fun cdv A outer s H vs Q E hr h => ?_)
  · obtain ⟨cv, v, u, pl, bs, ys, ns, rfl, _⟩ := h; rfl
  · obtain ⟨cv, v, u, pl, bs, ys, ns, rfl, hc, hv, hs, hsz, hys, hns, k⟩ := h
    obtain ⟨a, ya, na, yv, nv, rfl, ha, hya, hyd, hna, hnd⟩ := hc.cs
    refine ⟨_, (pss_cons (ps_for PassesOwn.never rfl (pi_tup (pe_ix ix_tup (pv 0) pe_int (fun _ _ => rfl))) (pg_name (i := 2) sc_missed.nd rfl (Or.inl rfl)) (pss_one (ps_if (pt_cmpR op_eq (pe_call G_value (hr.mono (by omega)) (by rfl) T.m_value T.k_value T.p_value .nil pass0 (pa_cons (pv 1) (pa_cons (pv 2) pa_nil))) pe_int (nomark _)) (pss_one (ps_ret (pe_tup (pa_consC pe_str (pa_cons (pv 2) pa_nil))))) pss_nil)))
      (pss_cons (ps_for PassesOwn.never rfl (pi_tup (pe_ix ix_tup (pv 0) pe_int (fun _ _ => rfl))) (pg_name (i := 2) sc_missed.nd rfl (Or.inl rfl)) (pss_one (ps_if (pt_cmpR op_eq (pe_call G_value (hr.mono (by omega)) (by rfl) T.m_value T.k_value T.p_value .nil pass0 (pa_cons (pv 1) (pa_cons (pv 2) pa_nil))) pe_int (nomark _)) (pss_one (ps_ret (pe_tup (pa_consC pe_str (pa_cons (pv 2) pa_nil))))) pss_nil)))
      (pss_one (ps_ret pe_non)))), ?_⟩
    walk_at "rd"
    refine ⟨_, SqT.of ha, _, rfl, ya, rfl, ⟨_, SqT.of hya⟩, ?_⟩
    have tell : ∀ (sw : Str) (wx : List Int) (x : V) (H2 : Hp), Same H H2 → Dat H2 (wdD wx) x → missD ys ns u = .tup [.str sw, wdD wx] → 2 ≤ sizeLine ∧ ∀ p, H2 p = none → Q (.ref p) (upd H2 p (.tup [.str sw, x])) := fun sw wx x H2 s2 hd hm => by
      refine ⟨by decide, fun p hp => k _ _ (s2.trans (same_upd hp)) ?_⟩
      rw [hm]
      simp only [Dat, Dats]
      exact ⟨p, _, rfl, upd_same, _, _, rfl, rfl, _, _, rfl, hd.same (same_upd hp), rfl⟩
    obtain ⟨Pv, iP⟩ := inv fun i σ H2 => ∃ (v2 : Option V), σ = [some (.ref a), some v, v2] ∧ Same H H2 ∧ (ys.take i).find? (fun w => !valT w u) = none
    refine forW_TD hya hyd (noLs_wds ys) Pv ((iP _ _ _).mpr ⟨_, rfl, Same.refl H, rfl⟩) (fun i σ H2 h => by obtain ⟨_, _, h, _⟩ := (iP _ _ _).mp h; exact h.t) (fun i x d σ H2 hx hn hdx t2 h => ?_) (fun σ H2 h => ?_)
    · obtain ⟨v2, rfl, s2, hf⟩ := (iP _ _ _).mp h
      obtain ⟨wx, hwx, rfl⟩ := map_get hx
      walk_at "rd"
      refine ⟨v, x, u, pl, bs, wx, rfl, hv.same s2, hs, hsz, hdx, Nat.le_of_eq (hys wx (List.mem_of_getElem? hwx)).symm, fun H3 s3 => ⟨rfl, ite2 (fun h1 => ?_) (fun h1 => ?_)⟩⟩
      · have hval : valT wx u = false := by
          cases e : valT wx u with
          | false => rfl
          | true => rw [e] at h1; cases h1
        exact tell "yes" wx x H3 (s2.trans s3) (hdx.same s3) (by unfold missD; rw [find_take hf hwx (by simp [hval])])
      · have hval : valT wx u = true := by
          cases e : valT wx u with
          | false => rw [e] at h1; exact absurd rfl h1
          | true => rfl
        exact (iP _ _ _).mpr ⟨_, rfl, s2.trans s3, find_step hf hwx (by simp [hval])⟩
    · obtain ⟨v2, rfl, s2, hf⟩ := (iP _ _ _).mp h
      rw [List.length_map, List.take_length] at hf
      walk_at "rd"
      refine ⟨_, SqT.of (s2 _ _ ha), _, rfl, na, rfl, ⟨_, SqT.of (s2 _ _ hna)⟩, ?_⟩
      obtain ⟨Pw, iW⟩ := inv fun i σ H3 => ∃ (v2 : Option V), σ = [some (.ref a), some v, v2] ∧ Same H2 H3 ∧ (ns.take i).find? (fun w => valT w u) = none
      refine forW_TD (s2 _ _ hna) (hnd.same s2) (noLs_wds ns) Pw ((iW _ _ _).mpr ⟨_, rfl, Same.refl _, rfl⟩) (fun i σ H3 h => by obtain ⟨_, _, h, _⟩ := (iW _ _ _).mp h; exact h.t) (fun i x d σ H3 hx hn hdx t3 h => ?_) (fun σ H3 h => ?_)
      · obtain ⟨v3, rfl, s3, hf3⟩ := (iW _ _ _).mp h
        obtain ⟨wx, hwx, rfl⟩ := map_get hx
        walk_at "rd"
        refine ⟨v, x, u, pl, bs, wx, rfl, hv.same (s2.trans s3), hs, hsz, hdx, Nat.le_of_eq (hns wx (List.mem_of_getElem? hwx)).symm, fun H4 s4 => ⟨rfl, ite2 (fun h1 => ?_) (fun h1 => ?_)⟩⟩
        · have hval : valT wx u = true := by
            cases e : valT wx u with
            | true => rfl
            | false => rw [e] at h1; cases h1
          exact tell "no" wx x H4 ((s2.trans s3).trans s4) (hdx.same s4) (by unfold missD; rw [hf, find_take hf3 hwx hval])
        · have hval : valT wx u = false := by
            cases e : valT wx u with
            | true => rw [e] at h1; exact absurd rfl h1
            | false => rfl
          exact (iW _ _ _).mpr ⟨_, rfl, s3.trans s4, find_step hf3 hwx hval⟩
      · obtain ⟨v3, rfl, s3, hf3⟩ := (iW _ _ _).mp h
        rw [List.length_map, List.take_length] at hf3
        walk_at "rd"
        refine k _ _ (s2.trans s3) ?_
        unfold missD
        rw [hf, hf3]
        simp [Dat]
def sp_parts : Sp := fun vs H Q _ => ∃ (cv v : V) (u : Tr) (pl : Nat) (bs : List Int) (ys ns : List (List Int)), vs = [cv, v] ∧ Dat H (csD pl ys ns) cv ∧ Dat H u.d v ∧ SayT pl bs u ∧ u.size ≤ 100000 ∧ (∀ x ∈ ys, x.length = pl) ∧ (∀ x ∈ ns, x.length = pl) ∧
  ∀ H', Same H H' → Q (.bl (match missD ys ns u with | .non => true | _ => false)) H'
theorem miss_dec {H : Hp} {ys ns : List (List Int)} {u : Tr} {r : V} (h : Dat H (missD ys ns u) r) : decide (r = .non) = (match missD ys ns u with | .non => true | _ => false) := by
  unfold missD at h ⊢
  cases e1 : ys.find? (fun w => !valT w u) with
  | some w =>
    rw [e1] at h
    simp only [Dat] at h
    obtain ⟨a, _, rfl, _⟩ := h
    rfl
  | none =>
    rw [e1] at h
    cases e2 : ns.find? (fun w => valT w u) with
    | some w =>
      rw [e2] at h
      simp only [Dat] at h
      obtain ⟨a, _, rfl, _⟩ := h
      rfl
    | none =>
      rw [e2] at h
      simp only [Dat] at h
      subst h
      rfl
theorem ok_parts (T : Txt K mg t) : FnOk P w K mg base CX0 8 t.a_parts t.d_parts ["case", "saying"] sp_parts := by
  have G_missed : FnOk P w K mg base CX0 7 t.a_missed t.d_missed ["case", "saying"] sp_missed := ok_missed T
  refine T.f_parts.ok sc_parts (fun vs H Q E h => ?_) (fun cdv A outer s H vs Q E hr h => ?_)
  · obtain ⟨cv, v, u, pl, bs, ys, ns, rfl, _⟩ := h; rfl
  · obtain ⟨cv, v, u, pl, bs, ys, ns, rfl, hc, hv, hs, hsz, hys, hns, k⟩ := h
    refine ⟨_, (pss_one (ps_ret (pe_cmpR op_isN (pe_call G_missed (hr.mono (by omega)) (by rfl) T.m_missed T.k_missed T.p_missed .nil pass0 (pa_cons (pv 0) (pa_cons (pv 1) pa_nil))) pe_non (nomark _)))), ?_⟩
    walk_at "rd"
    refine ⟨cv, v, u, pl, bs, ys, ns, rfl, hc, hv, hs, hsz, hys, hns, fun r H' s' d' => ?_⟩
    have := k H' s'
    rw [← miss_dec d'] at this
    exact this
end
section
variable {P : Program} {w : World} {K : PySem.W.Frag} {mg : Str → Option Value} {base : Heap} {t : Adr}
theorem map_erase {α β : Type} (f : α → β) : ∀ (xs : List α) (k : Nat), (xs.map f).eraseIdx k = (xs.eraseIdx k).map f
  | [], k => by simp
  | x :: xs, 0 => by simp
  | x :: xs, k + 1 => by simp [map_erase f xs k]
/-- three rows of numbers below z, i of them, none twice -/
structure Fs3 (z i : Nat) (fs : Nat → List Nat) : Prop where
  nd : ∀ j, j < 3 → (fs j).Nodup
  lt : ∀ j, j < 3 → ∀ n ∈ fs j, n < z
  dj : ∀ j l, j < 3 → l < 3 → j ≠ l → ∀ n ∈ fs j, n ∉ fs l
  len : (fs 0).length + (fs 1).length + (fs 2).length = i
theorem Fs3.push {i k : Nat} {fs : Nat → List Nat} (h : Fs3 i i fs) (hk : k < 3) : Fs3 (i + 1) (i + 1) (fun j => if j = k then fs k ++ [i] else fs j) := by
  have ni : ∀ j, j < 3 → i ∉ fs j := fun j hj hm => Nat.lt_irrefl _ (h.lt j hj i hm)
  refine ⟨fun j hj => ?_, fun j hj n hn => ?_, fun j l hj hl hjl n hn => ?_, ?_⟩
  · by_cases e : j = k
    · subst e
      rw [if_pos rfl, List.nodup_append]
      refine ⟨h.nd j hj, by simp, fun a ha b hb => ?_⟩
      rw [List.mem_singleton.mp hb]
      rintro rfl
      exact ni j hj ha
    · rw [if_neg e]; exact h.nd j hj
  · by_cases e : j = k
    · subst e
      rw [if_pos rfl] at hn
      rcases List.mem_append.mp hn with hn | hn
      · have := h.lt j hj n hn; omega
      · rw [List.mem_singleton.mp hn]; omega
    · rw [if_neg e] at hn
      have := h.lt j hj n hn
      omega
  · by_cases e : j = k
    · subst e
      rw [if_pos rfl] at hn
      rw [if_neg hjl.symm]
      rcases List.mem_append.mp hn with hn | hn
      · exact h.dj j l hj hl hjl n hn
      · rw [List.mem_singleton.mp hn]; exact ni l hl
    · rw [if_neg e] at hn
      by_cases e2 : l = k
      · subst e2
        rw [if_pos rfl]
        intro hm
        rcases List.mem_append.mp hm with hm | hm
        · exact h.dj j l hj hl hjl n hn hm
        · rw [List.mem_singleton.mp hm] at hn; exact ni j hj hn
      · rw [if_neg e2]; exact h.dj j l hj hl hjl n hn
  · have := h.len
    rcases (by omega : k = 0 ∨ k = 1 ∨ k = 2) with rfl | rfl | rfl <;> simp <;> omega
/-- one goes from a row to another -/
theorem Fs3.move {z i c k q n : Nat} {fs : Nat → List Nat} (h : Fs3 z i fs) (hc : c < 3) (hk : k < 3) (hck : c ≠ k) (hq : (fs c)[q]? = some n) :
    Fs3 z i (fun j => if j = k then fs k ++ [n] else if j = c then (fs c).eraseIdx q else fs j) := by
  have hql := (List.getElem?_eq_some_iff.mp hq).1
  have hqe := (List.getElem?_eq_some_iff.mp hq).2
  have hm := List.mem_of_getElem? hq
  have nn : ∀ j, j < 3 → j ≠ c → n ∉ fs j := fun j hj e => h.dj c j hc hj (Ne.symm e) n hm
  have ne : n ∉ (fs c).eraseIdx q := by
    have hnd := h.nd c hc
    rw [← hqe]
    intro hmem
    have hp := hnd
    obtain ⟨b, hb1, hb2⟩ : ∃ b, b ≠ q ∧ (fs c)[b]? = some ((fs c)[q]) := by
      obtain ⟨b, hb, hb2⟩ := List.mem_eraseIdx_iff_getElem?.mp hmem
      exact ⟨b, hb, hb2⟩
    have hbl := (List.getElem?_eq_some_iff.mp hb2).1
    have := (List.getElem_inj (h₀ := hbl) (h₁ := hql) hnd).mp ((List.getElem?_eq_some_iff.mp hb2).2)
    exact hb1 this
  have sub : ∀ x, x ∈ (fs c).eraseIdx q → x ∈ fs c := fun x hx => List.mem_of_mem_eraseIdx hx
  refine ⟨fun j hj => ?_, fun j hj x hx => ?_, fun j l hj hl hjl x hx => ?_, ?_⟩
  · by_cases e : j = k
    · subst e
      rw [if_pos rfl, List.nodup_append]
      refine ⟨h.nd j hj, by simp, fun a ha b hb => ?_⟩
      rw [List.mem_singleton.mp hb]
      rintro rfl
      exact nn j hj (Ne.symm hck) ha
    · rw [if_neg e]
      by_cases e2 : j = c
      · subst e2; rw [if_pos rfl]; exact (h.nd j hj).sublist (List.eraseIdx_sublist _ _)
      · rw [if_neg e2]; exact h.nd j hj
  · by_cases e : j = k
    · subst e
      rw [if_pos rfl] at hx
      rcases List.mem_append.mp hx with hx | hx
      · exact h.lt j hj x hx
      · rw [List.mem_singleton.mp hx]; exact h.lt c hc n hm
    · rw [if_neg e] at hx
      by_cases e2 : j = c
      · subst e2; rw [if_pos rfl] at hx; exact h.lt j hj x (sub x hx)
      · rw [if_neg e2] at hx; exact h.lt j hj x hx
  · by_cases e : j = k
    · subst e
      rw [if_pos rfl] at hx
      rw [if_neg hjl.symm]
      rcases List.mem_append.mp hx with hx | hx
      · by_cases e2 : l = c
        · subst e2; rw [if_pos rfl]; exact fun hx2 => h.dj j l hj hl hjl x hx (sub x hx2)
        · rw [if_neg e2]; exact h.dj j l hj hl hjl x hx
      · rw [List.mem_singleton.mp hx]
        by_cases e2 : l = c
        · subst e2; rw [if_pos rfl]; exact ne
        · rw [if_neg e2]; exact nn l hl e2
    · rw [if_neg e] at hx
      have hx' : x ∈ fs j := by
        by_cases e2 : j = c
        · subst e2; rw [if_pos rfl] at hx; exact sub x hx
        · rw [if_neg e2] at hx; exact hx
      by_cases e3 : l = k
      · subst e3
        rw [if_pos rfl]
        intro hx2
        rcases List.mem_append.mp hx2 with hx2 | hx2
        · exact h.dj j l hj hl hjl x hx' hx2
        · rw [List.mem_singleton.mp hx2] at hx hx'
          by_cases e2 : j = c
          · subst e2; rw [if_pos rfl] at hx; exact ne hx
          · exact nn j hj e2 hx'
      · rw [if_neg e3]
        by_cases e2 : l = c
        · subst e2; rw [if_pos rfl]; exact fun hx2 => h.dj j l hj hl hjl x hx' (sub x hx2)
        · rw [if_neg e2]; exact h.dj j l hj hl hjl x hx'
  · have hl := h.len
    have he : ((fs c).eraseIdx q).length = (fs c).length - 1 := by rw [List.length_eraseIdx, if_pos hql]
    rcases (by omega : c = 0 ∨ c = 1 ∨ c = 2) with rfl | rfl | rfl <;> rcases (by omega : k = 0 ∨ k = 1 ∨ k = 2) with rfl | rfl | rfl <;> first | exact absurd rfl hck | (simp [he]; omega)
def sp_case (K : PySem.W.Frag) : Sp := fun vs H Q _ => ∃ (p a : Addr) (ns : List Int) (pl : Nat), vs = [.ref p, .int pl] ∧ DPen K H p a ns ∧ 1 ≤ pl ∧ pl ≤ 5 ∧
  ∀ (ys zs : List Nat) v H', 1 ≤ ys.length → 1 ≤ zs.length → (∀ n ∈ ys, n < 2 ^ pl) → (∀ n ∈ zs, n < 2 ^ pl) → (∀ n ∈ ys, n ∉ zs) → ys.length + zs.length ≤ 32 → Dat H' (csD pl (ys.map (wordOf pl)) (zs.map (wordOf pl))) v → DPen K H' p a ns → Keep p H H' → Q v H'
theorem ok_case (T : Txt K mg t) : FnOk P w K mg base CX0 2 t.a_l_case t.d_l_case ["_law_pen_here", "_law_places"] (sp_case K) := by
  have G_l_draw : FnOk P w K mg base CX0 1 t.a_l_draw t.d_l_draw ["_law_pen_here", "_law_many"] (sp_draw K) := ok_draw T
  have G_l_word : FnOk P w K mg base CX0 1 t.a_l_word t.d_l_word ["_law_places", "_law_number"] sp_word := ok_word T
  refine T.f_l_case.ok sc_l_case (fun vs H Q E h => ?_) (fun cdv A outer s H vs Q E hr h => ?_)
  · obtain ⟨p, a, ns, pl, rfl, _⟩ := h; rfl
  · obtain ⟨p, a, ns, pl, rfl, hp, hpl1, hpl, k⟩ := h
    have pd : ∀ {H1 : Hp} {q : Addr}, DPen K H1 p a ns → H1 q = none → q ≠ p := fun {H1 q} h hq e => by
      obtain ⟨i, l, h, _⟩ := h
      rw [e, h] at hq
      cases hq
    have tk : ∀ {Ha Hb : Hp}, DPen K Ha p a ns → Keep p Ha Hb → TSame Ha Hb := fun {Ha Hb} h k' => by
      obtain ⟨_, _, hpp, _⟩ := h
      exact tkeep hpp k'
    refine ⟨_, (pss_cons (ps_set (i := 2) sc_l_case.nd rfl (Or.inl rfl) (pe_call G_l_draw (hr.mono (by omega)) (by rfl) T.m_l_draw T.k_l_draw T.p_l_draw .nil pass0 (pa_cons (pv 0) (pa_consC pe_int pa_nil))))
      (pss_cons (ps_set (i := 3) sc_l_case.nd rfl (Or.inl rfl) (pe_lst (pa_consL (pe_lst pa_nil) (pa_consL (pe_lst pa_nil) (pa_consL (pe_lst pa_nil) pa_nil)))))
      (pss_cons (ps_for PassesOwn.never rfl (pi_range1 rfl T.b_range (pa_cons (pe_op op_shl pe_int (pv 1)) pa_nil)) (pg_name (i := 4) sc_l_case.nd rfl (Or.inl rfl)) (pss_cons (ps_set (i := 5) sc_l_case.nd rfl (Or.inl rfl) (pe_ix ix_list (pe_lst (pa_cons (pe_op op_add pe_int (pe_call G_l_draw (hr.mono (by omega)) (by rfl) T.m_l_draw T.k_l_draw T.p_l_draw .nil pass0 (pa_cons (pv 0) (pa_consC pe_int pa_nil)))) (pa_cons (pe_ix ix_list (pe_lst (pa_consC pe_int (pa_consC pe_int (pa_consC pe_int (pa_consC pe_int (pa_consC pe_int (pa_consC pe_int pa_nil))))))) (pe_call G_l_draw (hr.mono (by omega)) (by rfl) T.m_l_draw T.k_l_draw T.p_l_draw .nil pass0 (pa_cons (pv 0) (pa_consC pe_int pa_nil))) (fun _ _ => rfl)) (pa_cons (pe_call G_l_draw (hr.mono (by omega)) (by rfl) T.m_l_draw T.k_l_draw T.p_l_draw .nil pass0 (pa_cons (pv 0) (pa_consC pe_int pa_nil))) pa_nil)))) (pe_callB (call_min2 rfl) (by rfl) T.b_min (by kernel_rfl) (pa_cons (pv 2) (pa_consC pe_int pa_nil))) (fun _ _ => rfl)))
      (pss_one (ps_expr (pe_bm PySem.F.plainAttrs_list PySem.F.slot_list_append PySem.F.type_list_append mt_append (pe_ix ix_list (pv 3) (pv 5) (fun _ _ => rfl)) (pa_cons (pe_call G_l_word (hr.mono (by omega)) (by rfl) T.m_l_word T.k_l_word T.p_l_word .nil pass0 (pa_cons (pv 1) (pa_cons (pv 4) pa_nil))) pa_nil))))))
      (pss_cons (ps_for PassesOwn.never rfl (pi_tup (pe_tup (pa_consC pe_int (pa_consC pe_int pa_nil)))) (pg_name (i := 5) sc_l_case.nd rfl (Or.inl rfl)) (pss_one (ps_if (pt_cmpR (op_eqNil hr.u100) (pe_ix ix_list (pv 3) (pv 5) (fun _ _ => rfl)) (pe_lst pa_nil) (nomark _)) (pss_cons (ps_set (i := 6) sc_l_case.nd rfl (Or.inl rfl) (pe_ix ix_list (pe_lst (pa_cons (pe_ix ix_list (pv 3) (pe_op op_sub pe_int (pv 5)) (fun _ _ => rfl)) (pa_cons (pe_ix ix_list (pv 3) pe_int (fun _ _ => rfl)) pa_nil))) (pe_callTy call_int1 (by rfl) T.b_int (by kernel_rfl) (pa_cons (pe_cmpR op_ge (pe_callB call_len (by rfl) T.b_len (by kernel_rfl) (pa_cons (pe_ix ix_list (pv 3) pe_int (fun _ _ => rfl)) pa_nil)) (pe_callB call_len (by rfl) T.b_len (by kernel_rfl) (pa_cons (pe_ix ix_list (pv 3) (pe_op op_sub pe_int (pv 5)) (fun _ _ => rfl)) pa_nil)) (nomark _)) pa_nil)) (fun _ _ => rfl)))
      (pss_one (ps_expr (pe_bm PySem.F.plainAttrs_list PySem.F.slot_list_append PySem.F.type_list_append mt_append (pe_ix ix_list (pv 3) (pv 5) (fun _ _ => rfl)) (pa_cons (pe_bm PySem.F.plainAttrs_list PySem.F.slot_list_pop PySem.F.type_list_pop mt_popAt (pv 6) (pa_cons (pe_call G_l_draw (hr.mono (by omega)) (by rfl) T.m_l_draw T.k_l_draw T.p_l_draw .nil pass0 (pa_cons (pv 0) (pa_cons (pe_callB call_len (by rfl) T.b_len (by kernel_rfl) (pa_cons (pv 6) pa_nil)) pa_nil))) pa_nil)) pa_nil))))) pss_nil)))
      (pss_one (ps_ret (pe_tup (pa_cons (pv 1) (pa_cons (pe_callTy call_tuple_of (by rfl) T.b_tuple (by kernel_rfl) (pa_cons (pe_ix ix_list (pv 3) pe_int (fun _ _ => rfl)) pa_nil)) (pa_cons (pe_callTy call_tuple_of (by rfl) T.b_tuple (by kernel_rfl) (pa_cons (pe_ix ix_list (pv 3) pe_int (fun _ _ => rfl)) pa_nil)) pa_nil)))))))))), ?_⟩
    walk_at "rd"
    obtain ⟨z, hz⟩ : ∃ z : Nat, z = 2 ^ pl := ⟨_, rfl⟩
    have e2 : (1 : Int) * 2 ^ (pl : Int).toNat = (z : Int) := by
      rw [Int.one_mul, Int.toNat_natCast, hz]; push_cast; rfl
    have hz1 : z ≤ 32 := by
      rw [hz]
      exact Nat.le_trans (Nat.pow_le_pow_right (by decide) hpl) (by decide)
    have hz2 : 2 ≤ z := by
      rw [hz]
      exact Nat.le_trans (by decide : 2 ≤ 2 ^ 1) (Nat.pow_le_pow_right (by decide) hpl1)
    rw [e2]
    refine ⟨p, a, ns, 6, rfl, hp, by decide, by decide, fun x0 H1 x00 x01 hp1 k1 => ⟨by decide, fun s0 h0 => ⟨by decide, fun s1 h1 => ⟨by decide, fun s2 h2 => ⟨by decide, fun S hS => ⟨⟨by omega, by omega, by decide⟩, by omega, by omega, ?_⟩⟩⟩⟩⟩⟩
    have n01 : s1 ≠ s0 := fun e => by subst e; rw [upd_same] at h1; cases h1
    have f1 : H1 s1 = none := by rw [upd_ne n01] at h1; exact h1
    have n12 : s2 ≠ s1 := fun e => by subst e; rw [upd_same] at h2; cases h2
    rw [upd_ne n12] at h2
    have n02 : s2 ≠ s0 := fun e => by subst e; rw [upd_same] at h2; cases h2
    have f2 : H1 s2 = none := by rw [upd_ne n02] at h2; exact h2
    have nS2 : S ≠ s2 := fun e => by subst e; rw [upd_same] at hS; cases hS
    rw [upd_ne nS2] at hS
    have nS1 : S ≠ s1 := fun e => by subst e; rw [upd_same] at hS; cases hS
    rw [upd_ne nS1] at hS
    have nS0 : S ≠ s0 := fun e => by subst e; rw [upd_same] at hS; cases hS
    rw [upd_ne nS0] at hS
    obtain ⟨ad, hadd⟩ : ∃ ad : Nat → Addr, ad = fun i => if i = 0 then s0 else if i = 1 then s1 else s2 := ⟨_, rfl⟩
    have a0 : ad 0 = s0 := by rw [hadd]; rfl
    have a1 : ad 1 = s1 := by rw [hadd]; rfl
    have a2 : ad 2 = s2 := by rw [hadd]; rfl
    have adi : ∀ i, i < 3 → ad i = s0 ∨ ad i = s1 ∨ ad i = s2 := fun i hi => by
      rcases (by omega : i = 0 ∨ i = 1 ∨ i = 2) with rfl | rfl | rfl
      · exact .inl a0
      · exact .inr (.inl a1)
      · exact .inr (.inr a2)
    have adn : ∀ i, i < 3 → H1 (ad i) = none := fun i hi => by
      rcases adi i hi with e | e | e <;> rw [e] <;> assumption
    have adS : ∀ i, i < 3 → ad i ≠ S := fun i hi => by
      rcases adi i hi with e | e | e <;> rw [e] <;> apply Ne.symm <;> assumption
    have adp : ∀ i, i < 3 → ad i ≠ p := fun i hi => pd hp1 (adn i hi)
    have nSp : S ≠ p := pd hp1 hS
    have adj : ∀ i j, i < 3 → j < 3 → ad i = ad j → i = j := fun i j hi hj e => by
      rcases (by omega : i = 0 ∨ i = 1 ∨ i = 2) with rfl | rfl | rfl <;> rcases (by omega : j = 0 ∨ j = 1 ∨ j = 2) with rfl | rfl | rfl <;> first | rfl | (rw [a0, a1] at e) | (rw [a0, a2] at e) | (rw [a1, a0] at e) | (rw [a1, a2] at e) | (rw [a2, a0] at e) | (rw [a2, a1] at e)
      all_goals first | rfl | exact absurd e n01 | exact absurd e.symm n01 | exact absurd e n02 | exact absurd e.symm n02 | exact absurd e n12 | exact absurd e.symm n12
    have sn0 : SN 3 (upd (upd (upd (upd H1 s0 (.lst [])) s1 (.lst [])) s2 (.lst [])) S (.lst [.ref s0, .ref s1, .ref s2])) S ad (fun _ => []) := by
      refine ⟨by rw [upd_same]; simp [List.range, List.range.loop, a0, a1, a2], fun i hi => ⟨by simp [noLs], [], ?_, by simp [Dats]⟩⟩
      rw [upd_ne (adS i hi)]
      rcases (by omega : i = 0 ∨ i = 1 ∨ i = 2) with rfl | rfl | rfl
      · rw [a0, upd_ne n02.symm, upd_ne n01.symm, upd_same]
      · rw [a1, upd_ne n12.symm, upd_same]
      · rw [a2, upd_same]
    have s12 : Same H1 (upd (upd (upd (upd H1 s0 (.lst [])) s1 (.lst [])) s2 (.lst [])) S (.lst [.ref s0, .ref s1, .ref s2])) := same_over hS (same_over f2 (same_over f1 (same_upd h0)))
    generalize upd (upd (upd (upd H1 s0 (.lst [])) s1 (.lst [])) s2 (.lst [])) S (.lst [.ref s0, .ref s1, .ref s2]) = H2 at sn0 s12 ⊢
    have over : ∀ {H' : Hp} {i : Nat} {o : HO}, i < 3 → Keep p H1 H' → Keep p H1 (upd H' (ad i) o) := fun {H' i o} hi h b u hb e => by
      rw [upd_ne (ne_of_none e (adn i hi))]; exact h b u hb e
    have mkPen : ∀ {H' : Hp} {i : Nat} {o : HO}, i < 3 → Keep p H1 H' → DPen K H' p a ns → DPen K (upd H' (ad i) o) p a ns := fun {H' i o} hi kk h => by
      obtain ⟨_, _, hpp, _, _, hSS⟩ := hp1
      obtain ⟨i', l', e1, e2, e3, _⟩ := h
      exact ⟨i', l', by rw [upd_ne (adp i hi).symm]; exact e1, e2, e3, hSS.keep hpp (over hi kk)⟩
    obtain ⟨Pv, iP⟩ := inv fun i σ H' => ∃ (fs : Nat → List Nat) (v4 v5 v6 : Option V), σ = [some (.ref p), some (.int pl), some (.int x0), some (.ref S), v4, v5, v6] ∧ SN 3 H' S ad (fun j => (fs j).map fun n => wdD (wordOf pl n)) ∧ DPen K H' p a ns ∧ Keep p H1 H' ∧ Fs3 i i fs
    refine forW_range Pv ((iP _ _ _).mpr ⟨fun _ => [], _, _, _, rfl, sn0, hp1.same s12, s12.keep, ⟨by simp, by simp, by simp, rfl⟩⟩) (fun i σ H3 hi h => ?_) (fun σ H3 h => ?_)
    · obtain ⟨fs, v4, v5, v6, rfl, sn, hp3, k3, hfs⟩ := (iP _ _ _).mp h
      walk_at "rd"
      refine ⟨p, a, ns, 2, rfl, hp3, by decide, by decide, fun x1 H4 x10 x11 hp4 k4 => ⟨x1, rfl, by decide, fun q hq => ⟨p, a, ns, 6, rfl, hp4.same (same_upd hq), by decide, by decide, fun x2 H5 x20 x21 hp5 k5 => ?_⟩⟩⟩
      obtain ⟨b2, hb2, hb2'⟩ : ∃ b2 : Nat, atI [V.int 0, V.int 0, V.int 0, V.int 0, V.int 1, V.int 2] x2 = some (.int b2) ∧ b2 < 3 := by
        rcases (by omega : x2 = 0 ∨ x2 = 1 ∨ x2 = 2 ∨ x2 = 3 ∨ x2 = 4 ∨ x2 = 5) with rfl | rfl | rfl | rfl | rfl | rfl
        · exact ⟨0, rfl, by decide⟩
        · exact ⟨0, rfl, by decide⟩
        · exact ⟨0, rfl, by decide⟩
        · exact ⟨0, rfl, by decide⟩
        · exact ⟨1, rfl, by decide⟩
        · exact ⟨2, rfl, by decide⟩
      have k35 : Keep p H3 H5 := (k4.trans (same_upd hq).keep).trans k5
      refine ⟨_, x2, rfl, SqL.of (k5 q _ (pd hp4 hq) upd_same), _, hb2, p, a, ns, 3, rfl, hp5, by decide, by decide, fun x3 H6 x30 x31 hp6 k6 => ⟨by decide, fun q2 hq2 => ?_⟩⟩
      obtain ⟨c, hc, hc3⟩ : ∃ c : Nat, atI [V.int (1 + x1), V.int (b2 : Int), V.int x3] (if 2 < x0 then 2 else x0) = some (.int c) ∧ c < 3 := by
        rcases (by omega : x0 = 0 ∨ x0 = 1 ∨ 2 ≤ x0) with rfl | rfl | h
        · exact ⟨(1 + x1).toNat, by rw [Int.toNat_of_nonneg (by omega)]; rfl, by omega⟩
        · exact ⟨b2, rfl, hb2'⟩
        · refine ⟨x3.toNat, ?_, by omega⟩
          have e : (if 2 < x0 then 2 else x0) = 2 := by split <;> omega
          rw [e, Int.toNat_of_nonneg x30]; rfl
      have k36 : Keep p H3 H6 := k35.trans k6
      have sn6 := sn.keep k36 (tk hp3 k36) nSp adp
      have s67 := same_upd (o := .lst [.int (1 + x1), .int (b2 : Int), .int x3]) hq2
      have sn7 := sn6.same s67
      have hp7 := hp6.same s67
      have k37 : Keep p H3 _ := k36.trans s67.keep
      refine ⟨_, SqL.of upd_same, _, hc, _, _, rfl, SqL.of sn7.s, _, SN.at hc3, ?_⟩
      generalize upd H6 q2 (.lst [.int (1 + x1), .int (b2 : Int), .int x3]) = H7 at sn7 hp7 k37 ⊢
      refine ⟨.inl (sn7.l c hc3).sq, pl, i, by rw [show (0 : Int) + (i : Int) = i by omega], by omega, fun wv H8 s8 dw => ?_⟩
      have sn8 := sn7.same s8
      have k8 : Keep p H1 H8 := k3.trans (k37.trans s8.keep)
      obtain ⟨ys, g1, g2, g3, g4⟩ := (sn8.l c hc3).push (d := wdD (wordOf pl i)) (noL_wd _) dw (by
        have := hfs.len
        rw [List.length_map]
        rcases (by omega : c = 0 ∨ c = 1 ∨ c = 2) with rfl | rfl | rfl <;> omega)
      refine ⟨ad c, rfl, ys, g1, g2, (iP _ _ _).mpr ⟨fun j => if j = c then fs c ++ [i] else fs j, _, _, _, rfl, ?_, mkPen hc3 k8 (hp7.same s8), over hc3 k8, hfs.push hc3⟩⟩
      have := sn8.upd hc3 g3 adS adj
      refine ⟨this.s, fun j hj => ?_⟩
      have q1 := this.l j hj
      dsimp only at q1 ⊢
      by_cases e : j = c
      · subst e
        rw [if_pos rfl] at q1
        rw [if_pos rfl, List.map_append]
        exact q1
      · rw [if_neg e] at q1
        rw [if_neg e]
        exact q1
    · obtain ⟨fs, v4, v5, v6, rfl, sn, hp3, k3, hfs⟩ := (iP _ _ _).mp h
      rw [Int.toNat_natCast] at hfs
      walk_at "rd"
      refine ⟨by decide, fun tq htq => ⟨⟨_, SqT.of upd_same⟩, ?_⟩⟩
      have s34 := same_upd (o := .tup [.int 1, .int 2]) htq
      have htq4 := upd_same (H := H3) (a := tq) (o := .tup [.int 1, .int 2])
      have sn4 := sn.same s34
      have hp4 := hp3.same s34
      have k4 : Keep p H1 _ := k3.trans s34.keep
      generalize upd H3 tq (.tup [.int 1, .int 2]) = H4 at htq4 sn4 hp4 k4 ⊢
      obtain ⟨Pw, iW⟩ := inv fun i σ H' => ∃ (fs : Nat → List Nat) (v5 v6 : Option V), σ = [some (.ref p), some (.int pl), some (.int x0), some (.ref S), v4, v5, v6] ∧ SN 3 H' S ad (fun j => (fs j).map fun n => wdD (wordOf pl n)) ∧ DPen K H' p a ns ∧ Keep p H1 H' ∧ H' tq = some (.tup [.int 1, .int 2]) ∧ Fs3 z z fs ∧ (1 ≤ i → 1 ≤ (fs 1).length) ∧ (2 ≤ i → 1 ≤ (fs 2).length)
      refine forW_tup (xs := [.int 1, .int 2]) Pw ((iW _ _ _).mpr ⟨fs, _, _, rfl, sn4, hp4, k4, htq4, hfs, by omega, by omega⟩) (fun i σ H5 _ h => by obtain ⟨_, _, _, _, _, _, _, h, _⟩ := (iW _ _ _).mp h; exact SqT.of h) (fun i x σ H5 hx h => ?_) (fun σ H5 h => ?_)
      · obtain ⟨gs, v5, v6, rfl, sn5, hp5, k5, ht5, hgs, b1, b2⟩ := (iW _ _ _).mp h
        obtain ⟨c, hc, hci, hc1, hc2⟩ : ∃ c : Nat, x = .int c ∧ c = i + 1 ∧ 1 ≤ c ∧ c ≤ 2 := by
          have hil := (List.getElem?_eq_some_iff.mp hx).1
          simp at hil
          rcases (by omega : i = 0 ∨ i = 1) with rfl | rfl
          · exact ⟨1, by simpa using hx.symm, rfl, by decide, by decide⟩
          · exact ⟨2, by simpa using hx.symm, rfl, by decide, by decide⟩
        subst hc
        have hc3 : c < 3 := by omega
        walk_at "rd"
        obtain ⟨c', hc', hcc', hc'3⟩ : ∃ c' : Nat, (3 : Int) - (c : Int) = c' ∧ c + c' = 3 ∧ c' < 3 := ⟨3 - c, by omega, by omega, by omega⟩
        rw [hc']
        refine ⟨_, SqL.of sn5.s, _, SN.at hc3, by decide, fun q hq => ?_⟩
        have s56 := same_upd (o := .lst []) hq
        have hq6 := upd_same (H := H5) (a := q) (o := .lst [])
        have sn6 := sn5.same s56
        have hp6 := hp5.same s56
        have k6 : Keep p H1 _ := k5.trans s56.keep
        have ht6 := s56 _ _ ht5
        generalize upd H5 q (.lst []) = H6 at s56 hq6 sn6 hp6 k6 ht6 ⊢
        obtain ⟨_, xs, hx1, hx2⟩ := sn6.l c hc3
        have hxl : xs.length = (gs c).length := by rw [hx2.length, List.length_map]
        refine ⟨ad c, rfl, xs, SqL.of hx1, SqL.of hq6, ite2 (fun he => ?_) (fun he => ?_)⟩
        · have hgc : (gs c).length = 0 := by
            cases xs with
            | nil => simpa using hxl.symm
            | cons _ _ => simp at he
          have hle := hgs.len
          have hl3 : (gs c).length + (gs c').length + (gs 0).length = z := by
            rcases (by omega : c = 1 ∧ c' = 2 ∨ c = 2 ∧ c' = 1) with ⟨rfl, rfl⟩ | ⟨rfl, rfl⟩ <;> omega
          refine ⟨_, SqL.of sn6.s, _, SN.at hc'3, _, SqL.of sn6.s, _, SN.at (k := 0) (by decide), by decide, fun q2 hq2 => ?_⟩
          have s67 := same_upd (o := .lst [.ref (ad c'), .ref (ad 0)]) hq2
          have hq7 := upd_same (H := H6) (a := q2) (o := .lst [.ref (ad c'), .ref (ad 0)])
          have sn7 := sn6.same s67
          have hp7 := hp6.same s67
          have k7 : Keep p H1 _ := k6.trans s67.keep
          have ht7 := s67 _ _ ht6
          generalize upd H6 q2 (.lst [.ref (ad c'), .ref (ad 0)]) = H7 at s67 hq7 sn7 hp7 k7 ht7 ⊢
          refine ⟨_, SqL.of sn7.s, _, SN.at (k := 0) (by decide), _, (sn7.l 0 (by decide)).len, _, SqL.of sn7.s, _, SN.at hc'3, _, (sn7.l c' hc'3).len, ?_⟩
          obtain ⟨e, hat, he3, hec, heb⟩ : ∃ e : Nat, atI [V.ref (ad c'), V.ref (ad 0)] (if (((gs c').map fun n => wdD (wordOf pl n)).length : Int) ≤ (((gs 0).map fun n => wdD (wordOf pl n)).length : Int) then 1 else 0) = some (.ref (ad e)) ∧ e < 3 ∧ e ≠ c ∧ ((e = 0 ∧ 1 ≤ (gs 0).length) ∨ (e = c' ∧ 2 ≤ (gs c').length)) := by
            rw [List.length_map, List.length_map]
            by_cases hle2 : ((gs c').length : Int) ≤ ((gs 0).length : Int)
            · rw [if_pos hle2]
              exact ⟨0, rfl, by decide, by omega, .inl ⟨rfl, by omega⟩⟩
            · rw [if_neg hle2]
              exact ⟨c', rfl, hc'3, by omega, .inr ⟨rfl, by omega⟩⟩
          refine ⟨_, SqL.of hq7, _, hat, _, SqL.of sn7.s, _, SN.at hc3, .inl (sn7.l c hc3).sq, .inl (sn7.l e he3).sq, _, (sn7.l e he3).len, ?_⟩
          rw [List.length_map]
          have hge : 1 ≤ (gs e).length := by
            rcases heb with ⟨rfl, h⟩ | ⟨rfl, h⟩ <;> omega
          have hgz : (gs e).length ≤ z := by
            rcases heb with ⟨rfl, h⟩ | ⟨rfl, h⟩ <;> omega
          refine ⟨p, a, ns, _, rfl, hp7, by omega, by omega, fun x1 H8 x10 x11 hp8 k8 => ?_⟩
          obtain ⟨r, hr', hrl⟩ : ∃ r : Nat, x1 = r ∧ r < (gs e).length := ⟨x1.toNat, by omega, by omega⟩
          subst hr'
          have sn8 := sn7.keep k8 (tk hp7 k8) nSp adp
          have k18 : Keep p H1 H8 := k7.trans k8
          have ht8 := (tk hp7 k8) _ _ ht7
          obtain ⟨n, hn⟩ : ∃ n, (gs e)[r]? = some n := ⟨_, List.getElem?_eq_getElem hrl⟩
          obtain ⟨us, y, u1, u2, u3, u4, u5, u6, u7⟩ := (sn8.l e he3).popAt (k := r) (d := wdD (wordOf pl n)) (by rw [List.getElem?_map, hn]; rfl)
          rw [List.length_map] at u2
          refine ⟨ad e, us, _, r, y, rfl, rfl, u1, by omega, by omega, by rw [u2]; exact seqIx hrl, u3, ?_⟩
          have sn9 := sn8.upd he3 u6 adS adj
          have k9 : Keep p H1 _ := over (o := .lst (us.eraseIdx r)) he3 k18
          have hp9 := mkPen (o := .lst (us.eraseIdx r)) he3 k18 hp8
          have ht9 := u7 _ _ ht8
          generalize upd H8 (ad e) (.lst (us.eraseIdx r)) = H9 at u5 sn9 k9 hp9 ht9 ⊢
          have lc9 := sn9.l c hc3
          rw [if_neg (Ne.symm hec)] at lc9
          obtain ⟨ws, w1, w2, w3, w4⟩ := lc9.push u4 u5 (by rw [List.length_map]; omega)
          refine ⟨ad c, rfl, ws, w1, w2, (iW _ _ _).mpr ⟨fun j => if j = c then gs c ++ [n] else if j = e then (gs e).eraseIdx r else gs j, _, _, rfl, ?_, mkPen hc3 k9 hp9, over hc3 k9, w4 _ _ ht9, hgs.move he3 hc3 hec hn, ?_, ?_⟩⟩
          · have := sn9.upd hc3 w3 adS adj
            refine ⟨this.s, fun j hj => ?_⟩
            have q1 := this.l j hj
            dsimp only at q1 ⊢
            by_cases e1 : j = c
            · subst e1
              rw [if_pos rfl] at q1
              rw [if_pos rfl, List.map_append]
              exact q1
            · rw [if_neg e1] at q1
              rw [if_neg e1]
              by_cases e2 : j = e
              · subst e2
                rw [if_pos rfl] at q1
                rw [if_pos rfl, ← map_erase]
                exact q1
              · rw [if_neg e2] at q1
                rw [if_neg e2]
                exact q1
          · intro hi1
            have hel : ((gs e).eraseIdx r).length = (gs e).length - 1 := by rw [List.length_eraseIdx, if_pos hrl]
            dsimp only
            by_cases e1 : 1 = c
            · rw [if_pos e1]; simp
            · rw [if_neg e1]
              by_cases e2 : 1 = e
              · rw [if_pos e2, hel]
                rcases heb with ⟨h1, h2⟩ | ⟨h1, h2⟩
                · omega
                · rw [h1]; omega
              · rw [if_neg e2]
                exact b1 (by omega)
          · intro hi2
            dsimp only
            rw [if_pos (by omega)]; simp
        · have hgc : 1 ≤ (gs c).length := by
            cases xs with
            | nil => simp at he
            | cons _ _ => simp at hxl; omega
          refine (iW _ _ _).mpr ⟨gs, _, _, rfl, sn6, hp6, k6, ht6, hgs, fun h1 => ?_, fun h2 => ?_⟩
          · by_cases e1 : c = 1
            · rw [e1] at hgc; exact hgc
            · exact b1 (by omega)
          · have e1 : c = 2 := by omega
            rw [e1] at hgc; exact hgc
      · obtain ⟨gs, v5, v6, rfl, sn5, hp5, k5, ht5, hgs, b1, b2⟩ := (iW _ _ _).mp h
        have b1 := b1 (by simp)
        have b2 := b2 (by simp)
        walk_at "rd"
        obtain ⟨_, yv, y1, y2⟩ := sn5.l 1 (by decide)
        obtain ⟨_, nv, n1, n2⟩ := sn5.l 2 (by decide)
        refine ⟨_, SqL.of sn5.s, _, SN.at (k := 1) (by decide), ad 1, rfl, yv, .inl ⟨SqL.of y1, fun ly hly => ?_⟩⟩
        have sa := same_upd (o := .tup yv) hly
        refine ⟨_, SqL.of (sa _ _ sn5.s), _, SN.at (k := 2) (by decide), ad 2, rfl, nv, .inl ⟨SqL.of (sa _ _ n1), fun ln hln => ⟨by decide, fun q hq => ?_⟩⟩⟩
        have sb := same_upd (o := .tup nv) hln
        have sc := same_upd (o := .tup [.int pl, .ref ly, .ref ln]) hq
        have sall := (sa.trans sb).trans sc
        have hl := hgs.len
        refine k (gs 1) (gs 2) _ _ b1 b2 (fun n hn => by rw [← hz]; exact hgs.lt 1 (by decide) n hn) (fun n hn => by rw [← hz]; exact hgs.lt 2 (by decide) n hn) (hgs.dj 1 2 (by decide) (by decide) (by decide)) (by omega) ?_ (hp5.same sall) ((k1.trans k5).trans sall.keep)
        have em : ∀ l : List Nat, (l.map (wordOf pl)).map wdD = l.map fun n => wdD (wordOf pl n) := fun l => by rw [List.map_map]; rfl
        exact Dat.mkcs upd_same (sc _ _ (sb _ _ upd_same)) (by rw [em]; exact y2.same sall) (sc _ _ upd_same) (by rw [em]; exact n2.same sall)
end
section
variable {P : Program} {w : World} {K : PySem.W.Frag} {mg : Str → Option Value} {base : Heap} {t : Adr}
/-- joined by halves -/
def joinD (j : Str) : Nat → List D → D
  | 0, ds => ds.headD .non
  | f + 1, ds => if ds.length = 1 then ds.headD .non else .tup [.str j, joinD j f (ds.take ((ds.length + 1) / 2)), joinD j f (ds.drop ((ds.length + 1) / 2))]
def sp_joined (f : Nat) : Sp := fun vs H Q _ => ∃ (j : Str) (l : Addr) (xs : List V) (ds : List D), vs = [.str j, .ref l] ∧ H l = some (.lst xs) ∧ Dats H ds xs ∧ 1 ≤ ds.length ∧ ds.length ≤ 2 ^ f ∧ ds.length ≤ 1000 ∧ ∀ r H', Same H H' → Dat H' (joinD j f ds) r → Q r H'
theorem joined_step (T : Txt K mg t) (f : Nat) (sp' : Sp) (G_joined : FnOk P w K mg base CX0 f t.a_joined t.d_joined ["join", "some"] sp') (hsp : ∀ g, f = g + 1 → sp' = sp_joined g) : FnOk P w K mg base CX0 (f + 1) t.a_joined t.d_joined ["join", "some"] (sp_joined f) := by
  refine T.f_joined.ok sc_joined (fun vs H Q E h => ?_) (fun cdv A outer s H vs Q E hr h => ?_)
  · obtain ⟨j, l, xs, ds, rfl, _⟩ := h; rfl
  · obtain ⟨j, l, xs, ds, rfl, hl, hd, h1, h2, h3, k⟩ := h
    refine ⟨_, (pss_cons (ps_if (pt_cmpR op_eq (pe_callB call_len (by rfl) T.b_len (by kernel_rfl) (pa_cons (pv 1) pa_nil)) pe_int (nomark _)) (pss_one (ps_ret (pe_ix ix_list (pv 1) pe_int (fun _ _ => rfl)))) pss_nil)
      (pss_cons (ps_set (i := 2) sc_joined.nd rfl (Or.inl rfl) (pe_op op_fdiv (pe_op op_add (pe_callB call_len (by rfl) T.b_len (by kernel_rfl) (pa_cons (pv 1) pa_nil)) pe_int) pe_int))
      (pss_one (ps_ret (pe_tup (pa_cons (pv 0) (pa_cons (pe_call G_joined (hr.mono (by omega)) (by rfl) T.m_joined T.k_joined T.p_joined .nil pass0 (pa_cons (pv 0) (pa_cons (pe_slice sl_list (pv 1) po_none (po_some (pv 2))) pa_nil))) (pa_cons (pe_call G_joined (hr.mono (by omega)) (by rfl) T.m_joined T.k_joined T.p_joined .nil pass0 (pa_cons (pv 0) (pa_cons (pe_slice sl_list (pv 1) (po_some (pv 2)) po_none) pa_nil))) pa_nil)))))))), ?_⟩
    walk_at "rd"
    have hxl := hd.length
    refine ⟨_, len_lst (SqL.of hl), ite2 (fun h4 => ?_) (fun h4 => ?_)⟩
    · have e1 : ds.length = 1 := by omega
      obtain ⟨d, rfl⟩ : ∃ d, ds = [d] := List.length_eq_one_iff.mp e1
      obtain ⟨x, hx, hdx⟩ := hd.get (i := 0) (d := d) rfl
      refine ⟨_, SqL.of hl, x, atI_nat (j := 0) hx, k x H (Same.refl H) ?_⟩
      cases f with
      | zero => exact hdx
      | succ f => exact hdx
    · have e1 : ds.length ≠ 1 := by omega
      obtain ⟨g, rfl⟩ : ∃ g, f = g + 1 := by
        cases f with
        | zero => exact absurd h2 (by simp; omega)
        | succ g => exact ⟨g, rfl⟩
      have esp := hsp g rfl
      subst esp
      refine ⟨_, len_lst (SqL.of hl), ⟨by decide, by decide⟩, ?_⟩
      generalize hh : ((xs.length : Int) + 1) / 2 = hf
      obtain ⟨n, hn⟩ : ∃ n : Nat, hf = (n : Int) := ⟨((xs.length + 1) / 2), by omega⟩
      subst hn
      have hn' : n = (ds.length + 1) / 2 := by omega
      have c1 : ∀ zs : List V, zs.length = ds.length → cutV zs none (some (n : Int)) = zs.take n := fun zs hz => by
        unfold cutV
        rw [HT.sIx_none, HT.sIx_nat, List.drop_zero, Nat.sub_zero, Nat.min_eq_left (by omega)]
      have c2 : ∀ zs : List V, zs.length = ds.length → cutV zs (some (n : Int)) none = zs.drop n := fun zs hz => by
        unfold cutV
        rw [HT.sIx_none, HT.sIx_nat, Nat.min_eq_left (by omega), List.take_of_length_le (by rw [List.length_drop]; omega)]
      have hpow : ds.length ≤ 2 * 2 ^ g := by rw [Nat.pow_succ] at h2; omega
      refine ⟨_, SqL.of hl, fun p hp => ⟨j, p, _, ds.take n, rfl, upd_same, ?_, ?_, ?_, ?_, fun r1 H1 s1 d1 => ?_⟩⟩
      · rw [c1 _ hxl]; exact (hd.take n).same (same_upd hp)
      · rw [List.length_take]; omega
      · rw [List.length_take]; omega
      · rw [List.length_take]; omega
      have s1' : Same H H1 := (same_upd hp).trans s1
      refine ⟨_, SqL.of (s1' _ _ hl), fun q hq => ⟨j, q, _, ds.drop n, rfl, upd_same, ?_, ?_, ?_, ?_, fun r2 H2 s2 d2 => ⟨by decide, fun z hz => ?_⟩⟩⟩
      · rw [c2 _ hxl]; exact ((hd.same s1').drop n).same (same_upd hq)
      · rw [List.length_drop]; omega
      · rw [List.length_drop]; omega
      · rw [List.length_drop]; omega
      have s2' : Same H1 H2 := (same_upd hq).trans s2
      refine k _ _ ((s1'.trans s2').trans (same_upd hz)) ?_
      rw [joinD, if_neg e1, ← hn']
      simp only [Dat]
      refine ⟨z, _, rfl, upd_same, ?_⟩
      simp only [Dats]
      exact ⟨_, _, rfl, by simp [Dat], _, _, rfl, (d1.same s2').same (same_upd hz), _, _, rfl, d2.same (same_upd hz), rfl⟩
theorem ok_joined (T : Txt K mg t) : ∀ f, FnOk P w K mg base CX0 (f + 1) t.a_joined t.d_joined ["join", "some"] (sp_joined f)
  | 0 => joined_step T 0 _ fn_false fun g h => by omega
  | f + 1 => joined_step T (f + 1) _ (ok_joined T f) fun g h => by cases h; rfl
end
section
variable {P : Program} {w : World} {K : PySem.W.Frag} {mg : Str → Option Value} {base : Heap} {t : Adr}
theorem noLs_take (n : Nat) {ds : List D} (h : noLs ds = true) : noLs (ds.take n) = true ∧ noLs (ds.drop n) = true := by
  induction ds generalizing n with
  | nil => simp [noLs]
  | cons d ds ih =>
    simp only [noLs, Bool.and_eq_true] at h
    cases n with
    | zero => simp [noLs, h.1, h.2]
    | succ n => simp only [List.take_succ_cons, List.drop_succ_cons, noLs, Bool.and_eq_true]; exact ⟨⟨h.1, (ih n h.2).1⟩, (ih n h.2).2⟩
theorem noLs_mem : ∀ {ds : List D} {d : D}, noLs ds = true → d ∈ ds → noL d = true
  | e :: ds, d, h, m => by
    simp only [noLs, Bool.and_eq_true] at h
    rcases List.mem_cons.mp m with rfl | m
    · exact h.1
    · exact noLs_mem h.2 m
theorem deps_take (n : Nat) (ds : List D) : deps (ds.take n) ≤ deps ds ∧ deps (ds.drop n) ≤ deps ds :=
  ⟨deps_le fun d hd => deps_mem (List.mem_of_mem_take hd), deps_le fun d hd => deps_mem (List.mem_of_mem_drop hd)⟩
theorem headD_ok {ds : List D} (h : noLs ds = true) : noL (ds.headD .non) = true ∧ dep (ds.headD .non) ≤ deps ds := by
  cases ds with
  | nil => simp [noL, dep]
  | cons d ds =>
    simp only [noLs, Bool.and_eq_true] at h
    exact ⟨h.1, by simp only [List.headD_cons, deps]; omega⟩
theorem joinD_ok (j : Str) : ∀ (f : Nat) (ds : List D), noLs ds = true → noL (joinD j f ds) = true ∧ dep (joinD j f ds) ≤ f + deps ds
  | 0, ds, h => by
    have := headD_ok h
    exact ⟨this.1, by simp only [joinD]; omega⟩
  | f + 1, ds, h => by
    unfold joinD
    split
    · have := headD_ok h
      exact ⟨this.1, by omega⟩
    · have t := noLs_take ((ds.length + 1) / 2) h
      have e := deps_take ((ds.length + 1) / 2) ds
      have a := joinD_ok j f _ t.1
      have b := joinD_ok j f _ t.2
      refine ⟨by simp [noL, noLs, a.1, b.1], ?_⟩
      simp only [dep, deps]
      omega
def itemD (j : Str) (e : Nat × List D) : D := .tup [joinD j e.1 e.2, .int e.2.length]
def StOk (e : Nat × List D) : Prop := 1 ≤ e.2.length ∧ e.2.length ≤ 2 ^ e.1 ∧ noLs e.2 = true ∧ e.1 ≤ 10 ∧ deps e.2 ≤ 20
theorem item_ok {j : Str} {e : Nat × List D} (h : StOk e) : noL (itemD j e) = true ∧ dep (itemD j e) ≤ 31 := by
  obtain ⟨_, _, h3, h4, h5⟩ := h
  have := joinD_ok j e.1 e.2 h3
  refine ⟨by simp [itemD, noL, noLs, this.1], ?_⟩
  simp only [itemD, dep, deps]
  omega
def sp_unj : Sp := fun vs H Q _ => ∃ (v : V) (j : Str) (f : Nat) (ds : List D), vs = [v, .str j, .int ds.length] ∧ Dat H (joinD j f ds) v ∧ 1 ≤ ds.length ∧ ds.length ≤ 2 ^ f ∧ ds.length ≤ 1000 ∧ noLs ds = true ∧ deps ds ≤ 20 ∧ f ≤ 10 ∧ ∀ r H', Same H H' → Dat H' (.lst ds) r → Q r H'
theorem ok_unj (T : Txt K mg t) : FnOk P w K mg base CX0 1 t.a_l_unjoined t.d_l_unjoined ["_law_thing", "_law_join", "_law_many"] sp_unj := by
  refine T.f_l_unjoined.ok sc_l_unjoined (fun vs H Q E h => ?_) (fun cdv A outer s H vs Q E hr h => ?_)
  · obtain ⟨v, j, f, ds, rfl, _⟩ := h; rfl
  · obtain ⟨v, j, f, ds, rfl, hv, h1, h2, h3, hnl, hdp, hf, k⟩ := h
    refine ⟨_, (pss_cons (ps_set (i := 3) sc_l_unjoined.nd rfl (Or.inl rfl) (pe_lst (pa_consT (pe_tup (pa_cons (pv 0) (pa_cons (pv 2) pa_nil))) pa_nil)))
      (pss_cons (ps_set (i := 4) sc_l_unjoined.nd rfl (Or.inl rfl) (pe_lst pa_nil))
      (pss_cons (ps_while PassesOwn.never (pt_cmpR (op_neD hr.u100) (pv 3) (pe_lst pa_nil) (nomark _)) (pss_cons (ps_asg (pe_bm0 PySem.F.plainAttrs_list PySem.F.slot_list_pop PySem.F.type_list_pop mt_pop (pv 3)) (pg_tup (n := 2) rfl (pgs_cons (pg_name (i := 5) sc_l_unjoined.nd rfl (Or.inl rfl)) (pgs_cons (pg_name (i := 6) sc_l_unjoined.nd rfl (Or.inl rfl)) pgs_nil))))
      (pss_one (ps_if (pt_cmpR op_eq (pv 6) pe_int (nomark _)) (pss_one (ps_expr (pe_bm PySem.F.plainAttrs_list PySem.F.slot_list_append PySem.F.type_list_append mt_append (pv 4) (pa_cons (pv 5) pa_nil)))) (pss_cons (ps_if (PW.pt (pw_or (pt_not (pt_truth (pe_callB call_isA (by rfl) T.b_isinstance (by kernel_rfl) (pa_cons (pv 5) (pa_cons (pe_bltn (v := .ty "tuple") (by rfl) T.b_tuple (by kernel_rfl) (by rfl)) pa_nil))) (fun _ => rfl))) (pw_or (pt_cmpR op_ne (pe_callB call_len (by rfl) T.b_len (by kernel_rfl) (pa_cons (pv 5) pa_nil)) pe_int (nomark _)) (pw_or1 (pt_cmpR op_ne (pe_ix ix_tup (pv 5) pe_int (fun _ _ => rfl)) (pv 1) (nomark _)))))) (pss_one (ps_ret pe_non)) pss_nil)
      (pss_cons (ps_set (i := 7) sc_l_unjoined.nd rfl (Or.inl rfl) (pe_op op_sub (pv 6) (pe_op op_fdiv (pv 6) pe_int)))
      (pss_one (ps_expr (pe_bm PySem.F.plainAttrs_list PySem.F.slot_list_extend PySem.F.type_list_extend mt_extend (pv 3) (pa_consL (pe_lst (pa_consT (pe_tup (pa_cons (pe_ix ix_tup (pv 5) pe_int (fun _ _ => rfl)) (pa_cons (pe_op op_sub (pv 6) (pv 7)) pa_nil))) (pa_consT (pe_tup (pa_cons (pe_ix ix_tup (pv 5) pe_int (fun _ _ => rfl)) (pa_cons (pv 7) pa_nil))) pa_nil))) pa_nil))))))))))
      (pss_one (ps_ret (pv 4)))))), ?_⟩
    walk_at "rd"
    refine ⟨by decide, fun p hp => ⟨by decide, fun pw hpw => ⟨by decide, fun pf hpf => ?_⟩⟩⟩
    have hpw0 : H pw = none := (same_upd hp).free hpw
    have hpf1 := (same_upd hpw).free hpf
    have hpf0 : H pf = none := (same_upd hp).free hpf1
    have nfw : pf ≠ pw := fun e => by subst e; rw [upd_same] at hpf; cases hpf
    obtain ⟨Pv, iP⟩ := inv fun m σ H2 => ∃ (stk : List (Nat × List D)) (fs : List D) (xs ys : List V) (v5 v6 v7 : Option V), σ = [some v, some (.str j), some (.int ds.length), some (.ref pw), some (.ref pf), v5, v6, v7] ∧ Same H H2 ∧
      H2 pw = some (.lst xs) ∧ Dats H2 (stk.map (itemD j)) xs ∧ H2 pf = some (.lst ys) ∧ Dats H2 fs ys ∧ fs ++ (stk.reverse.map (·.2)).flatten = ds ∧ (∀ e ∈ stk, StOk e) ∧ noLs fs = true ∧ m = (stk.map fun e => 2 * e.2.length - 1).sum
    refine ⟨Pv, ⟨_, (iP _ _ _).mpr ⟨[(f, ds)], [], [.ref p], [], none, none, none, rfl, same_over hpf0 (same_over hpw0 (same_upd hp)), ?_, ?_, upd_same, by simp [Dats], by simp, ?_, by simp [noLs], rfl⟩⟩, fun m σ H2 h => ?_⟩
    · rw [upd_ne nfw.symm, upd_same]
    · refine Dats.one ?_
      simp only [itemD, Dat]
      have s1 := same_upd (o := .lst [.ref p]) hpw
      have s2 := same_upd (o := .lst []) hpf
      refine ⟨p, [v, .int ds.length], rfl, s2 _ _ (s1 _ _ upd_same), ?_⟩
      simp only [Dats]
      exact ⟨_, _, rfl, ((hv.same (same_upd hp)).same s1).same s2, _, _, rfl, by simp [Dat], rfl⟩
    · intro e he
      rw [List.mem_singleton.mp he]
      exact ⟨h1, h2, hnl, hf, hdp⟩
    · obtain ⟨stk, fs, xs, ys, v5, v6, v7, rfl, sH, hw2, hdx, hf2, hdy, hflat, hst, hnf, hm⟩ := (iP _ _ _).mp h
      walk_at "rd"
      refine ⟨by decide, fun q hq => ?_⟩
      have s23 : Same H2 (upd H2 q (.lst [])) := same_upd hq
      have hq3 : upd H2 q (.lst []) q = some (.lst []) := upd_same
      generalize upd H2 q (.lst []) = H3 at s23 hq3 ⊢
      have hw3 := s23 _ _ hw2
      have hf3 := s23 _ _ hf2
      have hdx3 := hdx.same s23
      have hdy3 := hdy.same s23
      have sH3 := sH.trans s23
      have dW : Dat H3 (.lst (stk.map (itemD j))) (.ref pw) := by
        simp only [Dat]
        exact ⟨pw, xs, rfl, hw3, hdx3⟩
      have dE : Dat H3 (.lst []) (.ref q) := by
        simp only [Dat]
        exact ⟨q, [], rfl, hq3, by simp [Dats]⟩
      have hdep : dep (.lst (stk.map (itemD j))) ≤ 100 := by
        simp only [dep]
        have : deps (stk.map (itemD j)) ≤ 31 := deps_le fun d hd => by
          obtain ⟨e, he, rfl⟩ := List.mem_map.mp hd
          exact (item_ok (hst e he)).2
        omega
      refine ⟨_, dW, _, dE, hdep, ?_⟩
      obtain hstk | ⟨stk', e, hstk⟩ : stk = [] ∨ ∃ stk' e, stk = stk' ++ [e] := by
        rcases List.eq_nil_or_concat stk with h | ⟨a, b, h⟩
        · exact .inl h
        · exact .inr ⟨a, b, by rw [h, List.concat_eq_append]⟩
      all_goals subst hstk
      · refine iteF (k _ _ sH3 ?_)
        have : fs = ds := by simpa using hflat
        rw [← this]
        simp only [Dat]
        exact ⟨pf, ys, rfl, hf3, hdy3⟩
      · have hne : eqD (.lst ((stk' ++ [e]).map (itemD j))) (.lst []) = false := by
          simp only [eqD]
          exact eqDs_len (by simp)
        rw [hne]
        have hxl : xs.length = stk'.length + 1 := by rw [hdx3.length]; simp
        obtain ⟨x, hx, hdx'⟩ := hdx3.get (i := stk'.length) (d := itemD j e) (by simp)
        have hdl : Dats H3 (stk'.map (itemD j)) xs.dropLast := by
          have := Dats.take stk'.length hdx3
          rw [List.dropLast_eq_take, hxl]
          simpa using this
        obtain ⟨e1, e2, e3, e4, e5⟩ := hst e (by simp)
        have hst' : ∀ e ∈ stk', StOk e := fun z hz => hst z (by simp [hz])
        simp only [itemD, Dat, Dats] at hdx'
        obtain ⟨ax, ts, rfl, hax, hh, r1, rfl, hdh, hc, r2, rfl, rfl, rfl⟩ := hdx'
        refine iteT ⟨fun σ' H' => ∃ m', m' < m ∧ Pv m' σ' H', fun _ _ h => h, .inl ⟨_, SqL.of hw3⟩, xs, hw3, _, by rw [hxl]; exact hx, ?_⟩
        have nax : ax ≠ pw := ne_of hax hw3 (by intro z; cases z)
        have tS : TSame H3 (upd H3 pw (.lst xs.dropLast)) := tsame_upd hw3
        have sH4 : Same H (upd H3 pw (.lst xs.dropLast)) := same_over hpw0 sH3
        have hw4 : upd H3 pw (.lst xs.dropLast) pw = some (.lst xs.dropLast) := upd_same
        have hf4 : upd H3 pw (.lst xs.dropLast) pf = some (.lst ys) := by rw [upd_ne nfw]; exact hf3
        have hax4 := tS _ _ hax
        have noi : noLs (stk'.map (itemD j)) = true := noLs_all fun d hd => by
          obtain ⟨z, hz, rfl⟩ := List.mem_map.mp hd
          exact (item_ok (hst' z hz)).1
        have hdl4 := Dats.t tS noi hdl
        have hdy4 := Dats.t tS hnf hdy3
        have hdh4 := Dat.t tS (joinD_ok j e.1 e.2 e3).1 hdh
        generalize upd H3 pw (.lst xs.dropLast) = H4 at tS sH4 hw4 hf4 hax4 hdl4 hdy4 hdh4 ⊢
        have hyl : ys.length ≤ 1000 := by
          have a1 := hdy3.length
          have a2 := congrArg List.length hflat
          rw [List.length_append] at a2
          omega
        have hxl2 : xs.dropLast.length = stk'.length := by rw [List.length_dropLast, hxl]; rfl
        refine ⟨ax, rfl, _, SqT.of hax4, rfl, _, _, rfl, _, _, rfl, rfl, rfl, ite2 (fun h4 => ?_) (fun h4 => ?_)⟩
        · -- one alone
          have hlen1 : e.2.length = 1 := by
            have := V.int.inj h4
            omega
          obtain ⟨d, hd⟩ : ∃ d, e.2 = [d] := List.length_eq_one_iff.mp hlen1
          have ej : joinD j e.1 e.2 = d := by
            rw [hd]
            cases e.1 with
            | zero => rfl
            | succ f => rfl
          rw [ej] at hdh4
          have nd : noL d = true := by
            rw [hd] at e3
            simpa [noLs] using e3
          have tS2 : TSame H4 (upd H4 pf (.lst (ys ++ [hh]))) := tsame_upd hf4
          refine ⟨.inl ⟨_, SqL.of hf4⟩, ys, hf4, Nat.lt_of_le_of_lt hyl (by decide), _, ?_, (iP _ _ _).mpr ⟨stk', fs ++ [d], xs.dropLast, ys ++ [hh], _, _, _, rfl, same_over hpf0 sH4, ?_, Dats.t tS2 noi hdl4, upd_same, ?_, ?_, hst', ?_, rfl⟩⟩
          · rw [hm, List.map_append, List.sum_append]
            simp [hlen1]
          · rw [upd_ne nfw.symm]; exact hw4
          · exact (Dats.t tS2 hnf hdy4).append (Dats.one (Dat.t tS2 nd hdh4))
          · rw [← hflat, List.reverse_append]
            simp [hd]
          · exact noLs_all fun z hz => by
              rcases List.mem_append.mp hz with hz | hz
              · exact noLs_mem hnf hz
              · rw [List.mem_singleton.mp hz]; exact nd
        · have hlen2 : e.2.length ≠ 1 := fun z => h4 (by rw [z]; rfl)
          obtain ⟨g, hg⟩ : ∃ g, e.1 = g + 1 := by
            cases hg : e.1 with
            | zero => rw [hg] at e2; exact absurd e2 (by simp; omega)
            | succ g => exact ⟨g, rfl⟩
          obtain ⟨n, hn⟩ : ∃ n, n = (e.2.length + 1) / 2 := ⟨_, rfl⟩
          rw [hg, joinD, if_neg hlen2, ← hn] at hdh4
          simp only [Dat, Dats] at hdh4
          obtain ⟨ah, ts, rfl, hah, z0, r0, rfl, rfl, g1, r1, rfl, hd1, g2, r2, rfl, hd2, rfl⟩ := hdh4
          have i1 : ((e.2.length : Int) - (e.2.length : Int) / 2) = ((e.2.take n).length : Int) := by rw [List.length_take]; omega
          have i2 : (e.2.length : Int) - ((e.2.take n).length : Int) = ((e.2.drop n).length : Int) := by rw [List.length_take, List.length_drop]; omega
          refine ⟨by decide, by rw [ty_tup hah]; rfl, ?_⟩
          rw [isA_of (ty_tup hah)]
          refine iteF ⟨_, len_tup (SqT.of hah), iteNS rfl ⟨ah, rfl, _, SqT.of hah, _, rfl, rfl, iteNS rfl ⟨_, rfl, ⟨by decide, by decide⟩, _, rfl, .inl ⟨_, SqL.of hw4⟩, ah, rfl, _, SqT.of hah, _, rfl, _, rfl, by decide, fun q1 hq1 => ⟨ah, rfl, _, SqT.of (same_upd hq1 _ _ hah), _, rfl, by decide, fun q2 hq2 => ⟨by decide, fun q3 hq3 => ?_⟩⟩⟩⟩⟩
          rw [i1, i2] at hq2 hq3 ⊢
          have s45 := same_upd (o := .tup [g2, .int ((e.2.drop n).length : Int)]) hq1
          have s56 := same_upd (o := .tup [g1, .int ((e.2.take n).length : Int)]) hq2
          have s67 := same_upd (o := .lst [.ref q1, .ref q2]) hq3
          have s47 := (s45.trans s56).trans s67
          have a1 := s67 _ _ (s56 _ _ (upd_same (H := H4) (a := q1) (o := .tup [g2, .int ((e.2.drop n).length : Int)])))
          have a2 := s67 _ _ (upd_same (H := upd H4 q1 (.tup [g2, .int ((e.2.drop n).length : Int)])) (a := q2) (o := .tup [g1, .int ((e.2.take n).length : Int)]))
          have a3 := upd_same (H := upd (upd H4 q1 (.tup [g2, .int ((e.2.drop n).length : Int)])) q2 (.tup [g1, .int ((e.2.take n).length : Int)])) (a := q3) (o := .lst [.ref q1, .ref q2])
          generalize upd (upd (upd H4 q1 (.tup [g2, .int ((e.2.drop n).length : Int)])) q2 (.tup [g1, .int ((e.2.take n).length : Int)])) q3 (.lst [.ref q1, .ref q2]) = H7 at s47 a1 a2 a3 ⊢
          have hw7 := s47 _ _ hw4
          have tS7 : TSame H7 (upd H7 pw (.lst (xs.dropLast ++ [.ref q1, .ref q2]))) := tsame_upd hw7
          have n12 := noLs_take n e3
          have p12 := deps_take n e.2
          have hpow : e.2.length ≤ 2 * 2 ^ g := by rw [hg, Nat.pow_succ] at e2; omega
          have k1 : StOk (g, e.2.drop n) := ⟨by show 1 ≤ (e.2.drop n).length; rw [List.length_drop]; omega, by show (e.2.drop n).length ≤ 2 ^ g; rw [List.length_drop]; omega, n12.2, by show g ≤ 10; omega, Nat.le_trans p12.2 e5⟩
          have k2 : StOk (g, e.2.take n) := ⟨by show 1 ≤ (e.2.take n).length; rw [List.length_take]; omega, by show (e.2.take n).length ≤ 2 ^ g; rw [List.length_take]; omega, n12.1, by show g ≤ 10; omega, Nat.le_trans p12.1 e5⟩
          have dd1 : Dat H7 (itemD j (g, e.2.drop n)) (.ref q1) := by
            simp only [itemD, Dat, Dats]
            exact ⟨q1, _, rfl, a1, _, _, rfl, hd2.same s47, _, _, rfl, rfl, rfl⟩
          have dd2 : Dat H7 (itemD j (g, e.2.take n)) (.ref q2) := by
            simp only [itemD, Dat, Dats]
            exact ⟨q2, _, rfl, a2, _, _, rfl, hd1.same s47, _, _, rfl, rfl, rfl⟩
          have hstkl : stk'.length ≤ 1000 := by
            have b1 := congrArg List.length hflat
            rw [List.length_append] at b1
            have b2 : ∀ l : List (Nat × List D), (∀ z ∈ l, StOk z) → l.length ≤ ((l.reverse.map (·.2)).flatten).length := fun l => by
              induction l with
              | nil => intro _; simp
              | cons z l ih =>
                intro hz
                have c1 := ih fun y hy => hz y (List.mem_cons_of_mem _ hy)
                have c2 := (hz z (List.mem_cons_self ..)).1
                rw [List.reverse_cons, List.map_append, List.flatten_append, List.length_append]
                simp only [List.map_cons, List.map_nil, List.flatten_cons, List.flatten_nil, List.append_nil, List.length_cons]
                omega
            have b3 := b2 (stk' ++ [e]) hst
            rw [List.length_append] at b3
            omega
          refine ⟨pw, q3, xs.dropLast, [.ref q1, .ref q2], rfl, rfl, hw7, a3, Nat.le_trans (by show xs.dropLast.length + 2 ≤ 1002; omega) (by decide), _, ?_, (iP _ _ _).mpr ⟨stk' ++ [(g, e.2.drop n), (g, e.2.take n)], fs, xs.dropLast ++ [.ref q1, .ref q2], ys, _, _, _, rfl, same_over hpw0 (sH4.trans s47), upd_same, ?_, by rw [upd_ne nfw]; exact s47 _ _ hf4, Dats.t tS7 hnf (hdy4.same s47), ?_, ?_, hnf, rfl⟩⟩
          · rw [hm, List.map_append, List.map_append, List.sum_append, List.sum_append]
            simp only [List.map_cons, List.map_nil, List.sum_cons, List.sum_nil, List.length_take, List.length_drop]
            omega
          · rw [List.map_append]
            refine (Dats.t tS7 noi (hdl4.same s47)).append ?_
            simp only [List.map_cons, List.map_nil, Dats]
            exact ⟨_, _, rfl, Dat.t tS7 (item_ok k1).1 dd1, _, _, rfl, Dat.t tS7 (item_ok k2).1 dd2, rfl⟩
          · rw [← hflat, List.reverse_append, List.reverse_append]
            simp only [List.reverse_cons, List.reverse_nil, List.nil_append, List.cons_append, List.map_cons, List.flatten_cons]
            rw [← List.append_assoc (e.2.take n), List.take_append_drop]
          · intro z hz
            rcases List.mem_append.mp hz with hz | hz
            · exact hst' z hz
            · simp only [List.mem_cons, List.not_mem_nil, or_false] at hz
              rcases hz with rfl | rfl
              · exact k1
              · exact k2
end
section
variable {P : Program} {w : World} {K : PySem.W.Frag} {mg : Str → Option Value} {base : Heap} {t : Adr}
/-- trees joined by halves -/
def joinT (j : Str) : Nat → List Tr → Tr
  | 0, us => us.headD (.lf [])
  | f + 1, us => if us.length = 1 then us.headD (.lf []) else .nd [.str j] (joinT j f (us.take ((us.length + 1) / 2))) (joinT j f (us.drop ((us.length + 1) / 2)))
theorem half_pow {n f : Nat} (h1 : 1 ≤ n) (h : n ≤ 2 ^ (f + 1)) (hn : n ≠ 1) : 1 ≤ (n + 1) / 2 ∧ (n + 1) / 2 ≤ 2 ^ f ∧ 1 ≤ n - (n + 1) / 2 ∧ n - (n + 1) / 2 ≤ 2 ^ f := by
  rw [Nat.pow_succ] at h
  omega
theorem joinT_d (j : Str) : ∀ (f : Nat) (us : List Tr), 1 ≤ us.length → us.length ≤ 2 ^ f → (joinT j f us).d = joinD j f (us.map Tr.d)
  | 0, us, h1, h2 => by
    cases us with
    | nil => simp at h1
    | cons u us => rfl
  | f + 1, us, h1, h2 => by
    unfold joinT joinD
    rw [List.length_map]
    by_cases h : us.length = 1
    · rw [if_pos h, if_pos h]
      cases us with
      | nil => simp at h1
      | cons u us => rfl
    · rw [if_neg h, if_neg h]
      have hp := half_pow h1 h2 h
      have a := joinT_d j f (us.take ((us.length + 1) / 2)) (by rw [List.length_take]; omega) (by rw [List.length_take]; omega)
      have b := joinT_d j f (us.drop ((us.length + 1) / 2)) (by rw [List.length_drop]; omega) (by rw [List.length_drop]; omega)
      simp only [Tr.d, a, b, List.map_take, List.map_drop, List.cons_append, List.nil_append]
theorem headD_mem {us : List Tr} (h : 1 ≤ us.length) : us.headD (.lf []) ∈ us := by
  cases us with
  | nil => simp at h
  | cons u us => simp
theorem joinT_say {j : Str} (hj : j = "and" ∨ j = "or") {pl : Nat} {bs : List Int} : ∀ (f : Nat) (us : List Tr), 1 ≤ us.length → us.length ≤ 2 ^ f → (∀ u ∈ us, SayT pl bs u) → SayT pl bs (joinT j f us)
  | 0, us, h1, h2, h => h _ (headD_mem h1)
  | f + 1, us, h1, h2, h => by
    unfold joinT
    by_cases e : us.length = 1
    · rw [if_pos e]; exact h _ (headD_mem h1)
    · rw [if_neg e]
      have hp := half_pow h1 h2 e
      refine ⟨?_, joinT_say hj f _ (by rw [List.length_take]; omega) (by rw [List.length_take]; omega) fun u hu => h u (List.mem_of_mem_take hu), joinT_say hj f _ (by rw [List.length_drop]; omega) (by rw [List.length_drop]; omega) fun u hu => h u (List.mem_of_mem_drop hu)⟩
      rcases hj with rfl | rfl
      · exact .inl rfl
      · exact .inr rfl
theorem joinT_dp (j : Str) {q : Nat} : ∀ (f : Nat) (us : List Tr), 1 ≤ us.length → us.length ≤ 2 ^ f → (∀ u ∈ us, u.dp ≤ q) → (joinT j f us).dp ≤ f + q
  | 0, us, h1, h2, h => by
    have := h _ (headD_mem h1)
    unfold joinT
    omega
  | f + 1, us, h1, h2, h => by
    unfold joinT
    by_cases e : us.length = 1
    · rw [if_pos e]
      have := h _ (headD_mem h1)
      omega
    · rw [if_neg e]
      have hp := half_pow h1 h2 e
      have a := joinT_dp j f (us.take ((us.length + 1) / 2)) (by rw [List.length_take]; omega) (by rw [List.length_take]; omega) fun u hu => h u (List.mem_of_mem_take hu)
      have b := joinT_dp j f (us.drop ((us.length + 1) / 2)) (by rw [List.length_drop]; omega) (by rw [List.length_drop]; omega) fun u hu => h u (List.mem_of_mem_drop hu)
      simp only [Tr.dp]
      omega
theorem joinT_val (c : Bool) (wd : List Int) : ∀ (f : Nat) (us : List Tr), 1 ≤ us.length → us.length ≤ 2 ^ f → valT wd (joinT (if c then "and" else "or") f us) = (if c then us.all (valT wd) else us.any (valT wd))
  | 0, us, h1, h2 => by
    have e : us.length = 1 := by simp at h2; omega
    obtain ⟨u, rfl⟩ := List.length_eq_one_iff.mp e
    cases c <;> simp [joinT]
  | f + 1, us, h1, h2 => by
    unfold joinT
    by_cases e : us.length = 1
    · rw [if_pos e]
      obtain ⟨u, rfl⟩ := List.length_eq_one_iff.mp e
      cases c <;> simp
    · rw [if_neg e]
      have hp := half_pow h1 h2 e
      have a := joinT_val c wd f (us.take ((us.length + 1) / 2)) (by rw [List.length_take]; omega) (by rw [List.length_take]; omega)
      have b := joinT_val c wd f (us.drop ((us.length + 1) / 2)) (by rw [List.length_drop]; omega) (by rw [List.length_drop]; omega)
      simp only [valT, a, b]
      have sp := List.take_append_drop ((us.length + 1) / 2) us
      cases c with
      | true =>
        have e3 : isAnd [D.str (if true = true then "and" else "or")] = true := rfl
        rw [e3]
        simp only [if_true]
        rw [← List.all_append, sp]
      | false =>
        have e3 : isAnd [D.str (if false = true then "and" else "or")] = false := by
          simp only [isAnd, Bool.false_eq_true, if_false]
          exact decide_eq_false sw3
        rw [e3]
        simp only [Bool.false_eq_true, if_false]
        rw [← List.any_append, sp]
theorem size_dp : ∀ u : Tr, u.size + 1 ≤ 2 ^ (u.dp + 1)
  | .lf _ => by simp [Tr.size, Tr.dp]
  | .nd _ l r => by
    have a := size_dp l
    have b := size_dp r
    simp only [Tr.size, Tr.dp]
    have c : 2 ^ (l.dp + 1) ≤ 2 ^ (1 + max l.dp r.dp) := Nat.pow_le_pow_right (by decide) (by omega)
    have d : 2 ^ (r.dp + 1) ≤ 2 ^ (1 + max l.dp r.dp) := Nat.pow_le_pow_right (by decide) (by omega)
    rw [Nat.pow_succ]
    first
    | omega
    | (rw [Nat.add_comm 1 (max l.dp r.dp)] at c d; omega)
/-- the leaves of a word, or of its other bits -/
def lfs (pl n : Nat) (b : Bool) : List Tr := (List.range pl).map fun (p : Nat) => Tr.lf [.str "is", .int (p : Int), .int (if (n.testBit (pl - 1 - p)) != b then 1 else 0)]
theorem lfs_len (pl n : Nat) (b : Bool) : (lfs pl n b).length = pl := by simp [lfs]
theorem lfs_get {pl n p : Nat} (b : Bool) (h : p < pl) : (lfs pl n b)[p]? = some (.lf [.str "is", .int p, .int (if (n.testBit (pl - 1 - p)) != b then 1 else 0)]) := by
  unfold lfs
  rw [List.getElem?_map, List.getElem?_range h]
  rfl
theorem lfs_say {pl n : Nat} {b : Bool} : ∀ u ∈ lfs pl n b, SayT pl [0, 1] u ∧ u.dp ≤ 0 := fun u hu => by
  obtain ⟨p, hp, rfl⟩ := List.mem_map.mp hu
  exact ⟨⟨p, _, rfl, List.mem_range.mp hp, by split <;> simp⟩, Nat.le_refl _⟩
theorem lfs_val {pl n m p : Nat} {b : Bool} (h : p < pl) : valT (wordOf pl m) (.lf [.str "is", .int p, .int (if (n.testBit (pl - 1 - p)) != b then 1 else 0)]) = (m.testBit (pl - 1 - p) == (n.testBit (pl - 1 - p) != b)) := by
  simp only [valT, Int.toNat_natCast, wordOf_get h]
  cases m.testBit (pl - 1 - p) <;> cases n.testBit (pl - 1 - p) <;> cases b <;> decide
theorem bits_eq {pl m n : Nat} (hm : m < 2 ^ pl) (hn : n < 2 ^ pl) (h : ∀ p, p < pl → m.testBit (pl - 1 - p) = n.testBit (pl - 1 - p)) : m = n := by
  apply Nat.eq_of_testBit_eq
  intro i
  by_cases hi : i < pl
  · have := h (pl - 1 - i) (by omega)
    rwa [show pl - 1 - (pl - 1 - i) = i by omega] at this
  · rw [Nat.testBit_lt_two_pow (Nat.lt_of_lt_of_le hm (Nat.pow_le_pow_right (by decide) (by omega))), Nat.testBit_lt_two_pow (Nat.lt_of_lt_of_le hn (Nat.pow_le_pow_right (by decide) (by omega)))]
theorem lfs_row {pl m n : Nat} {b : Bool} (hm : m < 2 ^ pl) (hn : n < 2 ^ pl) : (if (!b) then (lfs pl n b).all (valT (wordOf pl m)) else (lfs pl n b).any (valT (wordOf pl m))) = (if b then m != n else m == n) := by
  unfold lfs
  rw [Bool.eq_iff_iff]
  cases b with
  | false =>
    simp only [Bool.not_false, if_true, List.all_map, List.all_eq_true, List.mem_range, Function.comp, Bool.false_eq_true, if_false, beq_iff_eq]
    constructor
    · intro h
      refine bits_eq hm hn fun p hp => ?_
      have := h p hp
      rw [lfs_val hp] at this
      simpa using this
    · rintro rfl p hp
      rw [lfs_val hp]; simp
  | true =>
    simp only [Bool.not_true, Bool.false_eq_true, if_false, List.any_map, List.any_eq_true, List.mem_range, Function.comp, if_true]
    refine Iff.trans ?_ bne_iff_ne.symm
    constructor
    · rintro ⟨p, hp, h⟩ rfl
      rw [lfs_val hp] at h
      simp at h
    · intro hne
      by_cases hex : ∃ p, p < pl ∧ m.testBit (pl - 1 - p) ≠ n.testBit (pl - 1 - p)
      · obtain ⟨p, hp, h⟩ := hex
        refine ⟨p, hp, ?_⟩
        rw [lfs_val hp]
        cases h1 : m.testBit (pl - 1 - p) <;> cases h2 : n.testBit (pl - 1 - p) <;> simp_all
      · refine absurd (bits_eq hm hn fun p hp => ?_) hne
        by_cases h : m.testBit (pl - 1 - p) = n.testBit (pl - 1 - p)
        · exact h
        · exact absurd ⟨p, hp, h⟩ hex
/-- the word's own saying (b false), or that of another word (b true) -/
def wsT (pl n : Nat) (b : Bool) : Tr := joinT (if (!b) then "and" else "or") 3 (lfs pl n b)
theorem ws_ok {pl n : Nat} {b : Bool} (h1 : 1 ≤ pl) (h2 : pl ≤ 5) : SayT pl [0, 1] (wsT pl n b) ∧ (wsT pl n b).dp ≤ 3 := by
  have e : (lfs pl n b).length = pl := lfs_len pl n b
  refine ⟨joinT_say (by cases b <;> simp) 3 _ (by omega) (by omega) fun u hu => (lfs_say u hu).1, joinT_dp _ 3 _ (by omega) (by omega) fun u hu => (lfs_say u hu).2⟩
theorem ws_val {pl n m : Nat} {b : Bool} (h1 : 1 ≤ pl) (h2 : pl ≤ 5) (hm : m < 2 ^ pl) (hn : n < 2 ^ pl) : valT (wordOf pl m) (wsT pl n b) = (if b then m != n else m == n) := by
  have e : (lfs pl n b).length = pl := lfs_len pl n b
  unfold wsT
  rw [joinT_val (!b) _ 3 _ (by omega) (by omega), lfs_row hm hn]
/-- a saying by its words: yes (b false), no (b true) -/
def byT (pl : Nat) (ns : List Nat) (b : Bool) : Tr := joinT (if b then "and" else "or") 5 (ns.map fun n => wsT pl n b)
theorem by_ok {pl : Nat} {ns : List Nat} {b : Bool} (h1 : 1 ≤ pl) (h2 : pl ≤ 5) (hl1 : 1 ≤ ns.length) (hl2 : ns.length ≤ 32) : SayT pl [0, 1] (byT pl ns b) ∧ (byT pl ns b).dp ≤ 8 ∧ (byT pl ns b).size ≤ 100000 := by
  have e : (ns.map fun n => wsT pl n b).length = ns.length := List.length_map ..
  have hd : (byT pl ns b).dp ≤ 8 := joinT_dp (q := 3) _ 5 _ (by omega) (by omega) fun u hu => by
    obtain ⟨n, _, rfl⟩ := List.mem_map.mp hu
    exact (ws_ok h1 h2).2
  refine ⟨joinT_say (by cases b <;> simp) 5 _ (by omega) (by omega) fun u hu => ?_, hd, ?_⟩
  · obtain ⟨n, _, rfl⟩ := List.mem_map.mp hu
    exact (ws_ok h1 h2).1
  · have a := size_dp (byT pl ns b)
    have c : 2 ^ ((byT pl ns b).dp + 1) ≤ 2 ^ 9 := Nat.pow_le_pow_right (by decide) (by omega)
    omega
theorem by_val {pl m : Nat} {ns : List Nat} {b : Bool} (h1 : 1 ≤ pl) (h2 : pl ≤ 5) (hl1 : 1 ≤ ns.length) (hl2 : ns.length ≤ 32) (hm : m < 2 ^ pl) (hn : ∀ n ∈ ns, n < 2 ^ pl) : valT (wordOf pl m) (byT pl ns b) = (if b then !(ns.contains m) else ns.contains m) := by
  have e : (ns.map fun n => wsT pl n b).length = ns.length := List.length_map ..
  unfold byT
  rw [joinT_val b _ 5 _ (by omega) (by omega)]
  rw [Bool.eq_iff_iff]
  cases b with
  | false =>
    simp only [Bool.false_eq_true, if_false, List.any_map, List.any_eq_true, Function.comp]
    constructor
    · rintro ⟨n, h, q⟩
      rw [ws_val h1 h2 hm (hn n h)] at q
      simp at q
      subst q
      simpa using h
    · intro h
      have h : m ∈ ns := by simpa using h
      exact ⟨m, h, by rw [ws_val h1 h2 hm (hn m h)]; simp⟩
  | true =>
    simp only [if_true, List.all_map, List.all_eq_true, Function.comp]
    constructor
    · intro h
      have : m ∉ ns := fun hmm => by
        have q := h m hmm
        rw [ws_val h1 h2 hm (hn m hmm)] at q
        simp at q
      simpa using this
    · intro h n hnn
      have h : m ∉ ns := by simpa using h
      rw [ws_val h1 h2 hm (hn n hnn)]
      simp only [if_true]
      exact bne_iff_ne.mpr fun z => h (z ▸ hnn)
theorem by_miss {pl : Nat} {ys zs : List Nat} {b : Bool} (h1 : 1 ≤ pl) (h2 : pl ≤ 5) (hy1 : 1 ≤ ys.length) (hz1 : 1 ≤ zs.length) (hl : ys.length + zs.length ≤ 32) (hy : ∀ n ∈ ys, n < 2 ^ pl) (hz : ∀ n ∈ zs, n < 2 ^ pl) (hd : ∀ n ∈ ys, n ∉ zs) :
    (∀ n ∈ ys, valT (wordOf pl n) (byT pl (if b then zs else ys) b) = true) ∧ (∀ n ∈ zs, valT (wordOf pl n) (byT pl (if b then zs else ys) b) = false) := by
  cases b with
  | false =>
    simp only [Bool.false_eq_true, if_false]
    refine ⟨fun n hn => ?_, fun n hn => ?_⟩
    · rw [by_val h1 h2 hy1 (by omega) (hy n hn) hy]; simpa using hn
    · rw [by_val h1 h2 hy1 (by omega) (hz n hn) hy]
      have : n ∉ ys := fun q => hd n q hn
      simpa using this
  | true =>
    simp only [if_true]
    refine ⟨fun n hn => ?_, fun n hn => ?_⟩
    · rw [by_val h1 h2 hz1 (by omega) (hy n hn) hz]
      have := hd n hn
      simpa using this
    · rw [by_val h1 h2 hz1 (by omega) (hz n hn) hz]; simpa using hn
end
section
variable {P : Program} {w : World} {K : PySem.W.Frag} {mg : Str → Option Value} {base : Heap} {t : Adr}
theorem dats_ints {H : Hp} : ∀ {ns : List Int} {xs : List V}, Dats H (ns.map D.int) xs → xs = ns.map V.int
  | [], xs, h => by simpa [Dats] using h
  | n :: ns, xs, h => by
    simp only [List.map_cons, Dats, Dat] at h
    obtain ⟨x, r, rfl, rfl, h2⟩ := h
    rw [dats_ints h2]; rfl
theorem bit_flip (c : Bool) : (1 : Int) - (if c then 1 else 0) = (if c != true then 1 else 0) := by cases c <;> rfl
theorem bit_id (c : Bool) : (if c then (1 : Int) else 0) = (if c != false then 1 else 0) := by cases c <;> rfl
def sp_ws (b : Bool) : Sp := fun vs H Q _ => ∃ (pl n : Nat) (v : V), vs = [v] ∧ Dat H (wdD (wordOf pl n)) v ∧ 1 ≤ pl ∧ pl ≤ 5 ∧ ∀ r H', Same H H' → Dat H' (wsT pl n b).d r → Q r H'
theorem ok_is_the_word (T : Txt K mg t) : FnOk P w K mg base CX0 5 t.a_is_the_word t.d_is_the_word ["word"] (sp_ws false) := by
  have G_joined : FnOk P w K mg base CX0 4 t.a_joined t.d_joined ["join", "some"] (sp_joined 3) := ok_joined T 3
  refine T.f_is_the_word.ok sc_is_the_word (fun vs H Q E h => ?_) (fun cdv A outer s H vs Q E hr h => ?_)
  · obtain ⟨pl, n, v, rfl, _⟩ := h; rfl
  · obtain ⟨pl, n, v, rfl, hv, h1, h2, k⟩ := h
    obtain ⟨ya, yx, rfl, hya, hyd⟩ : ∃ ya yx, v = .ref ya ∧ H ya = some (.tup yx) ∧ Dats H ((wordOf pl n).map D.int) yx := by simpa only [wdD, Dat] using hv
    have hyx : yx = (wordOf pl n).map V.int := dats_ints hyd
    subst hyx
    refine ⟨_, (pss_one (ps_ret (pe_call G_joined (hr.mono (by omega)) (by rfl) T.m_joined T.k_joined T.p_joined .nil pass0 (pa_consC pe_str (pa_cons (pe_comp (N := (["place", "bit"] : List Str)) (src := [none, none]) rfl (by show blkOk _ (defScope s_is_the_word) _ _ (["word"] : List Str) = true; decide +kernel) (by intro g' h; cases h) (pi_enumT (by rfl) T.b_enumerate (pa_cons (pv 0) pa_nil)) (fun _ _ _ _ _ _ => (pg_tupK K rfl (n := 2) rfl (pgs_cons (pg_name (i := 0) (show (["place", "bit"] : List Str).Nodup by decide +kernel) rfl (Or.inl rfl)) (pgs_cons (pg_name (i := 1) (show (["place", "bit"] : List Str).Nodup by decide +kernel) rfl (Or.inl rfl)) pgs_nil)))) (fun _ _ _ _ _ _ => pts_nil) (fun _ _ _ _ _ _ => (pl_last rfl rfl (pe_tup (pa_consC pe_str (pa_cons (pv 0) (pa_cons (pv 1) pa_nil))))))) pa_nil))))), ?_⟩
    walk_at "rd"
    refine ⟨⟨_, SqT.of hya⟩, fun acc hacc => ?_⟩
    have s1 := same_upd (o := .lst []) hacc
    obtain ⟨Pv, iP⟩ := inv fun i σ H2 => ∃ (v0 v1 : Option V), σ = [v0, v1] ∧ Keep acc (upd H acc (.lst [])) H2 ∧ LD H2 acc (((lfs pl n false).take i).map Tr.d)
    refine cloop_enumT (xs := (wordOf pl n).map V.int) Pv ((iP _ _ _).mpr ⟨_, _, rfl, Keep.refl _ _, LD.new⟩) (fun i σ H2 _ h => by obtain ⟨_, _, _, h, _⟩ := (iP _ _ _).mp h; exact SqT.of (h.t upd_same _ _ (s1 _ _ hya))) (fun i x T' σ H2 hx hT h => ?_) (fun σ H2 h => ?_)
    · obtain ⟨v0, v1, rfl, k2, ld⟩ := (iP _ _ _).mp h
      obtain ⟨yi, hyi, rfl⟩ := map_get hx
      have hil : i < pl := by
        have := (List.getElem?_eq_some_iff.mp hyi).1
        rwa [wordOf_len] at this
      have eyi : yi = (if n.testBit (pl - 1 - i) then 1 else 0) := by
        rw [wordOf_get hil] at hyi
        exact (Option.some.inj hyi).symm
      have s3 := same_upd (o := .tup [.int i, .int yi]) hT
      walk_at "rd"
      have ld3 := ld.same s3
      have k3 : Keep acc (upd H acc (.lst [])) (upd H2 T' (.tup [.int i, .int yi])) := Keep.trans k2 (fun c o _ h => s3 c o h)
      refine ⟨_, SqT.of upd_same, rfl, _, _, rfl, _, _, rfl, rfl, by decide, fun q hq => ?_⟩
      have s4 := same_upd (o := .tup [.str "is", .int i, .int yi]) hq
      obtain ⟨zs, e1, e2, e3, e4⟩ := (ld3.same s4).push (d := .tup [.str "is", .int i, .int yi]) (v := .ref q) (by simp [noL, noLs]) (by
        simp only [Dat, Dats]
        exact ⟨q, _, rfl, upd_same, _, _, rfl, rfl, _, _, rfl, rfl, _, _, rfl, rfl, rfl⟩) (by simp; omega)
      refine ⟨zs, e1, e2, (iP _ _ _).mpr ⟨_, _, rfl, Keep.trans (Keep.trans k3 (fun c o _ h => s4 c o h)) keep_upd, ?_⟩⟩
      rw [take_map (lfs_get false hil)]
      have ed : (Tr.lf [.str "is", .int i, .int (if n.testBit (pl - 1 - i) != false then 1 else 0)]).d = .tup [.str "is", .int i, .int yi] := by rw [eyi, bit_id (n.testBit (pl - 1 - i))]; rfl
      rw [ed]
      exact e3
    · obtain ⟨v0, v1, rfl, k2, ld⟩ := (iP _ _ _).mp h
      rw [List.length_map, wordOf_len, List.take_of_length_le (by rw [lfs_len]; exact Nat.le_refl _)] at ld
      obtain ⟨nl, xs, hx, hd⟩ := ld
      have e := lfs_len pl n false
      refine ⟨"and", acc, xs, _, rfl, hx, hd, by rw [List.length_map]; omega, by rw [List.length_map]; omega, by rw [List.length_map]; omega, fun r H3 s3 dr => k r H3 ((Keep.same hacc s1 k2).trans s3) ?_⟩
      unfold wsT
      rw [joinT_d _ 3 _ (by omega) (by omega)]
      exact dr
theorem ok_is_another_word (T : Txt K mg t) : FnOk P w K mg base CX0 5 t.a_is_another_word t.d_is_another_word ["word"] (sp_ws true) := by
  have G_joined : FnOk P w K mg base CX0 4 t.a_joined t.d_joined ["join", "some"] (sp_joined 3) := ok_joined T 3
  refine T.f_is_another_word.ok sc_is_another_word (fun vs H Q E h => ?_) (fun cdv A outer s H vs Q E hr h => ?_)
  · obtain ⟨pl, n, v, rfl, _⟩ := h; rfl
  · obtain ⟨pl, n, v, rfl, hv, h1, h2, k⟩ := h
    obtain ⟨ya, yx, rfl, hya, hyd⟩ : ∃ ya yx, v = .ref ya ∧ H ya = some (.tup yx) ∧ Dats H ((wordOf pl n).map D.int) yx := by simpa only [wdD, Dat] using hv
    have hyx : yx = (wordOf pl n).map V.int := dats_ints hyd
    subst hyx
    refine ⟨_, (pss_one (ps_ret (pe_call G_joined (hr.mono (by omega)) (by rfl) T.m_joined T.k_joined T.p_joined .nil pass0 (pa_consC pe_str (pa_cons (pe_comp (N := (["place", "bit"] : List Str)) (src := [none, none]) rfl (by show blkOk _ (defScope s_is_another_word) _ _ (["word"] : List Str) = true; decide +kernel) (by intro g' h; cases h) (pi_enumT (by rfl) T.b_enumerate (pa_cons (pv 0) pa_nil)) (fun _ _ _ _ _ _ => (pg_tupK K rfl (n := 2) rfl (pgs_cons (pg_name (i := 0) (show (["place", "bit"] : List Str).Nodup by decide +kernel) rfl (Or.inl rfl)) (pgs_cons (pg_name (i := 1) (show (["place", "bit"] : List Str).Nodup by decide +kernel) rfl (Or.inl rfl)) pgs_nil)))) (fun _ _ _ _ _ _ => pts_nil) (fun _ _ _ _ _ _ => (pl_last rfl rfl (pe_tup (pa_consC pe_str (pa_cons (pv 0) (pa_cons (pe_op op_sub pe_int (pv 1)) pa_nil))))))) pa_nil))))), ?_⟩
    walk_at "rd"
    refine ⟨⟨_, SqT.of hya⟩, fun acc hacc => ?_⟩
    have s1 := same_upd (o := .lst []) hacc
    obtain ⟨Pv, iP⟩ := inv fun i σ H2 => ∃ (v0 v1 : Option V), σ = [v0, v1] ∧ Keep acc (upd H acc (.lst [])) H2 ∧ LD H2 acc (((lfs pl n true).take i).map Tr.d)
    refine cloop_enumT (xs := (wordOf pl n).map V.int) Pv ((iP _ _ _).mpr ⟨_, _, rfl, Keep.refl _ _, LD.new⟩) (fun i σ H2 _ h => by obtain ⟨_, _, _, h, _⟩ := (iP _ _ _).mp h; exact SqT.of (h.t upd_same _ _ (s1 _ _ hya))) (fun i x T' σ H2 hx hT h => ?_) (fun σ H2 h => ?_)
    · obtain ⟨v0, v1, rfl, k2, ld⟩ := (iP _ _ _).mp h
      obtain ⟨yi, hyi, rfl⟩ := map_get hx
      have hil : i < pl := by
        have := (List.getElem?_eq_some_iff.mp hyi).1
        rwa [wordOf_len] at this
      have eyi : yi = (if n.testBit (pl - 1 - i) then 1 else 0) := by
        rw [wordOf_get hil] at hyi
        exact (Option.some.inj hyi).symm
      have s3 := same_upd (o := .tup [.int i, .int yi]) hT
      walk_at "rd"
      have ld3 := ld.same s3
      have k3 : Keep acc (upd H acc (.lst [])) (upd H2 T' (.tup [.int i, .int yi])) := Keep.trans k2 (fun c o _ h => s3 c o h)
      refine ⟨_, SqT.of upd_same, rfl, _, _, rfl, _, _, rfl, rfl, _, rfl, by decide, fun q hq => ?_⟩
      have s4 := same_upd (o := .tup [.str "is", .int i, .int (1 - yi)]) hq
      obtain ⟨zs, e1, e2, e3, e4⟩ := (ld3.same s4).push (d := .tup [.str "is", .int i, .int (1 - yi)]) (v := .ref q) (by simp [noL, noLs]) (by
        simp only [Dat, Dats]
        exact ⟨q, _, rfl, upd_same, _, _, rfl, rfl, _, _, rfl, rfl, _, _, rfl, rfl, rfl⟩) (by simp; omega)
      refine ⟨zs, e1, e2, (iP _ _ _).mpr ⟨_, _, rfl, Keep.trans (Keep.trans k3 (fun c o _ h => s4 c o h)) keep_upd, ?_⟩⟩
      rw [take_map (lfs_get true hil)]
      have ed : (Tr.lf [.str "is", .int i, .int (if n.testBit (pl - 1 - i) != true then 1 else 0)]).d = .tup [.str "is", .int i, .int (1 - yi)] := by rw [eyi, bit_flip]; rfl
      rw [ed]
      exact e3
    · obtain ⟨v0, v1, rfl, k2, ld⟩ := (iP _ _ _).mp h
      rw [List.length_map, wordOf_len, List.take_of_length_le (by rw [lfs_len]; exact Nat.le_refl _)] at ld
      obtain ⟨nl, xs, hx, hd⟩ := ld
      have e := lfs_len pl n true
      refine ⟨"or", acc, xs, _, rfl, hx, hd, by rw [List.length_map]; omega, by rw [List.length_map]; omega, by rw [List.length_map]; omega, fun r H3 s3 dr => k r H3 ((Keep.same hacc s1 k2).trans s3) ?_⟩
      unfold wsT
      rw [joinT_d _ 3 _ (by omega) (by omega)]
      exact dr
end
section
variable {P : Program} {w : World} {K : PySem.W.Frag} {mg : Str → Option Value} {base : Heap} {t : Adr}
theorem ws_noL {pl n : Nat} {b : Bool} (h1 : 1 ≤ pl) (h2 : pl ≤ 5) : noL (wsT pl n b).d = true := (ws_ok h1 h2).1.ok.noL
def sp_by (b : Bool) : Sp := fun vs H Q _ => ∃ (cv : V) (pl : Nat) (ys zs : List Nat), vs = [cv] ∧ Dat H (csD pl (ys.map (wordOf pl)) (zs.map (wordOf pl))) cv ∧ 1 ≤ pl ∧ pl ≤ 5 ∧ 1 ≤ ys.length ∧ 1 ≤ zs.length ∧ ys.length + zs.length ≤ 32 ∧ ∀ r H', Same H H' → Dat H' (byT pl (if b then zs else ys) b).d r → Q r H'
theorem ok_by_yes (T : Txt K mg t) : FnOk P w K mg base CX0 7 t.a_by_yes t.d_by_yes ["case"] (sp_by false) := by
  have G_joined : FnOk P w K mg base CX0 6 t.a_joined t.d_joined ["join", "some"] (sp_joined 5) := ok_joined T 5
  have G_is_the_word : FnOk P w K mg base CX0 5 t.a_is_the_word t.d_is_the_word ["word"] (sp_ws false) := ok_is_the_word T
  refine T.f_by_yes.ok sc_by_yes (fun vs H Q E h => ?_) (fun cdv A outer s H vs Q E hr h => ?_)
  · obtain ⟨cv, pl, ys, zs, rfl, _⟩ := h; rfl
  · obtain ⟨cv, pl, ys, zs, rfl, hc, h1, h2, hy1, hz1, hl, k⟩ := h
    obtain ⟨a, ya, na, yv, nv, rfl, ha, hya, hyd, hna, hnd⟩ := hc.cs
    refine ⟨_, (pss_one (ps_ret (pe_call G_joined (hr.mono (by omega)) (by rfl) T.m_joined T.k_joined T.p_joined .nil pass0 (pa_consC pe_str (pa_cons (pe_comp (N := (["word"] : List Str)) (src := [none]) rfl (by show blkOk _ (defScope s_by_yes) _ _ (["case"] : List Str) = true; decide +kernel) (by intro g' h; cases h) (pi_tup (pe_ix ix_tup (pv 0) pe_int (fun _ _ => rfl))) (fun _ _ _ _ _ _ => (pg_name (i := 0) (show (["word"] : List Str).Nodup by decide +kernel) rfl (Or.inl rfl))) (fun _ _ _ _ _ _ => pts_nil) (fun _ _ _ _ _ _ => (pl_last rfl rfl (pe_call G_is_the_word (hr.mono (by omega)) (by rfl) T.m_is_the_word T.k_is_the_word T.p_is_the_word .nil pass0 (pa_cons (pv 0) pa_nil))))) pa_nil))))), ?_⟩
    walk_at "rd"
    refine ⟨_, SqT.of ha, _, rfl, ya, rfl, ⟨_, SqT.of hya⟩, fun acc hacc => ?_⟩
    have s1 := same_upd (o := .lst []) hacc
    obtain ⟨Pv, iP⟩ := inv fun i σ H2 => ∃ (v0 : Option V), σ = [v0] ∧ Keep acc (upd H acc (.lst [])) H2 ∧ LD H2 acc (((ys.take i).map fun n => wsT pl n false).map Tr.d)
    refine cloop_TD (s1 _ _ hya) (hyd.same s1) (noLs_wds _) Pv ((iP _ _ _).mpr ⟨_, rfl, Keep.refl _ _, LD.new⟩) (fun i σ H2 h => by obtain ⟨_, _, h, _⟩ := (iP _ _ _).mp h; exact h.t upd_same) (fun i x d σ H2 hx hn hdx t2 h => ?_) (fun σ H2 h => ?_)
    · obtain ⟨v0, rfl, k2, ld⟩ := (iP _ _ _).mp h
      obtain ⟨wx, hwx, rfl⟩ := map_get hx
      obtain ⟨n, hnn, rfl⟩ := map_get hwx
      walk_at "rd"
      refine ⟨pl, n, x, rfl, hdx, h1, h2, fun r H3 s3 dr => ?_⟩
      have hil := (List.getElem?_eq_some_iff.mp hnn).1
      obtain ⟨zs', e1, e2, e3, e4⟩ := (ld.same s3).push (ws_noL h1 h2) dr (by simp; omega)
      refine ⟨zs', e1, e2, (iP _ _ _).mpr ⟨_, rfl, Keep.trans (Keep.trans k2 (fun c o _ h => s3 c o h)) keep_upd, ?_⟩⟩
      rw [List.take_succ, hnn]
      simpa using e3
    · obtain ⟨v0, rfl, k2, ld⟩ := (iP _ _ _).mp h
      rw [List.length_map, List.length_map, List.take_length] at ld
      obtain ⟨nl, xs, hx, hd⟩ := ld
      have e : (ys.map fun n => wsT pl n false).length = ys.length := List.length_map ..
      refine ⟨"or", acc, xs, _, rfl, hx, hd, by rw [List.length_map]; omega, by rw [List.length_map]; omega, by rw [List.length_map]; omega, fun r H3 s3 dr => k r H3 ((Keep.same hacc s1 k2).trans s3) ?_⟩
      unfold byT
      rw [joinT_d _ 5 _ (by simp only [Bool.false_eq_true, if_false]; omega) (by simp only [Bool.false_eq_true, if_false]; omega)]
      exact dr
theorem ok_by_no (T : Txt K mg t) : FnOk P w K mg base CX0 7 t.a_by_no t.d_by_no ["case"] (sp_by true) := by
  have G_joined : FnOk P w K mg base CX0 6 t.a_joined t.d_joined ["join", "some"] (sp_joined 5) := ok_joined T 5
  have G_is_another_word : FnOk P w K mg base CX0 5 t.a_is_another_word t.d_is_another_word ["word"] (sp_ws true) := ok_is_another_word T
  refine T.f_by_no.ok sc_by_no (fun vs H Q E h => ?_) (fun cdv A outer s H vs Q E hr h => ?_)
  · obtain ⟨cv, pl, ys, zs, rfl, _⟩ := h; rfl
  · obtain ⟨cv, pl, ys, zs, rfl, hc, h1, h2, hy1, hz1, hl, k⟩ := h
    obtain ⟨a, ya, na, yv, nv, rfl, ha, hya, hyd, hna, hnd⟩ := hc.cs
    refine ⟨_, (pss_one (ps_ret (pe_call G_joined (hr.mono (by omega)) (by rfl) T.m_joined T.k_joined T.p_joined .nil pass0 (pa_consC pe_str (pa_cons (pe_comp (N := (["word"] : List Str)) (src := [none]) rfl (by show blkOk _ (defScope s_by_no) _ _ (["case"] : List Str) = true; decide +kernel) (by intro g' h; cases h) (pi_tup (pe_ix ix_tup (pv 0) pe_int (fun _ _ => rfl))) (fun _ _ _ _ _ _ => (pg_name (i := 0) (show (["word"] : List Str).Nodup by decide +kernel) rfl (Or.inl rfl))) (fun _ _ _ _ _ _ => pts_nil) (fun _ _ _ _ _ _ => (pl_last rfl rfl (pe_call G_is_another_word (hr.mono (by omega)) (by rfl) T.m_is_another_word T.k_is_another_word T.p_is_another_word .nil pass0 (pa_cons (pv 0) pa_nil))))) pa_nil))))), ?_⟩
    walk_at "rd"
    refine ⟨_, SqT.of ha, _, rfl, na, rfl, ⟨_, SqT.of hna⟩, fun acc hacc => ?_⟩
    have s1 := same_upd (o := .lst []) hacc
    obtain ⟨Pv, iP⟩ := inv fun i σ H2 => ∃ (v0 : Option V), σ = [v0] ∧ Keep acc (upd H acc (.lst [])) H2 ∧ LD H2 acc (((zs.take i).map fun n => wsT pl n true).map Tr.d)
    refine cloop_TD (s1 _ _ hna) (hnd.same s1) (noLs_wds _) Pv ((iP _ _ _).mpr ⟨_, rfl, Keep.refl _ _, LD.new⟩) (fun i σ H2 h => by obtain ⟨_, _, h, _⟩ := (iP _ _ _).mp h; exact h.t upd_same) (fun i x d σ H2 hx hn hdx t2 h => ?_) (fun σ H2 h => ?_)
    · obtain ⟨v0, rfl, k2, ld⟩ := (iP _ _ _).mp h
      obtain ⟨wx, hwx, rfl⟩ := map_get hx
      obtain ⟨n, hnn, rfl⟩ := map_get hwx
      walk_at "rd"
      refine ⟨pl, n, x, rfl, hdx, h1, h2, fun r H3 s3 dr => ?_⟩
      have hil := (List.getElem?_eq_some_iff.mp hnn).1
      obtain ⟨zs', e1, e2, e3, e4⟩ := (ld.same s3).push (ws_noL h1 h2) dr (by simp; omega)
      refine ⟨zs', e1, e2, (iP _ _ _).mpr ⟨_, rfl, Keep.trans (Keep.trans k2 (fun c o _ h => s3 c o h)) keep_upd, ?_⟩⟩
      rw [List.take_succ, hnn]
      simpa using e3
    · obtain ⟨v0, rfl, k2, ld⟩ := (iP _ _ _).mp h
      rw [List.length_map, List.length_map, List.take_length] at ld
      obtain ⟨nl, xs, hx, hd⟩ := ld
      have e : (zs.map fun n => wsT pl n true).length = zs.length := List.length_map ..
      refine ⟨"and", acc, xs, _, rfl, hx, hd, by rw [List.length_map]; omega, by rw [List.length_map]; omega, by rw [List.length_map]; omega, fun r H3 s3 dr => k r H3 ((Keep.same hacc s1 k2).trans s3) ?_⟩
      unfold byT
      rw [joinT_d _ 5 _ (by simp only [if_true]; omega) (by simp only [if_true]; omega)]
      exact dr
end
section
variable {P : Program} {w : World} {K : PySem.W.Frag} {mg : Str → Option Value} {base : Heap} {t : Adr}
def sp_whole : Sp := fun vs H Q _ => ∃ i : Int, vs = [.int i] ∧ Q (.bl true) H
theorem isA_int {H : Hp} {i : Int} : isA H (.int i) "int" = true := by simp [isA, tyName]
theorem isA_intb {H : Hp} {i : Int} : isA H (.int i) "bool" = false := by simp [isA, tyName] <;> decide
theorem ok_whole (T : Txt K mg t) : FnOk P w K mg base CX0 1 t.a_l_whole t.d_l_whole ["_law_thing"] sp_whole := by
  refine T.f_l_whole.ok sc_l_whole (fun vs H Q E h => ?_) (fun cdv A outer s H vs Q E hr h => ?_)
  · obtain ⟨i, rfl, _⟩ := h; rfl
  · obtain ⟨i, rfl, k⟩ := h
    refine ⟨_, (pss_one (ps_ret (pe_and (pe_callB call_isA (by rfl) T.b_isinstance (by kernel_rfl) (pa_cons (pv 0) (pa_cons (pe_bltn (v := .ty "int") (by rfl) T.b_int (by kernel_rfl) (by rfl)) pa_nil))) (pe_one (pe_not (pe_callB call_isA (by rfl) T.b_isinstance (by kernel_rfl) (pa_cons (pv 0) (pa_cons (pe_bltn (v := .ty "bool") (by rfl) T.b_bool (by kernel_rfl) (by rfl)) pa_nil)))))))), ?_⟩
    walk_at "rd"
    rw [isA_int, isA_intb]
    exact ⟨by decide, rfl, iteT ⟨by decide, rfl, k⟩⟩
end
section
variable {P : Program} {w : World} {K : PySem.W.Frag} {mg : Str → Option Value} {base : Heap} {t : Adr}
theorem lfs_dep {pl n : Nat} {b : Bool} : deps ((lfs pl n b).map Tr.d) ≤ 1 := deps_le fun d hd => by
  obtain ⟨u, hu, rfl⟩ := List.mem_map.mp hd
  obtain ⟨p, hp, rfl⟩ := List.mem_map.mp hu
  simp [Tr.d, dep, deps]
theorem lfs_noL {pl n : Nat} {b : Bool} : noLs ((lfs pl n b).map Tr.d) = true := noLs_all fun d hd => by
  obtain ⟨u, hu, rfl⟩ := List.mem_map.mp hd
  exact (lfs_say u hu).1.ok.noL
def sp_leaves : Sp := fun vs H Q _ => ∃ (pl n : Nat) (b : Bool) (v sv : V), vs = [v, sv, .int (if b then 0 else 1)] ∧ Dat H (wdD (wordOf pl n)) v ∧ Dat H (.lst ((lfs pl n b).map Tr.d)) sv ∧ pl ≤ 5 ∧ ∀ H', Same H H' → Q (.bl true) H'
theorem bit_is : ∀ c b : Bool, (if (if c then (1 : Int) else 0) = (if b then 0 else 1) then (1 : Int) else 0) = (if (c != b) then 1 else 0) := by decide
theorem ok_leaves (T : Txt K mg t) : FnOk P w K mg base CX0 2 t.a_l_leaves_right t.d_l_leaves_right ["_law_word_here", "_law_some", "_law_bit"] sp_leaves := by
  have G_l_whole : FnOk P w K mg base CX0 1 t.a_l_whole t.d_l_whole ["_law_thing"] sp_whole := ok_whole T
  refine T.f_l_leaves_right.ok sc_l_leaves_right (fun vs H Q E h => ?_) (fun cdv A outer s H vs Q E hr h => ?_)
  · obtain ⟨pl, n, b, v, sv, rfl, _⟩ := h; rfl
  · obtain ⟨pl, n, b, v, sv, rfl, hv, hsv, hpl, k⟩ := h
    obtain ⟨ya, yx, rfl, hya, hyd⟩ : ∃ ya yx, v = .ref ya ∧ H ya = some (.tup yx) ∧ Dats H ((wordOf pl n).map D.int) yx := by simpa only [wdD, Dat] using hv
    have hyx : yx = (wordOf pl n).map V.int := dats_ints hyd
    subst hyx
    refine ⟨_, (pss_cons (ps_setC (i := 3) sc_l_leaves_right.nd rfl (Or.inl rfl) (N := (["_law_p", "_law_word_here", "_law_bit"] : List Str)) (src := [none, some 0, some 2]) rfl (by show blkOk _ (defScope s_l_leaves_right) _ _ (["_law_word_here", "_law_some", "_law_bit", "_law_told"] : List Str) = true; decide +kernel) (by intro g' h; cases h) (pi_range1 rfl T.b_range (pa_cons (pe_callB call_len (by rfl) T.b_len (by kernel_rfl) (pa_cons (pv 0) pa_nil)) pa_nil)) (fun _ _ _ _ _ _ => (pg_name (i := 0) (show (["_law_p", "_law_word_here", "_law_bit"] : List Str).Nodup by decide +kernel) rfl (Or.inl rfl))) (fun _ _ _ _ _ _ => pts_nil) (fun _ _ _ _ _ _ => (pl_last rfl rfl (pe_tup (pa_consC pe_str (pa_cons (pv 0) (pa_cons (pe_callTy call_int1 (by rfl) T.b_int (by kernel_rfl) (pa_cons (pe_cmpR op_eq (pe_ix (ix_tupK K rfl) (pv 1) (pv 0) (fun _ _ => rfl)) (pv 2) (nomark _)) pa_nil)) pa_nil)))))))
      (pss_cons (ps_if (PW.pt (pw_or (pt_cmpR op_isN (pv 1) pe_non (nomark _)) (pw_or1 (pt_cmpR (op_neD hr.u100) (pv 1) (pv 3) (nomark _))))) (pss_one (ps_ret pe_bl)) pss_nil)
      (pss_one (ps_ret (pe_callB (call_all rfl) (by rfl) T.b_all (by kernel_rfl) (pa_cons (pe_comp (N := (["_law_leaf"] : List Str)) (src := [none]) rfl (by show blkOk _ (defScope s_l_leaves_right) _ _ (["_law_word_here", "_law_some", "_law_bit", "_law_told"] : List Str) = true; decide +kernel) (by intro g' h; cases h) (pi_list (pv 1)) (fun _ _ _ _ _ _ => (pg_name (i := 0) (show (["_law_leaf"] : List Str).Nodup by decide +kernel) rfl (Or.inl rfl))) (fun _ _ _ _ _ _ => pts_nil) (fun _ _ _ _ _ _ => (pl_last rfl rfl (pe_and (pe_call G_l_whole (hr.mono (by omega)) (by rfl) T.m_l_whole T.k_l_whole T.p_l_whole .nil pass0 (pa_cons (pe_ix (ix_tupK K rfl) (pv 0) pe_int (fun _ _ => rfl)) pa_nil)) (pe_one (pe_call G_l_whole (hr.mono (by omega)) (by rfl) T.m_l_whole T.k_l_whole T.p_l_whole .nil pass0 (pa_cons (pe_ix (ix_tupK K rfl) (pv 0) pe_int (fun _ _ => rfl)) pa_nil))))))) pa_nil)))))), ?_⟩
    walk_at "rd"
    obtain ⟨sa, sx, rfl, hsa, hsd⟩ : ∃ sa sx, sv = .ref sa ∧ H sa = some (.lst sx) ∧ Dats H ((lfs pl n b).map Tr.d) sx := by simpa only [Dat] using hsv
    refine ⟨_, len_tup (SqT.of hya), ?_⟩
    have hwl : ((wordOf pl n).map V.int).length = pl := by rw [List.length_map, wordOf_len]
    rw [hwl]
    refine ⟨by omega, by omega, fun acc hacc => ?_⟩
    have s1 := same_upd (o := .lst []) hacc
    obtain ⟨Pv, iP⟩ := inv fun i σ H2 => ∃ (v0 : Option V), σ = [v0, some (.ref ya), some (.int (if b then 0 else 1))] ∧ Keep acc (upd H acc (.lst [])) H2 ∧ LD H2 acc (((lfs pl n b).take i).map Tr.d)
    refine cloop_range Pv ((iP _ _ _).mpr ⟨none, rfl, Keep.refl _ _, LD.new⟩) (fun i σ H2 hi h => ?_) (fun σ H2 h => ?_)
    · obtain ⟨v0, rfl, k2, ld⟩ := (iP _ _ _).mp h
      have hi' : i < pl := by omega
      have hya2 : H2 ya = some (.tup ((wordOf pl n).map V.int)) := k2 _ _ (ne_of_none hya hacc) (s1 _ _ hya)
      walk_at "rd"
      rw [show (0 : Int) + (i : Int) = i by omega]
      refine ⟨_, SqT.of hya2, _, atI_nat (j := i) (by rw [List.getElem?_map, wordOf_get hi']; rfl), rfl, ?_⟩
      have hbi : (if V.int (if n.testBit (pl - 1 - i) then 1 else 0) = V.int (if b then 0 else 1) then (1 : Int) else 0) = (if (n.testBit (pl - 1 - i) != b) then 1 else 0) := by
        rw [← bit_is]
        simp only [V.int.injEq]
      rw [hbi]
      refine ⟨by decide, fun q hq => ?_⟩
      have s4 := same_upd (o := .tup [.str "is", .int i, .int (if (n.testBit (pl - 1 - i) != b) then 1 else 0)]) hq
      obtain ⟨zs, e1, e2, e3, e4⟩ := (ld.same s4).push (d := .tup [.str "is", .int i, .int (if (n.testBit (pl - 1 - i) != b) then 1 else 0)]) (v := .ref q) (by simp [noL, noLs]) (by
        simp only [Dat, Dats]
        exact ⟨q, _, rfl, upd_same, _, _, rfl, rfl, _, _, rfl, rfl, _, _, rfl, rfl, rfl⟩) (by simp; omega)
      refine ⟨zs, e1, e2, (iP _ _ _).mpr ⟨_, rfl, Keep.trans (Keep.trans k2 (fun c o _ h => s4 c o h)) keep_upd, ?_⟩⟩
      rw [take_map (lfs_get b hi')]
      exact e3
    · obtain ⟨v0, rfl, k2, ld⟩ := (iP _ _ _).mp h
      rw [Int.toNat_natCast, List.take_of_length_le (by rw [lfs_len]; exact Nat.le_refl _)] at ld
      have s2 : Same H H2 := Keep.same hacc s1 k2
      rw [if_neg (by intro z; cases z)]
      obtain ⟨nl, xs, hx, hd⟩ := ld
      refine ⟨_, hsv.same s2, .lst ((lfs pl n b).map Tr.d), by simp only [Dat]; exact ⟨acc, xs, rfl, hx, hd⟩, ?_, ?_⟩
      · have := lfs_dep (pl := pl) (n := n) (b := b)
        simp only [dep]; omega
      rw [eqD_refl]
      refine iteF ⟨sa, rfl, ⟨_, SqL.of (s2 _ _ hsa)⟩, fun ac hac => ?_⟩
      have s3 := same_upd (o := .lst []) hac
      have ldS : LD (upd H2 ac (.lst [])) sa ((lfs pl n b).map Tr.d) := ⟨lfs_noL, sx, s3 _ _ (s2 _ _ hsa), (hsd.same s2).same s3⟩
      obtain ⟨Pw, iW⟩ := inv fun i σ H3 => ∃ (v0 : Option V), σ = [v0] ∧ Keep ac (upd H2 ac (.lst [])) H3 ∧ H3 ac = some (.lst ((List.replicate i true).map V.bl))
      refine cloop_LD ldS upd_same (ne_of_none (s2 _ _ hsa) hac) Pw ((iW _ _ _).mpr ⟨_, rfl, Keep.refl _ _, upd_same⟩) (fun i σ H3 h => by obtain ⟨_, _, h, _⟩ := (iW _ _ _).mp h; exact h) (fun i x d σ H3 hx hn hdx k3 h => ?_) (fun σ H3 h => ?_)
      · obtain ⟨v0, rfl, _, h3⟩ := (iW _ _ _).mp h
        obtain ⟨u, hu, rfl⟩ := map_get hx
        obtain ⟨p, hp, rfl⟩ := List.mem_map.mp (List.mem_of_getElem? hu)
        have hil := (List.getElem?_eq_some_iff.mp hu).1
        rw [lfs_len] at hil
        simp only [Tr.d, Dat, Dats] at hdx
        obtain ⟨a, xs, rfl, ha, _, _, rfl, rfl, _, _, rfl, rfl, _, _, rfl, rfl, rfl⟩ := hdx
        walk_at "rd"
        refine ⟨_, SqT.of ha, _, rfl, _, rfl, true, rfl, iteT ⟨_, SqT.of ha, _, rfl, _, rfl, _, h3, ?_, (iW _ _ _).mpr ⟨_, rfl, k3.trans keep_upd, ?_⟩⟩⟩
        · rw [List.length_map, List.length_replicate]
          exact Nat.lt_of_le_of_lt (by omega : i ≤ 5) (by decide)
        · rw [upd_same, List.replicate_succ', List.map_append]
          rfl
      · obtain ⟨v0, rfl, k3, h3⟩ := (iW _ _ _).mp h
        refine ⟨_, SqL.of h3, ?_⟩
        rw [show (List.replicate ((lfs pl n b).map Tr.d).length true).all id = true by simp]
        exact k _ (s2.trans (Keep.same hac s3 k3))
def sp_jr : Sp := fun vs H Q _ => ∃ (b : Bool) (pl : Nat) (ns : List Nat) (v wv : V), vs = [v, wv, .str (if b then "and" else "or"), .str (if (!b) then "and" else "or"), .int (if b then 0 else 1)] ∧ Dat H (byT pl ns b).d v ∧ Dat H (.tup ((ns.map (wordOf pl)).map wdD)) wv ∧ 1 ≤ pl ∧ pl ≤ 5 ∧ 1 ≤ ns.length ∧ ns.length ≤ 32 ∧ ∀ H', Same H H' → Q (.bl true) H'
theorem ok_jr (T : Txt K mg t) : FnOk P w K mg base CX0 3 t.a_l_joined_right t.d_l_joined_right ["_law_found", "_law_words", "_law_outer", "_law_inner", "_law_bit"] sp_jr := by
  have G_l_unjoined : FnOk P w K mg base CX0 1 t.a_l_unjoined t.d_l_unjoined ["_law_thing", "_law_join", "_law_many"] sp_unj := ok_unj T
  have G_l_leaves_right : FnOk P w K mg base CX0 2 t.a_l_leaves_right t.d_l_leaves_right ["_law_word_here", "_law_some", "_law_bit"] sp_leaves := ok_leaves T
  refine T.f_l_joined_right.ok sc_l_joined_right (fun vs H Q E h => ?_) (fun cdv A outer s H vs Q E hr h => ?_)
  · obtain ⟨b, pl, ns, v, wv, rfl, _⟩ := h; rfl
  · obtain ⟨b, pl, ns, v, wv, rfl, hv, hw, h1, h2, hl1, hl2, k⟩ := h
    refine ⟨_, (pss_cons (ps_set (i := 5) sc_l_joined_right.nd rfl (Or.inl rfl) (pe_call G_l_unjoined (hr.mono (by omega)) (by rfl) T.m_l_unjoined T.k_l_unjoined T.p_l_unjoined .nil pass0 (pa_cons (pv 0) (pa_cons (pv 2) (pa_cons (pe_callB call_len (by rfl) T.b_len (by kernel_rfl) (pa_cons (pv 1) pa_nil)) pa_nil)))))
      (pss_cons (ps_if (PW.pt (pw_or (pt_cmpR op_isN (pv 5) pe_non (nomark _)) (pw_or1 (pt_cmpR op_ne (pe_callB call_len (by rfl) T.b_len (by kernel_rfl) (pa_cons (pv 5) pa_nil)) (pe_callB call_len (by rfl) T.b_len (by kernel_rfl) (pa_cons (pv 1) pa_nil)) (nomark _))))) (pss_one (ps_ret pe_bl)) pss_nil)
      (pss_cons (ps_for PassesOwn.never rfl (pi_zip kdT kdL (by rfl) T.b_zip (pa_cons (pv 1) (pa_cons (pv 5) pa_nil))) (pg_tup (n := 2) rfl (pgs_cons (pg_name (i := 6) sc_l_joined_right.nd rfl (Or.inl rfl)) (pgs_cons (pg_name (i := 7) sc_l_joined_right.nd rfl (Or.inl rfl)) pgs_nil))) (pss_one (ps_if (pt_not (pt_truth (pe_call G_l_leaves_right (hr.mono (by omega)) (by rfl) T.m_l_leaves_right T.k_l_leaves_right T.p_l_leaves_right .nil pass0 (pa_cons (pv 6) (pa_cons (pe_call G_l_unjoined (hr.mono (by omega)) (by rfl) T.m_l_unjoined T.k_l_unjoined T.p_l_unjoined .nil pass0 (pa_cons (pv 7) (pa_cons (pv 3) (pa_cons (pe_callB call_len (by rfl) T.b_len (by kernel_rfl) (pa_cons (pv 6) pa_nil)) pa_nil)))) (pa_cons (pv 4) pa_nil)))) (fun _ => rfl))) (pss_one (ps_ret pe_bl)) pss_nil)))
      (pss_one (ps_ret pe_bl))))), ?_⟩
    walk_at "rd"
    obtain ⟨wa, wx, rfl, hwa, hwd⟩ : ∃ wa wx, wv = .ref wa ∧ H wa = some (.tup wx) ∧ Dats H ((ns.map (wordOf pl)).map wdD) wx := by simpa only [Dat] using hw
    have hwl : wx.length = ns.length := by rw [hwd.length, List.length_map, List.length_map]
    have hml : (ns.map fun n => wsT pl n b).length = ns.length := List.length_map ..
    have hdl : ((ns.map fun n => wsT pl n b).map Tr.d).length = ns.length := by rw [List.length_map, hml]
    have wsd : ∀ n, (wsT pl n b).d = joinD (if (!b) then "and" else "or") 3 ((lfs pl n b).map Tr.d) := fun n => by
      have e := lfs_len pl n b
      exact joinT_d _ 3 _ (by omega) (by omega)
    have wdep : ∀ n, dep (wsT pl n b).d ≤ 4 := fun n => by
      have e1 := (joinD_ok (if (!b) then "and" else "or") 3 ((lfs pl n b).map Tr.d) lfs_noL).2
      have e2 := lfs_dep (pl := pl) (n := n) (b := b)
      rw [wsd]
      omega
    have dnl : noLs ((ns.map fun n => wsT pl n b).map Tr.d) = true := noLs_all fun d hd => by
      obtain ⟨u, hu, rfl⟩ := List.mem_map.mp hd
      obtain ⟨n, _, rfl⟩ := List.mem_map.mp hu
      exact ws_noL h1 h2
    have ddp : deps ((ns.map fun n => wsT pl n b).map Tr.d) ≤ 4 := deps_le fun d hd => by
      obtain ⟨u, hu, rfl⟩ := List.mem_map.mp hd
      obtain ⟨n, _, rfl⟩ := List.mem_map.mp hu
      exact wdep n
    have hv' : Dat H (joinD (if b then "and" else "or") 5 ((ns.map fun n => wsT pl n b).map Tr.d)) v := by
      have := hv
      unfold byT at this
      rw [joinT_d _ 5 _ (by omega) (by omega)] at this
      exact this
    refine ⟨_, len_tup (SqT.of hwa), v, _, 5, (ns.map fun n => wsT pl n b).map Tr.d, by rw [hwl, hdl], hv', by omega, by omega, by omega, dnl, by omega, by decide, fun r H1 s1 dr => ?_⟩
    obtain ⟨ra, rx, rfl, hra, hrd⟩ : ∃ ra rx, r = .ref ra ∧ H1 ra = some (.lst rx) ∧ Dats H1 ((ns.map fun n => wsT pl n b).map Tr.d) rx := by simpa only [Dat] using dr
    have hrl : rx.length = ns.length := by rw [hrd.length, hdl]
    rw [if_neg (by intro z; cases z)]
    refine ⟨_, len_lst (SqL.of hra), _, len_tup (SqT.of (s1 _ _ hwa)), ?_⟩
    rw [hrl, hwl]
    refine iteNS (by simp) ⟨wa, rfl, ra, rfl, ⟨_, SqT.of (s1 _ _ hwa)⟩, ⟨_, SqL.of hra⟩, ?_⟩
    obtain ⟨Pv, iP⟩ := inv fun (i : Nat) σ H2 => ∃ (v6 v7 : Option V), σ = [some v, some (.ref wa), some (.str (if b then "and" else "or")), some (.str (if (!b) then "and" else "or")), some (.int (if b then 0 else 1)), some (.ref ra), v6, v7] ∧ Same H1 H2
    refine forW_zip (xs := wx) (ys := rx) (by rw [hrl, hwl]) Pv ((iP _ _ _).mpr ⟨_, _, rfl, Same.refl _⟩) (fun i σ H2 _ h => by obtain ⟨_, _, _, h⟩ := (iP _ _ _).mp h; exact ⟨SqT.of (h _ _ (s1 _ _ hwa)), SqL.of (h _ _ hra)⟩) (fun i x y T' σ H2 hx hy hT h => ?_) (fun σ H2 h => ?_)
    · obtain ⟨v6, v7, rfl, s2⟩ := (iP _ _ _).mp h
      have hil : i < ns.length := by rw [← hwl]; exact (List.getElem?_eq_some_iff.mp hx).1
      obtain ⟨x', ex, hdx⟩ := hwd.get (i := i) (d := wdD (wordOf pl ns[i])) (by rw [List.getElem?_map, List.getElem?_map, List.getElem?_eq_getElem hil]; rfl)
      obtain ⟨y', ey, hdy⟩ := hrd.get (i := i) (d := (wsT pl ns[i] b).d) (by rw [List.getElem?_map, List.getElem?_map, List.getElem?_eq_getElem hil]; rfl)
      rw [hx] at ex
      rw [hy] at ey
      cases ex
      cases ey
      have s3 := same_upd (o := .tup [x, y]) hT
      have hdx3 := ((hdx.same s1).same s2).same s3
      have hdy3 := (hdy.same s2).same s3
      rw [wsd] at hdy3
      walk_at "rd"
      refine ⟨_, SqT.of upd_same, rfl, _, _, rfl, _, _, rfl, rfl, ?_⟩
      obtain ⟨xa, xx, rfl, hxa, hxd⟩ : ∃ xa xx, x = .ref xa ∧ upd H2 T' (.tup [x, y]) xa = some (.tup xx) ∧ Dats (upd H2 T' (.tup [x, y])) ((wordOf pl ns[i]).map D.int) xx := by simpa only [wdD, Dat] using hdx3
      have hxl : xx.length = pl := by rw [hxd.length, List.length_map, wordOf_len]
      have el := lfs_len pl ns[i] b
      have ell : ((lfs pl ns[i] b).map Tr.d).length = pl := by rw [List.length_map, el]
      refine ⟨_, len_tup (SqT.of hxa), y, _, 3, (lfs pl ns[i] b).map Tr.d, by rw [hxl, ell], hdy3, by omega, by omega, by omega, lfs_noL, Nat.le_trans lfs_dep (by decide), by decide, fun r4 H4 s4 d4 => ?_⟩
      refine ⟨pl, ns[i], b, _, r4, rfl, hdx3.same s4, d4, h2, fun H5 s5 => ⟨true, TruV_bl.mpr rfl, ?_⟩⟩
      exact iteF ((iP _ _ _).mpr ⟨_, _, rfl, s2.trans ((s3.trans s4).trans s5)⟩)
    · obtain ⟨v6, v7, rfl, s2⟩ := (iP _ _ _).mp h
      walk_at "rd"
      exact k _ (s1.trans s2)
end
section
variable {P : Program} {w : World} {K : PySem.W.Frag} {mg : Str → Option Value} {base : Heap} {t : Adr}
def wps (pl n : Nat) : List Int := (List.range pl).map fun (p : Nat) => (if n.testBit (pl - 1 - p) then (1 : Int) else 0) * 2 ^ (pl - 1 - p)
theorem wps_len (pl n : Nat) : (wps pl n).length = pl := by simp [wps]
theorem wps_get {pl n p : Nat} (h : p < pl) : (wps pl n)[p]? = some ((if n.testBit (pl - 1 - p) then (1 : Int) else 0) * 2 ^ (pl - 1 - p)) := by
  unfold wps
  rw [List.getElem?_map, List.getElem?_range h]
  rfl
theorem word_sum0 : ∀ pl : Fin 6, ∀ n : Fin (2 ^ pl.val), (wps pl.val n.val).sum = ((n.val : Nat) : Int) := by decide +kernel
theorem word_sum {pl n : Nat} (hpl : pl ≤ 5) (hn : n < 2 ^ pl) : (wps pl n).sum = (n : Int) := word_sum0 ⟨pl, by omega⟩ ⟨n, hn⟩
def sp_parted : Sp := fun vs H Q _ => ∃ (cv v : V) (u : Tr) (pl : Nat) (ys zs : List Nat), vs = [cv, v] ∧ Dat H (csD pl (ys.map (wordOf pl)) (zs.map (wordOf pl))) cv ∧ Dat H u.d v ∧ SayT pl [0, 1] u ∧ u.dp ≤ 12 ∧ pl ≤ 5 ∧ (∀ n ∈ ys, n < 2 ^ pl) ∧ (∀ n ∈ zs, n < 2 ^ pl) ∧
  (∀ n ∈ ys, valT (wordOf pl n) u = true) ∧ (∀ n ∈ zs, valT (wordOf pl n) u = false) ∧ ∀ H', Same H H' → Q (.bl true) H'
theorem ok_parted (T : Txt K mg t) : FnOk P w K mg base CX0 14 t.a_l_parted t.d_l_parted ["_law_case_here", "_law_saying"] sp_parted := by
  have G_l_mask : FnOk P w K mg base CX0 13 t.a_l_mask t.d_l_mask ["_law_places", "_law_saying"] (sp_mask 12) := ok_mask T 12
  refine T.f_l_parted.ok sc_l_parted (fun vs H Q E h => ?_) (fun cdv A outer s H vs Q E hr h => ?_)
  · obtain ⟨cv, v, u, pl, ys, zs, rfl, _⟩ := h; rfl
  · obtain ⟨cv, v, u, pl, ys, zs, rfl, hc, hv, hs, hdp, hpl, hyb, hzb, hyv, hzv, k⟩ := h
    obtain ⟨ca, ya, na, yv, nv, rfl, ha, hya, hyd, hna, hnd⟩ := hc.cs
    refine ⟨_, (pss_cons (ps_asg (pv 0) (pg_tup (n := 3) rfl (pgs_cons (pg_name (i := 2) sc_l_parted.nd rfl (Or.inr rfl)) (pgs_cons (pg_name (i := 3) sc_l_parted.nd rfl (Or.inl rfl)) (pgs_cons (pg_name (i := 4) sc_l_parted.nd rfl (Or.inl rfl)) pgs_nil)))))
      (pss_cons (ps_set (i := 5) sc_l_parted.nd rfl (Or.inl rfl) (pe_call G_l_mask (hr.mono (by omega)) (by rfl) T.m_l_mask T.k_l_mask T.p_l_mask .nil pass0 (pa_cons (pv 2) (pa_cons (pv 1) pa_nil))))
      (pss_cons (ps_for PassesOwn.never rfl (pi_list (pe_lst (pa_consT (pe_tup (pa_cons (pv 3) (pa_consC pe_int pa_nil))) (pa_consT (pe_tup (pa_cons (pv 4) (pa_consC pe_int pa_nil))) pa_nil)))) (pg_tup (n := 2) rfl (pgs_cons (pg_name (i := 6) sc_l_parted.nd rfl (Or.inl rfl)) (pgs_cons (pg_name (i := 7) sc_l_parted.nd rfl (Or.inl rfl)) pgs_nil))) (pss_one (ps_for PassesOwn.never rfl (pi_tup (pv 6)) (pg_name (i := 8) sc_l_parted.nd rfl (Or.inr rfl)) (pss_cons (ps_set (i := 9) sc_l_parted.nd rfl (Or.inl rfl) (pe_callB (call_sum rfl) (by rfl) T.b_sum (by kernel_rfl) (pa_cons (pe_comp (N := (["_law_p", "_law_places", "_law_word_here"] : List Str)) (src := [none, some 2, some 8]) rfl (by show blkOk _ (defScope s_l_parted) _ _ (["_law_case_here", "_law_saying", "_law_places", "_law_yes", "_law_no", "_law_bits", "_law_some", "_law_due", "_law_word_here", "_law_number"] : List Str) = true; decide +kernel) (by intro g' h; cases h) (pi_range1 rfl T.b_range (pa_cons (pv 2) pa_nil)) (fun _ _ _ _ _ _ => (pg_name (i := 0) (show (["_law_p", "_law_places", "_law_word_here"] : List Str).Nodup by decide +kernel) rfl (Or.inl rfl))) (fun _ _ _ _ _ _ => pts_nil) (fun _ _ _ _ _ _ => (pl_last rfl rfl (pe_op op_shl (pe_ix (ix_tupK K rfl) (pv 2) (pv 0) (fun _ _ => rfl)) (pe_op op_sub (pe_op op_sub (pv 1) pe_int) (pv 0)))))) pa_nil)))
      (pss_one (ps_if (pt_cmpR op_ne (pe_op op_and (pe_op op_shr (pv 5) (pv 9)) pe_int) (pv 7) (nomark _)) (pss_one (ps_ret pe_bl)) pss_nil))))))
      (pss_one (ps_ret pe_bl))))), ?_⟩
    walk_at "rd"
    refine ⟨_, SqT.of ha, rfl, _, _, rfl, _, _, rfl, _, _, rfl, rfl, v, u, pl, [0, 1], rfl, hv, hs, hdp, hpl, fun m H1 s1 hm => ⟨by decide, fun q1 hq1 => ⟨by decide, fun q2 hq2 => ⟨by decide, fun q3 hq3 => ?_⟩⟩⟩⟩
    have sa := same_upd (o := .tup [.ref ya, .int 1]) hq1
    have sb := same_upd (o := .tup [.ref na, .int 0]) hq2
    have sc := same_upd (o := .lst [.ref q1, .ref q2]) hq3
    have e1 := sc _ _ (sb _ _ (upd_same (H := H1) (a := q1) (o := .tup [.ref ya, .int 1])))
    have e2 := sc _ _ (upd_same (H := upd H1 q1 (.tup [.ref ya, .int 1])) (a := q2) (o := .tup [.ref na, .int 0]))
    have e3 := upd_same (H := upd (upd H1 q1 (.tup [.ref ya, .int 1])) q2 (.tup [.ref na, .int 0])) (a := q3) (o := .lst [.ref q1, .ref q2])
    have s2 : Same H _ := s1.trans ((sa.trans sb).trans sc)
    generalize upd (upd (upd H1 q1 (.tup [.ref ya, .int 1])) q2 (.tup [.ref na, .int 0])) q3 (.lst [.ref q1, .ref q2]) = H2 at e1 e2 e3 s2 ⊢
    refine ⟨⟨_, SqL.of e3⟩, ?_⟩
    obtain ⟨Pv, iP⟩ := inv fun (i : Nat) σ H' => ∃ (v6 v7 v8 v9 : Option V), σ = [some (.ref ca), some v, some (.int pl), some (.ref ya), some (.ref na), some (.int m), v6, v7, v8, v9] ∧ Same H2 H'
    refine forW_list (xs := [.ref q1, .ref q2]) Pv ((iP _ _ _).mpr ⟨_, _, _, _, rfl, Same.refl _⟩) (fun i σ H3 _ h => by obtain ⟨_, _, _, _, _, h⟩ := (iP _ _ _).mp h; exact SqL.of (h _ _ e3)) (fun i x σ H3 hx h => ?_) (fun σ H3 h => ?_)
    · obtain ⟨v6, v7, v8, v9, rfl, s3⟩ := (iP _ _ _).mp h
      have hil := (List.getElem?_eq_some_iff.mp hx).1
      simp only [List.length_cons, List.length_nil] at hil
      obtain ⟨qa, wa, wv, du, ws, hqa, hxq, hwa, hwd, hwb, hgo⟩ : ∃ (qa : Addr) (wa : Addr) (wv : List V) (du : Bool) (ws : List Nat), H3 qa = some (.tup [.ref wa, .int (if du then 1 else 0)]) ∧ x = .ref qa ∧ H wa = some (.tup wv) ∧ Dats H ((ws.map (wordOf pl)).map wdD) wv ∧ (∀ n ∈ ws, n < 2 ^ pl) ∧ (∀ n ∈ ws, valT (wordOf pl n) u = du) := by
        rcases (by omega : i = 0 ∨ i = 1) with rfl | rfl
        · exact ⟨q1, ya, yv, true, ys, s3 _ _ e1, by simpa using hx.symm, hya, hyd, hyb, hyv⟩
        · exact ⟨q2, na, nv, false, zs, s3 _ _ e2, by simpa using hx.symm, hna, hnd, hzb, hzv⟩
      subst hxq
      have s03 := s2.trans s3
      walk_at "rd"
      refine ⟨_, SqT.of hqa, rfl, _, _, rfl, _, _, rfl, rfl, wa, rfl, ⟨_, SqT.of (s03 _ _ hwa)⟩, ?_⟩
      obtain ⟨Pw, iW⟩ := inv fun (j : Nat) σ H' => ∃ (v8 v9 : Option V), σ = [some (.ref ca), some v, some (.int pl), some (.ref ya), some (.ref na), some (.int m), some (.ref wa), some (.int (if du then 1 else 0)), v8, v9] ∧ Same H3 H'
      refine forW_TD (s03 _ _ hwa) (hwd.same s03) (noLs_wds _) Pw ((iW _ _ _).mpr ⟨_, _, rfl, Same.refl _⟩) (fun j σ H4 h => by obtain ⟨_, _, _, h⟩ := (iW _ _ _).mp h; exact h.t) (fun j x d σ H4 hx4 hn hdx t4 h => ?_) (fun σ H4 h => ?_)
      · obtain ⟨v8, v9, rfl, s4⟩ := (iW _ _ _).mp h
        obtain ⟨wd, hwd1, rfl⟩ := map_get hx4
        obtain ⟨n, hn1, rfl⟩ := map_get hwd1
        have hnb := hwb n (List.mem_of_getElem? hn1)
        have hnv := hgo n (List.mem_of_getElem? hn1)
        simp only [wdD, Dat] at hdx
        obtain ⟨xa, xv, rfl, hxa, hxd⟩ := hdx
        walk_at "rd"
        refine ⟨by omega, by omega, fun acc hacc => ?_⟩
        have s45 := same_upd (o := .lst []) hacc
        obtain ⟨Px, iX⟩ := inv fun e σ H' => ∃ (v0 : Option V), σ = [v0, some (.int pl), some (.ref xa)] ∧ Keep acc (upd H4 acc (.lst [])) H' ∧ LD H' acc (((wps pl n).take e).map D.int)
        refine cloop_range Px ((iX _ _ _).mpr ⟨none, rfl, Keep.refl _ _, LD.new⟩) (fun e σ H5 he h => ?_) (fun σ H5 h => ?_)
        · obtain ⟨v0, rfl, k5, l5⟩ := (iX _ _ _).mp h
          have he' : e < pl := by omega
          have hxa5 : H5 xa = some (.tup xv) := k5 _ _ (ne_of_none hxa hacc) (s45 _ _ hxa)
          obtain ⟨xx, hxx, hxx2⟩ := hxd.get (i := e) (d := .int (if n.testBit (pl - 1 - e) then 1 else 0)) (by rw [List.getElem?_map, wordOf_get he']; rfl)
          simp only [Dat] at hxx2
          subst hxx2
          walk_at "rd"
          rw [show (0 : Int) + (e : Int) = e by omega]
          have ez : ((pl : Int) - 1 - (e : Int)).toNat = pl - 1 - e := by omega
          refine ⟨_, SqT.of hxa5, _, atI_nat (j := e) hxx, _, rfl, ⟨by omega, by omega, na01 _⟩, ?_⟩
          rw [ez]
          obtain ⟨us7, g1, g2, g3, g4⟩ := l5.push (d := .int ((if n.testBit (pl - 1 - e) then (1 : Int) else 0) * 2 ^ (pl - 1 - e))) (v := .int ((if n.testBit (pl - 1 - e) then (1 : Int) else 0) * 2 ^ (pl - 1 - e))) (by simp [noL]) (by simp [Dat]) (by simp [wps_len]; omega)
          refine ⟨us7, g1, g2, (iX _ _ _).mpr ⟨_, rfl, k5.trans keep_upd, ?_⟩⟩
          rw [take_map (wps_get he')]
          exact g3
        · obtain ⟨v0, rfl, k5, _, xs5, h5, d5⟩ := (iX _ _ _).mp h
          rw [List.take_of_length_le (by rw [wps_len]; omega)] at d5
          have ex := dats_ints d5
          subst ex
          have s45' : Same H4 H5 := Keep.same hacc s45 k5
          refine ⟨wps pl n, SqL.of h5, ?_⟩
          rw [word_sum hpl hnb, Int.toNat_natCast, bit_at, hm n hnb, hnv]
          refine ⟨by omega, ?_⟩
          rw [if_neg (by simp)]
          exact (iW _ _ _).mpr ⟨_, _, rfl, s4.trans s45'⟩
      · obtain ⟨v8, v9, rfl, s4⟩ := (iW _ _ _).mp h
        exact (iP _ _ _).mpr ⟨_, _, _, _, rfl, s3.trans s4⟩
    · obtain ⟨v6, v7, v8, v9, rfl, s3⟩ := (iP _ _ _).mp h
      walk_at "rd"
      exact k _ (s2.trans s3)
end
section
variable {P : Program} {w : World} {K : PySem.W.Frag} {mg : Str → Option Value} {base : Heap} {t : Adr}
theorem ok_is_whole (T : Txt K mg t) : FnOk P w K mg base CX0 1 t.a_is_whole t.d_is_whole ["thing"] sp_whole := by
  refine T.f_is_whole.ok sc_is_whole (fun vs H Q E h => ?_) (fun cdv A outer s H vs Q E hr h => ?_)
  · obtain ⟨i, rfl, _⟩ := h; rfl
  · obtain ⟨i, rfl, k⟩ := h
    refine ⟨_, (pss_one (ps_ret (pe_and (pe_callB call_isA (by rfl) T.b_isinstance (by kernel_rfl) (pa_cons (pv 0) (pa_cons (pe_bltn (v := .ty "int") (by rfl) T.b_int (by kernel_rfl) (by rfl)) pa_nil))) (pe_one (pe_not (pe_callB call_isA (by rfl) T.b_isinstance (by kernel_rfl) (pa_cons (pv 0) (pa_cons (pe_bltn (v := .ty "bool") (by rfl) T.b_bool (by kernel_rfl) (by rfl)) pa_nil)))))))), ?_⟩
    walk_at "rd"
    rw [isA_int, isA_intb]
    exact ⟨by decide, rfl, iteT ⟨by decide, rfl, k⟩⟩
def sp_bit : Sp := fun vs H Q _ => ∃ i : Int, vs = [.int i] ∧ (i = 0 ∨ i = 1) ∧ Q (.bl true) H
theorem ok_is_bit (T : Txt K mg t) : FnOk P w K mg base CX0 2 t.a_is_bit t.d_is_bit ["thing"] sp_bit := by
  have G_is_whole : FnOk P w K mg base CX0 1 t.a_is_whole t.d_is_whole ["thing"] sp_whole := ok_is_whole T
  refine T.f_is_bit.ok sc_is_bit (fun vs H Q E h => ?_) (fun cdv A outer s H vs Q E hr h => ?_)
  · obtain ⟨i, rfl, _⟩ := h; rfl
  · obtain ⟨i, rfl, hi, k⟩ := h
    refine ⟨_, (pss_one (ps_ret (pe_and (pe_call G_is_whole (hr.mono (by omega)) (by rfl) T.m_is_whole T.k_is_whole T.p_is_whole .nil pass0 (pa_cons (pv 0) pa_nil)) (pe_one (pe_chain op_le op_le pe_int (pv 0) pe_int))))), ?_⟩
    walk_at "rd"
    refine ⟨i, rfl, true, rfl, iteT ?_⟩
    unfold tChain
    walk_at "rd"
    rw [if_pos (by omega), decide_eq_true (by omega)]
    exact k
def sp_aplc : Sp := fun vs H Q _ => ∃ i : Nat, vs = [.int i] ∧ 1 ≤ i ∧ i ≤ 5 ∧ Q (.bl true) H
theorem ok_are_places (T : Txt K mg t) : FnOk P w K mg base CX0 2 t.a_are_places t.d_are_places ["thing"] sp_aplc := by
  have G_is_whole : FnOk P w K mg base CX0 1 t.a_is_whole t.d_is_whole ["thing"] sp_whole := ok_is_whole T
  refine T.f_are_places.ok sc_are_places (fun vs H Q E h => ?_) (fun cdv A outer s H vs Q E hr h => ?_)
  · obtain ⟨i, rfl, _⟩ := h; rfl
  · obtain ⟨i, rfl, h1, h2, k⟩ := h
    refine ⟨_, (pss_one (ps_ret (pe_and (pe_call G_is_whole (hr.mono (by omega)) (by rfl) T.m_is_whole T.k_is_whole T.p_is_whole .nil pass0 (pa_cons (pv 0) pa_nil)) (pe_one (pe_chain op_le op_le pe_int (pv 0) (pe_glob (v := .int 5) rfl T.c_MOST_PLACES ⟨_, rfl⟩)))))), ?_⟩
    walk_at "rd"
    refine ⟨i, rfl, true, rfl, iteT ?_⟩
    unfold tChain
    walk_at "rd"
    rw [if_pos (by omega), decide_eq_true (by omega)]
    exact k
def sp_plc : Sp := fun vs H Q _ => ∃ pl i : Nat, vs = [.int pl, .int i] ∧ 1 ≤ pl ∧ pl ≤ 5 ∧ i < pl ∧ Q (.bl true) H
theorem ok_is_place (T : Txt K mg t) : FnOk P w K mg base CX0 3 t.a_is_place t.d_is_place ["places", "thing"] sp_plc := by
  have G_is_whole : FnOk P w K mg base CX0 1 t.a_is_whole t.d_is_whole ["thing"] sp_whole := ok_is_whole T
  have G_are_places : FnOk P w K mg base CX0 2 t.a_are_places t.d_are_places ["thing"] sp_aplc := ok_are_places T
  refine T.f_is_place.ok sc_is_place (fun vs H Q E h => ?_) (fun cdv A outer s H vs Q E hr h => ?_)
  · obtain ⟨pl, i, rfl, _⟩ := h; rfl
  · obtain ⟨pl, i, rfl, h1, h2, h3, k⟩ := h
    refine ⟨_, (pss_one (ps_ret (pe_and (pe_call G_are_places (hr.mono (by omega)) (by rfl) T.m_are_places T.k_are_places T.p_are_places .nil pass0 (pa_cons (pv 0) pa_nil)) (pe_and (pe_call G_is_whole (hr.mono (by omega)) (by rfl) T.m_is_whole T.k_is_whole T.p_is_whole .nil pass0 (pa_cons (pv 1) pa_nil)) (pe_one (pe_chain op_le op_lt pe_int (pv 1) (pv 0))))))), ?_⟩
    walk_at "rd"
    refine ⟨pl, rfl, h1, h2, true, rfl, iteT ⟨i, rfl, true, rfl, iteT ?_⟩⟩
    unfold tChain
    walk_at "rd"
    rw [if_pos (by omega), decide_eq_true (by omega)]
    exact k
theorem len_size : ∀ st : List Tr, st.length ≤ (st.map Tr.size).sum
  | [] => by simp
  | z :: st => by
    have := z.size_pos
    have := len_size st
    simp only [List.length_cons, List.map_cons, List.sum_cons]
    omega
def sp_isay : Sp := fun vs H Q _ => ∃ (pl : Nat) (u : Tr) (v : V), vs = [.int pl, v] ∧ Dat H u.d v ∧ SayT pl [0, 1] u ∧ u.size ≤ 100000 ∧ 1 ≤ pl ∧ pl ≤ 5 ∧ ∀ H', Same H H' → Q (.bl true) H'
theorem ok_is_saying (T : Txt K mg t) : FnOk P w K mg base CX0 4 t.a_is_saying t.d_is_saying ["places", "thing"] sp_isay := by
  have G_is_bit : FnOk P w K mg base CX0 2 t.a_is_bit t.d_is_bit ["thing"] sp_bit := ok_is_bit T
  have G_is_place : FnOk P w K mg base CX0 3 t.a_is_place t.d_is_place ["places", "thing"] sp_plc := ok_is_place T
  refine T.f_is_saying.ok sc_is_saying (fun vs H Q E h => ?_) (fun cdv A outer s H vs Q E hr h => ?_)
  · obtain ⟨pl, u, v, rfl, _⟩ := h; rfl
  · obtain ⟨pl, u, v, rfl, hv, hs, hsz, h1, h2, k⟩ := h
    refine ⟨_, (pss_cons (ps_set (i := 2) sc_is_saying.nd rfl (Or.inl rfl) (pe_lst (pa_cons (pv 1) pa_nil)))
      (pss_cons (ps_while PassesOwn.never (pt_truth (pv 2) (fun _ => rfl)) (pss_cons (ps_set (i := 3) sc_is_saying.nd rfl (Or.inl rfl) (pe_bm0 PySem.F.plainAttrs_list PySem.F.slot_list_pop PySem.F.type_list_pop mt_pop (pv 2)))
      (pss_cons (ps_if (PW.pt (pw_or (pt_not (pt_truth (pe_callB call_isA (by rfl) T.b_isinstance (by kernel_rfl) (pa_cons (pv 3) (pa_cons (pe_bltn (v := .ty "tuple") (by rfl) T.b_tuple (by kernel_rfl) (by rfl)) pa_nil))) (fun _ => rfl))) (pw_or1 (pt_cmpR op_ne (pe_callB call_len (by rfl) T.b_len (by kernel_rfl) (pa_cons (pv 3) pa_nil)) pe_int (nomark _))))) (pss_one (ps_ret pe_bl)) pss_nil)
      (pss_one (ps_if (PW.pt (pw_or (pt_cmpR op_eq (pe_ix ix_tup (pv 3) pe_int (fun _ _ => rfl)) pe_str (nomark _)) (pw_or1 (pt_cmpR op_eq (pe_ix ix_tup (pv 3) pe_int (fun _ _ => rfl)) pe_str (nomark _))))) (pss_cons (ps_expr (pe_bm PySem.F.plainAttrs_list PySem.F.slot_list_append PySem.F.type_list_append mt_append (pv 2) (pa_cons (pe_ix ix_tup (pv 3) pe_int (fun _ _ => rfl)) pa_nil)))
      (pss_one (ps_expr (pe_bm PySem.F.plainAttrs_list PySem.F.slot_list_append PySem.F.type_list_append mt_append (pv 2) (pa_cons (pe_ix ix_tup (pv 3) pe_int (fun _ _ => rfl)) pa_nil))))) (pss_one (ps_if (PW.pt (pw_or (pt_cmpR op_ne (pe_ix ix_tup (pv 3) pe_int (fun _ _ => rfl)) pe_str (nomark _)) (pw_or (pt_not (pt_truth (pe_call G_is_place (hr.mono (by omega)) (by rfl) T.m_is_place T.k_is_place T.p_is_place .nil pass0 (pa_cons (pv 0) (pa_cons (pe_ix ix_tup (pv 3) pe_int (fun _ _ => rfl)) pa_nil))) (fun _ => rfl))) (pw_or1 (pt_not (pt_truth (pe_call G_is_bit (hr.mono (by omega)) (by rfl) T.m_is_bit T.k_is_bit T.p_is_bit .nil pass0 (pa_cons (pe_ix ix_tup (pv 3) pe_int (fun _ _ => rfl)) pa_nil)) (fun _ => rfl))))))) (pss_one (ps_ret pe_bl)) pss_nil)))))))
      (pss_one (ps_ret pe_bl)))), ?_⟩
    walk_at "rd"
    refine ⟨by decide, fun pw hw => ?_⟩
    obtain ⟨Pv, iP⟩ := inv fun m σ H2 => ∃ (st : List Tr) (v3 : Option V), σ = [some (.int pl), some v, some (.ref pw), v3] ∧ Same H H2 ∧
      LD H2 pw (st.map Tr.d) ∧ (∀ e ∈ st, SayT pl [0, 1] e) ∧ st.length ≤ m ∧ m = (st.map Tr.size).sum ∧ m ≤ 100000
    refine ⟨Pv, ⟨_, (iP _ _ _).mpr ⟨[u], none, rfl, same_over hw (Same.refl H), LD.one hw hs.ok.noL hv, by simpa using hs, ?_, rfl, by simpa using hsz⟩⟩, fun m σ H2 h => ?_⟩
    · have := u.size_pos
      simp; omega
    obtain ⟨st, v3, rfl, sH, lw2, hst, hsl, hm, hmm⟩ := (iP _ _ _).mp h
    walk_at "rd"
    obtain hst0 | ⟨st', e, hst0⟩ := last_or st
    all_goals subst hst0
    · exact ⟨_, lw2.tru0, iteF (k _ sH)⟩
    · refine ⟨_, lw2.tru1 (by simp), iteT ⟨fun σ' H' => ∃ m', m' < m ∧ Pv m' σ' H', fun _ _ h => h, .inl lw2.sq, ?_⟩⟩
      rw [List.map_append, List.map_cons, List.map_nil] at lw2
      obtain ⟨xs, y, hx, hy, hn, hdy, lw3, ts3⟩ := lw2.pop
      refine ⟨xs, hx, y, hy, ?_⟩
      have sH3 : Same H (upd H2 pw (.lst xs.dropLast)) := same_over hw sH
      generalize upd H2 pw (.lst xs.dropLast) = H3 at hdy lw3 ts3 sH3 ⊢
      have hst' : ∀ z ∈ st', SayT pl [0, 1] z := fun z hz => hst z (by simp [hz])
      have he := hst e (by simp)
      have hms : m = (st'.map Tr.size).sum + e.size := by rw [hm]; simp
      cases e with
      | lf x =>
        obtain ⟨p, b, rfl, hp, hb⟩ := he
        simp only [Tr.d, Dat, Dats] at hdy
        obtain ⟨a, xs, rfl, ha, _, _, rfl, rfl, _, _, rfl, rfl, _, _, rfl, rfl, rfl⟩ := hdy
        refine ⟨by decide, by rw [ty_tup ha]; rfl, ?_⟩
        rw [isA_of (ty_tup ha)]
        refine iteF ⟨_, len_tup (SqT.of ha), iteNS rfl ⟨a, rfl, _, SqT.of ha, _, rfl, rfl, ?_⟩⟩
        rw [if_neg (fun z => sw1 (V.str.inj z).symm)]
        refine ⟨a, rfl, _, SqT.of ha, _, rfl, rfl, ?_⟩
        rw [if_neg (fun z => sw2 (V.str.inj z).symm)]
        refine ⟨a, rfl, _, SqT.of ha, _, rfl, rfl, iteNS (by simp) ⟨a, rfl, _, SqT.of ha, _, rfl, pl, p, rfl, h1, h2, hp, true, TruV_bl.mpr rfl, ?_⟩⟩
        have hll := len_size st'
        have hse : (Tr.lf [D.str "is", D.int (p : Int), D.int b]).size = 1 := rfl
        refine iteF ⟨a, rfl, _, SqT.of ha, _, rfl, b, rfl, by simpa using hb, true, TruV_bl.mpr rfl, iteF ⟨(st'.map Tr.size).sum, by omega, (iP _ _ _).mpr ⟨st', _, rfl, sH3, lw3, hst', hll, rfl, by omega⟩⟩⟩
      | nd x l r =>
        obtain ⟨hx, hl, hr2⟩ := he
        obtain ⟨j, rfl, hj⟩ : ∃ j : Str, x = [.str j] ∧ (j = "and" ∨ j = "or") := by
          rcases hx with rfl | rfl
          · exact ⟨_, rfl, .inl rfl⟩
          · exact ⟨_, rfl, .inr rfl⟩
        simp only [Tr.d, List.cons_append, List.nil_append, Dat, Dats] at hdy
        obtain ⟨a, xs, rfl, ha, _, _, rfl, rfl, xl, _, rfl, hxl, xr, _, rfl, hxr, rfl⟩ := hdy
        refine ⟨by decide, by rw [ty_tup ha]; rfl, ?_⟩
        rw [isA_of (ty_tup ha)]
        refine iteF ⟨_, len_tup (SqT.of ha), iteNS rfl ⟨a, rfl, _, SqT.of ha, _, rfl, rfl, ?_⟩⟩
        have hs1 := l.size_pos
        have hs2 := r.size_pos
        simp only [Tr.size] at hms
        rw [List.length_append, List.length_singleton] at hsl
        obtain ⟨ys, e1, e2, e3, e4⟩ := lw3.push hl.ok.noL hxl (by simp; omega)
        obtain ⟨zs, f1, f2, f3, f4⟩ := e3.push hr2.ok.noL (Dat.t e4 hr2.ok.noL hxr) (by simp; omega)
        have fin : ∃ m', m' < m ∧ Pv m' [some (.int pl), some v, some (.ref pw), some (.ref a)] (upd (upd H3 pw (.lst (ys ++ [xl]))) pw (.lst (zs ++ [xr]))) := by
          have hss : ((st' ++ [l, r]).map Tr.size).sum = (st'.map Tr.size).sum + (l.size + r.size) := by simp
          refine ⟨_, ?_, (iP _ _ _).mpr ⟨st' ++ [l, r], _, rfl, same_over hw (same_over hw sH3), by simpa using f3, ?_, ?_, rfl, ?_⟩⟩
          · rw [hss]; omega
          · intro z hz
            rcases List.mem_append.mp hz with hz | hz
            · exact hst' z hz
            · simp only [List.mem_cons, List.not_mem_nil, or_false] at hz
              rcases hz with rfl | rfl
              · exact hl
              · exact hr2
          · rw [hss, List.length_append]
            have := len_size st'
            simp only [List.length_cons, List.length_nil]
            omega
          · rw [hss]; omega
        rcases hj with rfl | rfl
        · rw [if_pos rfl]
          exact ⟨.inl lw3.sq, a, rfl, _, SqT.of ha, _, rfl, ys, e1, e2, .inl e3.sq, a, rfl, _, SqT.of (e4 _ _ ha), _, rfl, zs, f1, f2, fin⟩
        · rw [if_neg (fun z => sw3 (V.str.inj z))]
          refine ⟨a, rfl, _, SqT.of ha, _, rfl, rfl, ?_⟩
          rw [if_pos rfl]
          exact ⟨.inl lw3.sq, a, rfl, _, SqT.of ha, _, rfl, ys, e1, e2, .inl e3.sq, a, rfl, _, SqT.of (e4 _ _ ha), _, rfl, zs, f1, f2, fin⟩
end
section
variable {P : Program} {w : World} {K : PySem.W.Frag} {mg : Str → Option Value} {base : Heap} {t : Adr}
theorem miss_none {ys ns : List (List Int)} {u : Tr} (h1 : ∀ w ∈ ys, valT w u = true) (h2 : ∀ w ∈ ns, valT w u = false) : missD ys ns u = .non := by
  unfold missD
  rw [List.find?_eq_none.mpr (fun w hw => by simp [h1 w hw])]
  dsimp only
  rw [List.find?_eq_none.mpr (fun w hw => by simp [h2 w hw])]
def sp_law (K : PySem.W.Frag) : Sp := fun vs H Q _ => ∃ (a : Addr) (ns : List Int), vs = [.ref a] ∧ SqL K H a (ns.map V.int) ∧ ns.length ≤ 63 ∧ ∀ H', Q (.bl true) H'
theorem ok_law (T : Txt K mg t) : FnOk P w K mg base CX0 20 t.a_law t.d_law ["_law_script"] (sp_law K) := by
  have G_l_draw : FnOk P w K mg base CX0 1 t.a_l_draw t.d_l_draw ["_law_pen_here", "_law_many"] (sp_draw K) := ok_draw T
  have G_l_pen : FnOk P w K mg base CX0 1 t.a_l_pen t.d_l_pen ["_law_script"] (sp_pen K) := ok_pen T
  have G_l_case : FnOk P w K mg base CX0 2 t.a_l_case t.d_l_case ["_law_pen_here", "_law_places"] (sp_case K) := ok_case T
  have G_by_yes : FnOk P w K mg base CX0 7 t.a_by_yes t.d_by_yes ["case"] (sp_by false) := ok_by_yes T
  have G_by_no : FnOk P w K mg base CX0 7 t.a_by_no t.d_by_no ["case"] (sp_by true) := ok_by_no T
  have G_l_joined_right : FnOk P w K mg base CX0 3 t.a_l_joined_right t.d_l_joined_right ["_law_found", "_law_words", "_law_outer", "_law_inner", "_law_bit"] sp_jr := ok_jr T
  have G_l_parted : FnOk P w K mg base CX0 14 t.a_l_parted t.d_l_parted ["_law_case_here", "_law_saying"] sp_parted := ok_parted T
  have G_parts : FnOk P w K mg base CX0 8 t.a_parts t.d_parts ["case", "saying"] sp_parts := ok_parts T
  have G_is_saying : FnOk P w K mg base CX0 4 t.a_is_saying t.d_is_saying ["places", "thing"] sp_isay := ok_is_saying T
  refine T.f_law.ok sc_law (fun vs H Q E h => ?_) (fun cdv A outer s H vs Q E hr h => ?_)
  · obtain ⟨a, ns, rfl, _⟩ := h; rfl
  · obtain ⟨a, ns, rfl, hS, hlen, k⟩ := h
    refine ⟨_, (pss_cons (ps_set (i := 1) sc_law.nd rfl (Or.inl rfl) (pe_call G_l_pen (hr.mono (by omega)) (by rfl) T.m_l_pen T.k_l_pen T.p_l_pen .nil pass0 (pa_cons (pv 0) pa_nil)))
      (pss_cons (ps_for PassesOwn.never rfl (pi_range1 rfl T.b_range (pa_consC pe_int pa_nil)) (pg_name (i := 2) sc_law.nd rfl (Or.inl rfl)) (pss_cons (ps_set (i := 3) sc_law.nd rfl (Or.inl rfl) (pe_op op_add pe_int (pe_call G_l_draw (hr.mono (by omega)) (by rfl) T.m_l_draw T.k_l_draw T.p_l_draw .nil pass0 (pa_cons (pv 1) (pa_consC pe_int pa_nil)))))
      (pss_cons (ps_set (i := 4) sc_law.nd rfl (Or.inl rfl) (pe_call G_l_case (hr.mono (by omega)) (by rfl) T.m_l_case T.k_l_case T.p_l_case .nil pass0 (pa_cons (pv 1) (pa_cons (pv 3) pa_nil))))
      (pss_cons (ps_set (i := 5) sc_law.nd rfl (Or.inl rfl) (pe_tup (pa_cons (pv 3) (pa_cons (pe_callTy call_tuple_of (by rfl) T.b_tuple (by kernel_rfl) (pa_cons (pe_callTy call_list_of (by rfl) T.b_list (by kernel_rfl) (pa_cons (pe_ix ix_tup (pv 4) pe_int (fun _ _ => rfl)) pa_nil)) pa_nil)) (pa_cons (pe_callTy call_tuple_of (by rfl) T.b_tuple (by kernel_rfl) (pa_cons (pe_callTy call_list_of (by rfl) T.b_list (by kernel_rfl) (pa_cons (pe_ix ix_tup (pv 4) pe_int (fun _ _ => rfl)) pa_nil)) pa_nil)) pa_nil)))))
      (pss_cons (ps_for PassesOwn.never rfl (pi_range1 rfl T.b_range (pa_consC pe_int pa_nil)) (pg_name (i := 6) sc_law.nd rfl (Or.inl rfl)) (pss_cons (ps_set (i := 7) sc_law.nd rfl (Or.inl rfl) (pe_call G_by_yes (hr.mono (by omega)) (by rfl) T.m_by_yes T.k_by_yes T.p_by_yes .nil pass0 (pa_cons (pv 4) pa_nil)))
      (pss_cons (ps_set (i := 8) sc_law.nd rfl (Or.inl rfl) (pe_call G_by_no (hr.mono (by omega)) (by rfl) T.m_by_no T.k_by_no T.p_by_no .nil pass0 (pa_cons (pv 4) pa_nil)))
      (pss_cons (ps_if (pt_not (pt_truth (pe_call G_l_joined_right (hr.mono (by omega)) (by rfl) T.m_l_joined_right T.k_l_joined_right T.p_l_joined_right .nil pass0 (pa_cons (pv 7) (pa_cons (pe_ix ix_tup (pv 4) pe_int (fun _ _ => rfl)) (pa_consC pe_str (pa_consC pe_str (pa_consC pe_int pa_nil)))))) (fun _ => rfl))) (pss_one (ps_ret pe_bl)) pss_nil)
      (pss_one (ps_if (pt_not (pt_truth (pe_call G_l_joined_right (hr.mono (by omega)) (by rfl) T.m_l_joined_right T.k_l_joined_right T.p_l_joined_right .nil pass0 (pa_cons (pv 8) (pa_cons (pe_ix ix_tup (pv 4) pe_int (fun _ _ => rfl)) (pa_consC pe_str (pa_consC pe_str (pa_consC pe_int pa_nil)))))) (fun _ => rfl))) (pss_one (ps_ret pe_bl)) pss_nil))))))
      (pss_cons (ps_if (PW.pt (pw_or (pt_not (pt_truth (pe_call G_l_parted (hr.mono (by omega)) (by rfl) T.m_l_parted T.k_l_parted T.p_l_parted .nil pass0 (pa_cons (pv 4) (pa_cons (pv 7) pa_nil))) (fun _ => rfl))) (pw_or (pt_not (pt_truth (pe_call G_l_parted (hr.mono (by omega)) (by rfl) T.m_l_parted T.k_l_parted T.p_l_parted .nil pass0 (pa_cons (pv 4) (pa_cons (pv 8) pa_nil))) (fun _ => rfl))) (pw_or1 (pt_cmpR (op_neD hr.u100) (pv 4) (pv 5) (nomark _)))))) (pss_one (ps_ret pe_bl)) pss_nil)
      (pss_cons (ps_if (PW.pt (pw_or (pt_cmpR op_notB (pe_call G_parts (hr.mono (by omega)) (by rfl) T.m_parts T.k_parts T.p_parts .nil pass0 (pa_cons (pv 4) (pa_cons (pv 7) pa_nil))) pe_bl (nomark _)) (pw_or1 (pt_cmpR op_notB (pe_call G_parts (hr.mono (by omega)) (by rfl) T.m_parts T.k_parts T.p_parts .nil pass0 (pa_cons (pv 4) (pa_cons (pv 8) pa_nil))) pe_bl (nomark _))))) (pss_one (ps_ret pe_bl)) pss_nil)
      (pss_one (ps_if (PW.pt (pw_or (pt_cmpR op_notB (pe_call G_is_saying (hr.mono (by omega)) (by rfl) T.m_is_saying T.k_is_saying T.p_is_saying .nil pass0 (pa_cons (pv 3) (pa_cons (pv 7) pa_nil))) pe_bl (nomark _)) (pw_or1 (pt_cmpR op_notB (pe_call G_is_saying (hr.mono (by omega)) (by rfl) T.m_is_saying T.k_is_saying T.p_is_saying .nil pass0 (pa_cons (pv 3) (pa_cons (pv 8) pa_nil))) pe_bl (nomark _))))) (pss_one (ps_ret pe_bl)) pss_nil)))))))))
      (pss_one (ps_ret pe_bl)))), ?_⟩
    walk_at "rd"
    refine ⟨a, ns, rfl, hS, fun p H1 hp s1 hp1 => ⟨by decide, by decide, ?_⟩⟩
    obtain ⟨Pv, iP⟩ := inv fun (i : Nat) σ H2 => ∃ (v2 v3 v4 v5 v6 v7 v8 : Option V), σ = [some (.ref a), some (.ref p), v2, v3, v4, v5, v6, v7, v8] ∧ DPen K H2 p a ns
    refine forW_range Pv ((iP _ _ _).mpr ⟨_, _, _, _, _, _, _, rfl, hp1⟩) (fun i σ H2 hi h => ?_) (fun σ H2 h => ?_)
    · obtain ⟨v2, v3, v4, v5, v6, v7, v8, rfl, hp2⟩ := (iP _ _ _).mp h
      walk_at "rd"
      refine ⟨p, a, ns, 5, rfl, hp2, by decide, by decide, fun x0 H3 x00 x01 hp3 k3 => ?_⟩
      obtain ⟨pl, hpl⟩ : ∃ pl : Nat, 1 + x0 = (pl : Int) := ⟨(1 + x0).toNat, by omega⟩
      have h1 : 1 ≤ pl := by omega
      have h2 : pl ≤ 5 := by omega
      walk_at "rd"
      rw [hpl]
      refine ⟨p, a, ns, pl, rfl, hp3, h1, h2, fun ys zs cv H4 hy1 hz1 hyb hzb hdj hl hcv hp4 k4 => ?_⟩
      obtain ⟨ca, ya, na, yv, nv, rfl, ha, hya, hyd, hna, hnd⟩ := hcv.cs
      have hyl : ∀ x ∈ ys.map (wordOf pl), x.length = pl := fun x hx => by
        obtain ⟨n, _, rfl⟩ := List.mem_map.mp hx
        exact wordOf_len pl n
      have hzl : ∀ x ∈ zs.map (wordOf pl), x.length = pl := fun x hx => by
        obtain ⟨n, _, rfl⟩ := List.mem_map.mp hx
        exact wordOf_len pl n
      walk_at "rd"
      refine ⟨_, SqT.of ha, _, rfl, ya, rfl, yv, .inr (SqT.of hya), fun l hl0 => ⟨yv, .inl ⟨SqL.of upd_same, fun l1 hl1 => ?_⟩⟩⟩
      have sAB := (same_upd (o := .lst yv) hl0).trans (same_upd (o := .tup yv) hl1)
      have e1 : upd (upd H4 l (.lst yv)) l1 (.tup yv) l1 = some (.tup yv) := upd_same
      generalize upd (upd H4 l (.lst yv)) l1 (.tup yv) = HB at sAB e1 ⊢
      refine ⟨_, SqT.of (sAB _ _ ha), _, rfl, na, rfl, nv, .inr (SqT.of (sAB _ _ hna)), fun l2 hl2 => ⟨nv, .inl ⟨SqL.of upd_same, fun l3 hl3 => ⟨by decide, fun kp hkp => ⟨by decide, by decide, ?_⟩⟩⟩⟩⟩
      have sC := same_upd (o := .lst nv) hl2
      have sD := same_upd (o := .tup nv) hl3
      have sE := same_upd (o := .tup [.int pl, .ref l1, .ref l3]) hkp
      have s45 : Same H4 _ := sAB.trans ((sC.trans sD).trans sE)
      have f1 := sE _ _ (sD _ _ (sC _ _ e1))
      have f3 := sE _ _ (upd_same (H := upd HB l2 (.lst nv)) (a := l3) (o := .tup nv))
      have f5 := upd_same (H := upd (upd HB l2 (.lst nv)) l3 (.tup nv)) (a := kp) (o := .tup [.int pl, .ref l1, .ref l3])
      generalize upd (upd (upd HB l2 (.lst nv)) l3 (.tup nv)) kp (.tup [.int pl, .ref l1, .ref l3]) = H5 at s45 f1 f3 f5 ⊢
      have dk : Dat H5 (csD pl (ys.map (wordOf pl)) (zs.map (wordOf pl))) (.ref kp) := by
        simp only [csD, Dat, Dats]
        exact ⟨kp, _, rfl, f5, _, _, rfl, rfl, _, _, rfl, ⟨l1, yv, rfl, f1, hyd.same s45⟩, _, _, rfl, ⟨l3, nv, rfl, f3, hnd.same s45⟩, rfl⟩
      have hc5 := hcv.same s45
      have hp5 := hp4.same s45
      have hyt : Dat H5 (.tup ((ys.map (wordOf pl)).map wdD)) (.ref ya) := by
        simp only [Dat]
        exact ⟨ya, yv, rfl, s45 _ _ hya, hyd.same s45⟩
      have hzt : Dat H5 (.tup ((zs.map (wordOf pl)).map wdD)) (.ref na) := by
        simp only [Dat]
        exact ⟨na, nv, rfl, s45 _ _ hna, hnd.same s45⟩
      obtain ⟨Pw, iW⟩ := inv fun (j : Nat) σ H' => ∃ (v6 v7 v8 : Option V), σ = [some (.ref a), some (.ref p), some (.int (0 + (i : Int))), some (.int pl), some (.ref ca), some (.ref kp), v6, v7, v8] ∧ Same H5 H' ∧
        (j = 0 ∨ ∃ r1 r2, v7 = some r1 ∧ v8 = some r2 ∧ Dat H' (byT pl ys false).d r1 ∧ Dat H' (byT pl zs true).d r2)
      refine forW_range Pw ((iW _ _ _).mpr ⟨_, _, _, rfl, Same.refl _, .inl rfl⟩) (fun j σ H6 hj h => ?_) (fun σ H6 h => ?_)
      · obtain ⟨v6, v7, v8, rfl, s6, _⟩ := (iW _ _ _).mp h
        walk_at "rd"
        refine ⟨_, pl, ys, zs, rfl, hc5.same s6, h1, h2, hy1, hz1, hl, fun r1 H7 s7 d1 => ?_⟩
        walk_at "rd"
        refine ⟨_, pl, ys, zs, rfl, hc5.same (s6.trans s7), h1, h2, hy1, hz1, hl, fun r2 H8 s8 d2 => ?_⟩
        have s58 := (s6.trans s7).trans s8
        have s48 := s45.trans s58
        walk_at "rd"
        refine ⟨_, SqT.of (s48 _ _ ha), _, rfl, false, pl, ys, r1, _, rfl, d1.same s8, hyt.same s58, h1, h2, hy1, by omega, fun H9 s9 => ⟨true, TruV_bl.mpr rfl, iteF ?_⟩⟩
        refine ⟨_, SqT.of (s9 _ _ (s48 _ _ ha)), _, rfl, true, pl, zs, r2, _, rfl, d2.same s9, hzt.same (s58.trans s9), h1, h2, hz1, by omega, fun H10 s10 => ⟨true, TruV_bl.mpr rfl, iteF ?_⟩⟩
        exact (iW _ _ _).mpr ⟨_, _, _, rfl, s58.trans (s9.trans s10), .inr ⟨r1, r2, rfl, rfl, d1.same (s8.trans (s9.trans s10)), d2.same (s9.trans s10)⟩⟩
      · obtain ⟨v6, v7, v8, rfl, s6, hj⟩ := (iW _ _ _).mp h
        obtain ⟨r1, r2, rfl, rfl, d1, d2⟩ : ∃ r1 r2, v7 = some r1 ∧ v8 = some r2 ∧ Dat H6 (byT pl ys false).d r1 ∧ Dat H6 (byT pl zs true).d r2 := by
          rcases hj with hj | hj
          · simp at hj
          · exact hj
        have b1 := by_ok (b := false) (ns := ys) h1 h2 hy1 (by omega)
        have b2 := by_ok (b := true) (ns := zs) h1 h2 hz1 (by omega)
        have m1 := by_miss (b := false) h1 h2 hy1 hz1 hl hyb hzb hdj
        have m2 := by_miss (b := true) h1 h2 hy1 hz1 hl hyb hzb hdj
        simp only [Bool.false_eq_true, if_false] at m1
        simp only [if_true] at m2
        have n1 : missD (ys.map (wordOf pl)) (zs.map (wordOf pl)) (byT pl ys false) = .non := miss_none (fun w hw => by obtain ⟨n, hn, rfl⟩ := List.mem_map.mp hw; exact m1.1 n hn) (fun w hw => by obtain ⟨n, hn, rfl⟩ := List.mem_map.mp hw; exact m1.2 n hn)
        have n2 : missD (ys.map (wordOf pl)) (zs.map (wordOf pl)) (byT pl zs true) = .non := miss_none (fun w hw => by obtain ⟨n, hn, rfl⟩ := List.mem_map.mp hw; exact m2.1 n hn) (fun w hw => by obtain ⟨n, hn, rfl⟩ := List.mem_map.mp hw; exact m2.2 n hn)
        have c6 := hc5.same s6
        walk_at "rd"
        have cdep : dep (csD pl (ys.map (wordOf pl)) (zs.map (wordOf pl))) ≤ 100 := by
          have hw : ∀ ws : List (List Int), deps (ws.map wdD) ≤ 1 := fun ws => deps_le fun d hd => by
            obtain ⟨w, _, rfl⟩ := List.mem_map.mp hd
            simp [wdD, dep, deps_ints]
          have q1 := hw (ys.map (wordOf pl))
          have q2 := hw (zs.map (wordOf pl))
          simp only [csD, dep, deps]
          omega
        refine ⟨_, r1, _, pl, ys, zs, rfl, c6, d1, b1.1, by omega, h2, hyb, hzb, m1.1, m1.2, fun H7 s7 => ⟨true, TruV_bl.mpr rfl, iteF ?_⟩⟩
        refine ⟨_, r2, _, pl, ys, zs, rfl, c6.same s7, d2.same s7, b2.1, by omega, h2, hyb, hzb, m2.1, m2.2, fun H8 s8 => ⟨true, TruV_bl.mpr rfl, iteF ?_⟩⟩
        have s68 := s7.trans s8
        refine ⟨_, c6.same s68, _, (dk.same s6).same s68, cdep, ?_⟩
        rw [eqD_refl]
        refine iteF ⟨_, r1, _, pl, _, _, _, rfl, c6.same s68, d1.same s68, b1.1, b1.2.2, hyl, hzl, fun H9 s9 => ?_⟩
        rw [n1]
        refine ⟨true, rfl, iteF ⟨_, r2, _, pl, _, _, _, rfl, c6.same (s68.trans s9), d2.same (s68.trans s9), b2.1, b2.2.2, hyl, hzl, fun H10 s10 => ?_⟩⟩
        rw [n2]
        have s60 := s68.trans (s9.trans s10)
        refine ⟨true, rfl, iteF ⟨pl, _, r1, rfl, d1.same s60, b1.1, b1.2.2, h1, h2, fun H11 s11 => ⟨true, rfl, iteF ⟨pl, _, r2, rfl, d2.same (s60.trans s11), b2.1, b2.2.2, h1, h2, fun H12 s12 => ⟨true, rfl, iteF ?_⟩⟩⟩⟩⟩
        exact (iP _ _ _).mpr ⟨_, _, _, _, _, _, _, rfl, hp5.same (s6.trans (s60.trans (s11.trans s12)))⟩
    · obtain ⟨v2, v3, v4, v5, v6, v7, v8, rfl, hp2⟩ := (iP _ _ _).mp h
      walk_at "rd"
      exact k _
theorem start_law {K : PySem.W.Frag} {H : Hp} {a : Addr} {ns : List Int} (hl : ns.length ≤ 63) (hO : Only H) (hS : SqL K H a (ns.map V.int)) : sp_law K [.ref a] H (fun v _ => v = .bl true) fun _ _ _ => False :=
  ⟨a, ns, rfl, hS, hl, fun _ => rfl⟩
end

theorem txt_mk {K : PySem.W.Frag} {h : Heap} {mg : Str → Option Value} (X : K.In h) (G : h.Ns mainGlobals mg)
    {a_joined : Addr} {od_joined an_joined : Option Addr} {sl_joined : Array (Option Value)} {oc_joined kV_joined dc_joined pm_joined cd_joined ct_joined : Value}
    {a_by_yes : Addr} {od_by_yes an_by_yes : Option Addr} {sl_by_yes : Array (Option Value)} {oc_by_yes kV_by_yes dc_by_yes pm_by_yes cd_by_yes ct_by_yes : Value}
    {a_by_no : Addr} {od_by_no an_by_no : Option Addr} {sl_by_no : Array (Option Value)} {oc_by_no kV_by_no dc_by_no pm_by_no cd_by_no ct_by_no : Value}
    {a_is_the_word : Addr} {od_is_the_word an_is_the_word : Option Addr} {sl_is_the_word : Array (Option Value)} {oc_is_the_word kV_is_the_word dc_is_the_word pm_is_the_word cd_is_the_word ct_is_the_word : Value}
    {a_is_another_word : Addr} {od_is_another_word an_is_another_word : Option Addr} {sl_is_another_word : Array (Option Value)} {oc_is_another_word kV_is_another_word dc_is_another_word pm_is_another_word cd_is_another_word ct_is_another_word : Value}
    {a_upward : Addr} {od_upward an_upward : Option Addr} {sl_upward : Array (Option Value)} {oc_upward kV_upward dc_upward pm_upward cd_upward ct_upward : Value}
    {a_folded : Addr} {od_folded an_folded : Option Addr} {sl_folded : Array (Option Value)} {oc_folded kV_folded dc_folded pm_folded cd_folded ct_folded : Value}
    {a_is_whole : Addr} {od_is_whole an_is_whole : Option Addr} {sl_is_whole : Array (Option Value)} {oc_is_whole kV_is_whole dc_is_whole pm_is_whole cd_is_whole ct_is_whole : Value}
    {a_is_bit : Addr} {od_is_bit an_is_bit : Option Addr} {sl_is_bit : Array (Option Value)} {oc_is_bit kV_is_bit dc_is_bit pm_is_bit cd_is_bit ct_is_bit : Value}
    {a_are_places : Addr} {od_are_places an_are_places : Option Addr} {sl_are_places : Array (Option Value)} {oc_are_places kV_are_places dc_are_places pm_are_places cd_are_places ct_are_places : Value}
    {a_is_place : Addr} {od_is_place an_is_place : Option Addr} {sl_is_place : Array (Option Value)} {oc_is_place kV_is_place dc_is_place pm_is_place cd_is_place ct_is_place : Value}
    {a_is_saying : Addr} {od_is_saying an_is_saying : Option Addr} {sl_is_saying : Array (Option Value)} {oc_is_saying kV_is_saying dc_is_saying pm_is_saying cd_is_saying ct_is_saying : Value}
    {a_value : Addr} {od_value an_value : Option Addr} {sl_value : Array (Option Value)} {oc_value kV_value dc_value pm_value cd_value ct_value : Value}
    {a_missed : Addr} {od_missed an_missed : Option Addr} {sl_missed : Array (Option Value)} {oc_missed kV_missed dc_missed pm_missed cd_missed ct_missed : Value}
    {a_parts : Addr} {od_parts an_parts : Option Addr} {sl_parts : Array (Option Value)} {oc_parts kV_parts dc_parts pm_parts cd_parts ct_parts : Value}
    {a_l_pen : Addr} {od_l_pen an_l_pen : Option Addr} {sl_l_pen : Array (Option Value)} {oc_l_pen kV_l_pen dc_l_pen pm_l_pen cd_l_pen ct_l_pen : Value}
    {a_l_draw : Addr} {od_l_draw an_l_draw : Option Addr} {sl_l_draw : Array (Option Value)} {oc_l_draw kV_l_draw dc_l_draw pm_l_draw cd_l_draw ct_l_draw : Value}
    {a_l_whole : Addr} {od_l_whole an_l_whole : Option Addr} {sl_l_whole : Array (Option Value)} {oc_l_whole kV_l_whole dc_l_whole pm_l_whole cd_l_whole ct_l_whole : Value}
    {a_l_word : Addr} {od_l_word an_l_word : Option Addr} {sl_l_word : Array (Option Value)} {oc_l_word kV_l_word dc_l_word pm_l_word cd_l_word ct_l_word : Value}
    {a_l_mask : Addr} {od_l_mask an_l_mask : Option Addr} {sl_l_mask : Array (Option Value)} {oc_l_mask kV_l_mask dc_l_mask pm_l_mask cd_l_mask ct_l_mask : Value}
    {a_l_case : Addr} {od_l_case an_l_case : Option Addr} {sl_l_case : Array (Option Value)} {oc_l_case kV_l_case dc_l_case pm_l_case cd_l_case ct_l_case : Value}
    {a_l_unjoined : Addr} {od_l_unjoined an_l_unjoined : Option Addr} {sl_l_unjoined : Array (Option Value)} {oc_l_unjoined kV_l_unjoined dc_l_unjoined pm_l_unjoined cd_l_unjoined ct_l_unjoined : Value}
    {a_l_leaves_right : Addr} {od_l_leaves_right an_l_leaves_right : Option Addr} {sl_l_leaves_right : Array (Option Value)} {oc_l_leaves_right kV_l_leaves_right dc_l_leaves_right pm_l_leaves_right cd_l_leaves_right ct_l_leaves_right : Value}
    {a_l_joined_right : Addr} {od_l_joined_right an_l_joined_right : Option Addr} {sl_l_joined_right : Array (Option Value)} {oc_l_joined_right kV_l_joined_right dc_l_joined_right pm_l_joined_right cd_l_joined_right ct_l_joined_right : Value}
    {a_l_parted : Addr} {od_l_parted an_l_parted : Option Addr} {sl_l_parted : Array (Option Value)} {oc_l_parted kV_l_parted dc_l_parted pm_l_parted cd_l_parted ct_l_parted : Value}
    {a_law : Addr} {od_law an_law : Option Addr} {sl_law : Array (Option Value)} {oc_law kV_law dc_law pm_law cd_law ct_law : Value}
    {k_MOST_PLACES : Tok}
    {cc_value pp_value : Addr} {ko_value : Value} {kd_value : Option Addr} {kf_value : Array Value} {ks_value : Array (Option Value)}
    (g_joined : PySem.W.nsIn K mainGlobals "joined" = some (some (.ref a_joined))) (l_joined : K.lookup a_joined = some ⟨oc_joined, od_joined, .func (PySem.W.fnOf "joined" "joined" (defArgs s_joined) (defBody s_joined) (defScope s_joined) .none kV_joined dc_joined pm_joined an_joined cd_joined ct_joined), sl_joined⟩) (c_joined : PySem.W.codeIn K cd_joined "joined" = true) (e_joined : PySem.W.keepIn K (.ref a_joined) = true)
    (g_by_yes : PySem.W.nsIn K mainGlobals "by_yes" = some (some (.ref a_by_yes))) (l_by_yes : K.lookup a_by_yes = some ⟨oc_by_yes, od_by_yes, .func (PySem.W.fnOf "by_yes" "by_yes" (defArgs s_by_yes) (defBody s_by_yes) (defScope s_by_yes) .none kV_by_yes dc_by_yes pm_by_yes an_by_yes cd_by_yes ct_by_yes), sl_by_yes⟩) (c_by_yes : PySem.W.codeIn K cd_by_yes "by_yes" = true) (e_by_yes : PySem.W.keepIn K (.ref a_by_yes) = true)
    (g_by_no : PySem.W.nsIn K mainGlobals "by_no" = some (some (.ref a_by_no))) (l_by_no : K.lookup a_by_no = some ⟨oc_by_no, od_by_no, .func (PySem.W.fnOf "by_no" "by_no" (defArgs s_by_no) (defBody s_by_no) (defScope s_by_no) .none kV_by_no dc_by_no pm_by_no an_by_no cd_by_no ct_by_no), sl_by_no⟩) (c_by_no : PySem.W.codeIn K cd_by_no "by_no" = true) (e_by_no : PySem.W.keepIn K (.ref a_by_no) = true)
    (g_is_the_word : PySem.W.nsIn K mainGlobals "is_the_word" = some (some (.ref a_is_the_word))) (l_is_the_word : K.lookup a_is_the_word = some ⟨oc_is_the_word, od_is_the_word, .func (PySem.W.fnOf "is_the_word" "is_the_word" (defArgs s_is_the_word) (defBody s_is_the_word) (defScope s_is_the_word) .none kV_is_the_word dc_is_the_word pm_is_the_word an_is_the_word cd_is_the_word ct_is_the_word), sl_is_the_word⟩) (c_is_the_word : PySem.W.codeIn K cd_is_the_word "is_the_word" = true) (e_is_the_word : PySem.W.keepIn K (.ref a_is_the_word) = true)
    (g_is_another_word : PySem.W.nsIn K mainGlobals "is_another_word" = some (some (.ref a_is_another_word))) (l_is_another_word : K.lookup a_is_another_word = some ⟨oc_is_another_word, od_is_another_word, .func (PySem.W.fnOf "is_another_word" "is_another_word" (defArgs s_is_another_word) (defBody s_is_another_word) (defScope s_is_another_word) .none kV_is_another_word dc_is_another_word pm_is_another_word an_is_another_word cd_is_another_word ct_is_another_word), sl_is_another_word⟩) (c_is_another_word : PySem.W.codeIn K cd_is_another_word "is_another_word" = true) (e_is_another_word : PySem.W.keepIn K (.ref a_is_another_word) = true)
    (g_upward : PySem.W.nsIn K mainGlobals "upward" = some (some (.ref a_upward))) (l_upward : K.lookup a_upward = some ⟨oc_upward, od_upward, .func (PySem.W.fnOf "upward" "upward" (defArgs s_upward) (defBody s_upward) (defScope s_upward) .none kV_upward dc_upward pm_upward an_upward cd_upward ct_upward), sl_upward⟩) (c_upward : PySem.W.codeIn K cd_upward "upward" = true) (e_upward : PySem.W.keepIn K (.ref a_upward) = true)
    (g_folded : PySem.W.nsIn K mainGlobals "folded" = some (some (.ref a_folded))) (l_folded : K.lookup a_folded = some ⟨oc_folded, od_folded, .func (PySem.W.fnOf "folded" "folded" (defArgs s_folded) (defBody s_folded) (defScope s_folded) .none kV_folded dc_folded pm_folded an_folded cd_folded ct_folded), sl_folded⟩) (c_folded : PySem.W.codeIn K cd_folded "folded" = true) (e_folded : PySem.W.keepIn K (.ref a_folded) = true)
    (g_is_whole : PySem.W.nsIn K mainGlobals "is_whole" = some (some (.ref a_is_whole))) (l_is_whole : K.lookup a_is_whole = some ⟨oc_is_whole, od_is_whole, .func (PySem.W.fnOf "is_whole" "is_whole" (defArgs s_is_whole) (defBody s_is_whole) (defScope s_is_whole) .none kV_is_whole dc_is_whole pm_is_whole an_is_whole cd_is_whole ct_is_whole), sl_is_whole⟩) (c_is_whole : PySem.W.codeIn K cd_is_whole "is_whole" = true) (e_is_whole : PySem.W.keepIn K (.ref a_is_whole) = true)
    (g_is_bit : PySem.W.nsIn K mainGlobals "is_bit" = some (some (.ref a_is_bit))) (l_is_bit : K.lookup a_is_bit = some ⟨oc_is_bit, od_is_bit, .func (PySem.W.fnOf "is_bit" "is_bit" (defArgs s_is_bit) (defBody s_is_bit) (defScope s_is_bit) .none kV_is_bit dc_is_bit pm_is_bit an_is_bit cd_is_bit ct_is_bit), sl_is_bit⟩) (c_is_bit : PySem.W.codeIn K cd_is_bit "is_bit" = true) (e_is_bit : PySem.W.keepIn K (.ref a_is_bit) = true)
    (g_are_places : PySem.W.nsIn K mainGlobals "are_places" = some (some (.ref a_are_places))) (l_are_places : K.lookup a_are_places = some ⟨oc_are_places, od_are_places, .func (PySem.W.fnOf "are_places" "are_places" (defArgs s_are_places) (defBody s_are_places) (defScope s_are_places) .none kV_are_places dc_are_places pm_are_places an_are_places cd_are_places ct_are_places), sl_are_places⟩) (c_are_places : PySem.W.codeIn K cd_are_places "are_places" = true) (e_are_places : PySem.W.keepIn K (.ref a_are_places) = true)
    (g_is_place : PySem.W.nsIn K mainGlobals "is_place" = some (some (.ref a_is_place))) (l_is_place : K.lookup a_is_place = some ⟨oc_is_place, od_is_place, .func (PySem.W.fnOf "is_place" "is_place" (defArgs s_is_place) (defBody s_is_place) (defScope s_is_place) .none kV_is_place dc_is_place pm_is_place an_is_place cd_is_place ct_is_place), sl_is_place⟩) (c_is_place : PySem.W.codeIn K cd_is_place "is_place" = true) (e_is_place : PySem.W.keepIn K (.ref a_is_place) = true)
    (g_is_saying : PySem.W.nsIn K mainGlobals "is_saying" = some (some (.ref a_is_saying))) (l_is_saying : K.lookup a_is_saying = some ⟨oc_is_saying, od_is_saying, .func (PySem.W.fnOf "is_saying" "is_saying" (defArgs s_is_saying) (defBody s_is_saying) (defScope s_is_saying) .none kV_is_saying dc_is_saying pm_is_saying an_is_saying cd_is_saying ct_is_saying), sl_is_saying⟩) (c_is_saying : PySem.W.codeIn K cd_is_saying "is_saying" = true) (e_is_saying : PySem.W.keepIn K (.ref a_is_saying) = true)
    (g_value : PySem.W.nsIn K mainGlobals "value" = some (some (.ref a_value))) (l_value : K.lookup a_value = some ⟨oc_value, od_value, .func (PySem.W.fnOf "value" "value" (defArgs s_value) (defBody s_value) (defScope s_value) .none kV_value dc_value pm_value an_value cd_value ct_value), sl_value⟩) (c_value : PySem.W.codeIn K cd_value "value" = true) (e_value : PySem.W.keepIn K (.ref a_value) = true)
    (g_missed : PySem.W.nsIn K mainGlobals "missed" = some (some (.ref a_missed))) (l_missed : K.lookup a_missed = some ⟨oc_missed, od_missed, .func (PySem.W.fnOf "missed" "missed" (defArgs s_missed) (defBody s_missed) (defScope s_missed) .none kV_missed dc_missed pm_missed an_missed cd_missed ct_missed), sl_missed⟩) (c_missed : PySem.W.codeIn K cd_missed "missed" = true) (e_missed : PySem.W.keepIn K (.ref a_missed) = true)
    (g_parts : PySem.W.nsIn K mainGlobals "parts" = some (some (.ref a_parts))) (l_parts : K.lookup a_parts = some ⟨oc_parts, od_parts, .func (PySem.W.fnOf "parts" "parts" (defArgs s_parts) (defBody s_parts) (defScope s_parts) .none kV_parts dc_parts pm_parts an_parts cd_parts ct_parts), sl_parts⟩) (c_parts : PySem.W.codeIn K cd_parts "parts" = true) (e_parts : PySem.W.keepIn K (.ref a_parts) = true)
    (g_l_pen : PySem.W.nsIn K mainGlobals "_law_pen" = some (some (.ref a_l_pen))) (l_l_pen : K.lookup a_l_pen = some ⟨oc_l_pen, od_l_pen, .func (PySem.W.fnOf "_law_pen" "_law_pen" (defArgs s_l_pen) (defBody s_l_pen) (defScope s_l_pen) .none kV_l_pen dc_l_pen pm_l_pen an_l_pen cd_l_pen ct_l_pen), sl_l_pen⟩) (c_l_pen : PySem.W.codeIn K cd_l_pen "_law_pen" = true) (e_l_pen : PySem.W.keepIn K (.ref a_l_pen) = true)
    (g_l_draw : PySem.W.nsIn K mainGlobals "_law_draw" = some (some (.ref a_l_draw))) (l_l_draw : K.lookup a_l_draw = some ⟨oc_l_draw, od_l_draw, .func (PySem.W.fnOf "_law_draw" "_law_draw" (defArgs s_l_draw) (defBody s_l_draw) (defScope s_l_draw) .none kV_l_draw dc_l_draw pm_l_draw an_l_draw cd_l_draw ct_l_draw), sl_l_draw⟩) (c_l_draw : PySem.W.codeIn K cd_l_draw "_law_draw" = true) (e_l_draw : PySem.W.keepIn K (.ref a_l_draw) = true)
    (g_l_whole : PySem.W.nsIn K mainGlobals "_law_whole" = some (some (.ref a_l_whole))) (l_l_whole : K.lookup a_l_whole = some ⟨oc_l_whole, od_l_whole, .func (PySem.W.fnOf "_law_whole" "_law_whole" (defArgs s_l_whole) (defBody s_l_whole) (defScope s_l_whole) .none kV_l_whole dc_l_whole pm_l_whole an_l_whole cd_l_whole ct_l_whole), sl_l_whole⟩) (c_l_whole : PySem.W.codeIn K cd_l_whole "_law_whole" = true) (e_l_whole : PySem.W.keepIn K (.ref a_l_whole) = true)
    (g_l_word : PySem.W.nsIn K mainGlobals "_law_word" = some (some (.ref a_l_word))) (l_l_word : K.lookup a_l_word = some ⟨oc_l_word, od_l_word, .func (PySem.W.fnOf "_law_word" "_law_word" (defArgs s_l_word) (defBody s_l_word) (defScope s_l_word) .none kV_l_word dc_l_word pm_l_word an_l_word cd_l_word ct_l_word), sl_l_word⟩) (c_l_word : PySem.W.codeIn K cd_l_word "_law_word" = true) (e_l_word : PySem.W.keepIn K (.ref a_l_word) = true)
    (g_l_mask : PySem.W.nsIn K mainGlobals "_law_mask" = some (some (.ref a_l_mask))) (l_l_mask : K.lookup a_l_mask = some ⟨oc_l_mask, od_l_mask, .func (PySem.W.fnOf "_law_mask" "_law_mask" (defArgs s_l_mask) (defBody s_l_mask) (defScope s_l_mask) .none kV_l_mask dc_l_mask pm_l_mask an_l_mask cd_l_mask ct_l_mask), sl_l_mask⟩) (c_l_mask : PySem.W.codeIn K cd_l_mask "_law_mask" = true) (e_l_mask : PySem.W.keepIn K (.ref a_l_mask) = true)
    (g_l_case : PySem.W.nsIn K mainGlobals "_law_case" = some (some (.ref a_l_case))) (l_l_case : K.lookup a_l_case = some ⟨oc_l_case, od_l_case, .func (PySem.W.fnOf "_law_case" "_law_case" (defArgs s_l_case) (defBody s_l_case) (defScope s_l_case) .none kV_l_case dc_l_case pm_l_case an_l_case cd_l_case ct_l_case), sl_l_case⟩) (c_l_case : PySem.W.codeIn K cd_l_case "_law_case" = true) (e_l_case : PySem.W.keepIn K (.ref a_l_case) = true)
    (g_l_unjoined : PySem.W.nsIn K mainGlobals "_law_unjoined" = some (some (.ref a_l_unjoined))) (l_l_unjoined : K.lookup a_l_unjoined = some ⟨oc_l_unjoined, od_l_unjoined, .func (PySem.W.fnOf "_law_unjoined" "_law_unjoined" (defArgs s_l_unjoined) (defBody s_l_unjoined) (defScope s_l_unjoined) .none kV_l_unjoined dc_l_unjoined pm_l_unjoined an_l_unjoined cd_l_unjoined ct_l_unjoined), sl_l_unjoined⟩) (c_l_unjoined : PySem.W.codeIn K cd_l_unjoined "_law_unjoined" = true) (e_l_unjoined : PySem.W.keepIn K (.ref a_l_unjoined) = true)
    (g_l_leaves_right : PySem.W.nsIn K mainGlobals "_law_leaves_right" = some (some (.ref a_l_leaves_right))) (l_l_leaves_right : K.lookup a_l_leaves_right = some ⟨oc_l_leaves_right, od_l_leaves_right, .func (PySem.W.fnOf "_law_leaves_right" "_law_leaves_right" (defArgs s_l_leaves_right) (defBody s_l_leaves_right) (defScope s_l_leaves_right) .none kV_l_leaves_right dc_l_leaves_right pm_l_leaves_right an_l_leaves_right cd_l_leaves_right ct_l_leaves_right), sl_l_leaves_right⟩) (c_l_leaves_right : PySem.W.codeIn K cd_l_leaves_right "_law_leaves_right" = true) (e_l_leaves_right : PySem.W.keepIn K (.ref a_l_leaves_right) = true)
    (g_l_joined_right : PySem.W.nsIn K mainGlobals "_law_joined_right" = some (some (.ref a_l_joined_right))) (l_l_joined_right : K.lookup a_l_joined_right = some ⟨oc_l_joined_right, od_l_joined_right, .func (PySem.W.fnOf "_law_joined_right" "_law_joined_right" (defArgs s_l_joined_right) (defBody s_l_joined_right) (defScope s_l_joined_right) .none kV_l_joined_right dc_l_joined_right pm_l_joined_right an_l_joined_right cd_l_joined_right ct_l_joined_right), sl_l_joined_right⟩) (c_l_joined_right : PySem.W.codeIn K cd_l_joined_right "_law_joined_right" = true) (e_l_joined_right : PySem.W.keepIn K (.ref a_l_joined_right) = true)
    (g_l_parted : PySem.W.nsIn K mainGlobals "_law_parted" = some (some (.ref a_l_parted))) (l_l_parted : K.lookup a_l_parted = some ⟨oc_l_parted, od_l_parted, .func (PySem.W.fnOf "_law_parted" "_law_parted" (defArgs s_l_parted) (defBody s_l_parted) (defScope s_l_parted) .none kV_l_parted dc_l_parted pm_l_parted an_l_parted cd_l_parted ct_l_parted), sl_l_parted⟩) (c_l_parted : PySem.W.codeIn K cd_l_parted "_law_parted" = true) (e_l_parted : PySem.W.keepIn K (.ref a_l_parted) = true)
    (g_law : PySem.W.nsIn K mainGlobals "law" = some (some (.ref a_law))) (l_law : K.lookup a_law = some ⟨oc_law, od_law, .func (PySem.W.fnOf "law" "law" (defArgs s_law) (defBody s_law) (defScope s_law) .none kV_law dc_law pm_law an_law cd_law ct_law), sl_law⟩) (c_law : PySem.W.codeIn K cd_law "law" = true) (e_law : PySem.W.keepIn K (.ref a_law) = true)
    (g_MOST_PLACES : PySem.W.nsIn K mainGlobals "MOST_PLACES" = some (some (.int 5 k_MOST_PLACES)))
    (y_value : cd_value = .ref cc_value) (r_value : K.lookup cc_value = some ⟨ko_value, kd_value, .fields kf_value, ks_value⟩) (u_value : kf_value[11]? = some (.ref pp_value)) (v_value : (tabL K).contains ("value", cc_value, pp_value) = true) (h_value : hdIn K cc_value pp_value = true)
    (z_abs : PySem.W.nsIn K mainGlobals "abs" = some none)
    (z_all : PySem.W.nsIn K mainGlobals "all" = some none)
    (z_bool : PySem.W.nsIn K mainGlobals "bool" = some none)
    (z_enumerate : PySem.W.nsIn K mainGlobals "enumerate" = some none)
    (z_int : PySem.W.nsIn K mainGlobals "int" = some none)
    (z_isinstance : PySem.W.nsIn K mainGlobals "isinstance" = some none)
    (z_len : PySem.W.nsIn K mainGlobals "len" = some none)
    (z_list : PySem.W.nsIn K mainGlobals "list" = some none)
    (z_max : PySem.W.nsIn K mainGlobals "max" = some none)
    (z_min : PySem.W.nsIn K mainGlobals "min" = some none)
    (z_range : PySem.W.nsIn K mainGlobals "range" = some none)
    (z_sum : PySem.W.nsIn K mainGlobals "sum" = some none)
    (z_tuple : PySem.W.nsIn K mainGlobals "tuple" = some none)
    (z_zip : PySem.W.nsIn K mainGlobals "zip" = some none) : ∃ t, Txt K mg t := by
  have F_joined := fun_mk (st := s_joined) l_joined c_joined e_joined
  have F_by_yes := fun_mk (st := s_by_yes) l_by_yes c_by_yes e_by_yes
  have F_by_no := fun_mk (st := s_by_no) l_by_no c_by_no e_by_no
  have F_is_the_word := fun_mk (st := s_is_the_word) l_is_the_word c_is_the_word e_is_the_word
  have F_is_another_word := fun_mk (st := s_is_another_word) l_is_another_word c_is_another_word e_is_another_word
  have F_upward := fun_mk (st := s_upward) l_upward c_upward e_upward
  have F_folded := fun_mk (st := s_folded) l_folded c_folded e_folded
  have F_is_whole := fun_mk (st := s_is_whole) l_is_whole c_is_whole e_is_whole
  have F_is_bit := fun_mk (st := s_is_bit) l_is_bit c_is_bit e_is_bit
  have F_are_places := fun_mk (st := s_are_places) l_are_places c_are_places e_are_places
  have F_is_place := fun_mk (st := s_is_place) l_is_place c_is_place e_is_place
  have F_is_saying := fun_mk (st := s_is_saying) l_is_saying c_is_saying e_is_saying
  have F_value := fun_mk (st := s_value) l_value c_value e_value
  have F_missed := fun_mk (st := s_missed) l_missed c_missed e_missed
  have F_parts := fun_mk (st := s_parts) l_parts c_parts e_parts
  have F_l_pen := fun_mk (st := s_l_pen) l_l_pen c_l_pen e_l_pen
  have F_l_draw := fun_mk (st := s_l_draw) l_l_draw c_l_draw e_l_draw
  have F_l_whole := fun_mk (st := s_l_whole) l_l_whole c_l_whole e_l_whole
  have F_l_word := fun_mk (st := s_l_word) l_l_word c_l_word e_l_word
  have F_l_mask := fun_mk (st := s_l_mask) l_l_mask c_l_mask e_l_mask
  have F_l_case := fun_mk (st := s_l_case) l_l_case c_l_case e_l_case
  have F_l_unjoined := fun_mk (st := s_l_unjoined) l_l_unjoined c_l_unjoined e_l_unjoined
  have F_l_leaves_right := fun_mk (st := s_l_leaves_right) l_l_leaves_right c_l_leaves_right e_l_leaves_right
  have F_l_joined_right := fun_mk (st := s_l_joined_right) l_l_joined_right c_l_joined_right e_l_joined_right
  have F_l_parted := fun_mk (st := s_l_parted) l_l_parted c_l_parted e_l_parted
  have F_law := fun_mk (st := s_law) l_law c_law e_law
  exact ⟨⟨a_joined, _, a_by_yes, _, a_by_no, _, a_is_the_word, _, a_is_another_word, _, a_upward, _, a_folded, _, a_is_whole, _, a_is_bit, _, a_are_places, _, a_is_place, _, a_is_saying, _, a_value, _, a_missed, _, a_parts, _, a_l_pen, _, a_l_draw, _, a_l_whole, _, a_l_word, _, a_l_mask, _, a_l_case, _, a_l_unjoined, _, a_l_leaves_right, _, a_l_joined_right, _, a_l_parted, _, a_law, _, k_MOST_PLACES, cc_value, pp_value⟩, ⟨PySem.W.mg_of X G g_joined, F_joined, e_joined, F_joined.binds (ps := ["join", "some"]) fun _ _ _ _ _ _ us hl => match us, hl with | [_, _], _ => rfl,
    PySem.W.mg_of X G g_by_yes, F_by_yes, e_by_yes, F_by_yes.binds (ps := ["case"]) fun _ _ _ _ _ _ us hl => match us, hl with | [_], _ => rfl,
    PySem.W.mg_of X G g_by_no, F_by_no, e_by_no, F_by_no.binds (ps := ["case"]) fun _ _ _ _ _ _ us hl => match us, hl with | [_], _ => rfl,
    PySem.W.mg_of X G g_is_the_word, F_is_the_word, e_is_the_word, F_is_the_word.binds (ps := ["word"]) fun _ _ _ _ _ _ us hl => match us, hl with | [_], _ => rfl,
    PySem.W.mg_of X G g_is_another_word, F_is_another_word, e_is_another_word, F_is_another_word.binds (ps := ["word"]) fun _ _ _ _ _ _ us hl => match us, hl with | [_], _ => rfl,
    PySem.W.mg_of X G g_upward, F_upward, e_upward, F_upward.binds (ps := ["tree", "leaf"]) fun _ _ _ _ _ _ us hl => match us, hl with | [_, _], _ => rfl,
    PySem.W.mg_of X G g_folded, F_folded, e_folded, F_folded.binds (ps := ["tree", "leaf", "of_leaf", "of_fork"]) fun _ _ _ _ _ _ us hl => match us, hl with | [_, _, _, _], _ => rfl,
    PySem.W.mg_of X G g_is_whole, F_is_whole, e_is_whole, F_is_whole.binds (ps := ["thing"]) fun _ _ _ _ _ _ us hl => match us, hl with | [_], _ => rfl,
    PySem.W.mg_of X G g_is_bit, F_is_bit, e_is_bit, F_is_bit.binds (ps := ["thing"]) fun _ _ _ _ _ _ us hl => match us, hl with | [_], _ => rfl,
    PySem.W.mg_of X G g_are_places, F_are_places, e_are_places, F_are_places.binds (ps := ["thing"]) fun _ _ _ _ _ _ us hl => match us, hl with | [_], _ => rfl,
    PySem.W.mg_of X G g_is_place, F_is_place, e_is_place, F_is_place.binds (ps := ["places", "thing"]) fun _ _ _ _ _ _ us hl => match us, hl with | [_, _], _ => rfl,
    PySem.W.mg_of X G g_is_saying, F_is_saying, e_is_saying, F_is_saying.binds (ps := ["places", "thing"]) fun _ _ _ _ _ _ us hl => match us, hl with | [_, _], _ => rfl,
    PySem.W.mg_of X G g_value, F_value, e_value, F_value.binds (ps := ["saying", "word"]) fun _ _ _ _ _ _ us hl => match us, hl with | [_, _], _ => rfl,
    PySem.W.mg_of X G g_missed, F_missed, e_missed, F_missed.binds (ps := ["case", "saying"]) fun _ _ _ _ _ _ us hl => match us, hl with | [_, _], _ => rfl,
    PySem.W.mg_of X G g_parts, F_parts, e_parts, F_parts.binds (ps := ["case", "saying"]) fun _ _ _ _ _ _ us hl => match us, hl with | [_, _], _ => rfl,
    PySem.W.mg_of X G g_l_pen, F_l_pen, e_l_pen, F_l_pen.binds (ps := ["_law_script"]) fun _ _ _ _ _ _ us hl => match us, hl with | [_], _ => rfl,
    PySem.W.mg_of X G g_l_draw, F_l_draw, e_l_draw, F_l_draw.binds (ps := ["_law_pen_here", "_law_many"]) fun _ _ _ _ _ _ us hl => match us, hl with | [_, _], _ => rfl,
    PySem.W.mg_of X G g_l_whole, F_l_whole, e_l_whole, F_l_whole.binds (ps := ["_law_thing"]) fun _ _ _ _ _ _ us hl => match us, hl with | [_], _ => rfl,
    PySem.W.mg_of X G g_l_word, F_l_word, e_l_word, F_l_word.binds (ps := ["_law_places", "_law_number"]) fun _ _ _ _ _ _ us hl => match us, hl with | [_, _], _ => rfl,
    PySem.W.mg_of X G g_l_mask, F_l_mask, e_l_mask, F_l_mask.binds (ps := ["_law_places", "_law_saying"]) fun _ _ _ _ _ _ us hl => match us, hl with | [_, _], _ => rfl,
    PySem.W.mg_of X G g_l_case, F_l_case, e_l_case, F_l_case.binds (ps := ["_law_pen_here", "_law_places"]) fun _ _ _ _ _ _ us hl => match us, hl with | [_, _], _ => rfl,
    PySem.W.mg_of X G g_l_unjoined, F_l_unjoined, e_l_unjoined, F_l_unjoined.binds (ps := ["_law_thing", "_law_join", "_law_many"]) fun _ _ _ _ _ _ us hl => match us, hl with | [_, _, _], _ => rfl,
    PySem.W.mg_of X G g_l_leaves_right, F_l_leaves_right, e_l_leaves_right, F_l_leaves_right.binds (ps := ["_law_word_here", "_law_some", "_law_bit"]) fun _ _ _ _ _ _ us hl => match us, hl with | [_, _, _], _ => rfl,
    PySem.W.mg_of X G g_l_joined_right, F_l_joined_right, e_l_joined_right, F_l_joined_right.binds (ps := ["_law_found", "_law_words", "_law_outer", "_law_inner", "_law_bit"]) fun _ _ _ _ _ _ us hl => match us, hl with | [_, _, _, _, _], _ => rfl,
    PySem.W.mg_of X G g_l_parted, F_l_parted, e_l_parted, F_l_parted.binds (ps := ["_law_case_here", "_law_saying"]) fun _ _ _ _ _ _ us hl => match us, hl with | [_, _], _ => rfl,
    PySem.W.mg_of X G g_law, F_law, e_law, F_law.binds (ps := ["_law_script"]) fun _ _ _ _ _ _ us hl => match us, hl with | [_], _ => rfl,
    fun s v => .of_eq rfl,
    PySem.W.mg_none_of X G z_abs,
    PySem.W.mg_none_of X G z_all,
    PySem.W.mg_none_of X G z_bool,
    PySem.W.mg_none_of X G z_enumerate,
    PySem.W.mg_none_of X G z_int,
    PySem.W.mg_none_of X G z_isinstance,
    PySem.W.mg_none_of X G z_len,
    PySem.W.mg_none_of X G z_list,
    PySem.W.mg_none_of X G z_max,
    PySem.W.mg_none_of X G z_min,
    PySem.W.mg_none_of X G z_range,
    PySem.W.mg_none_of X G z_sum,
    PySem.W.mg_none_of X G z_tuple,
    PySem.W.mg_none_of X G z_zip,
    PySem.W.mg_of X G g_MOST_PLACES,
    funT_mk (st := s_value) l_value c_value y_value v_value h_value⟩⟩
end My
open PySem PySem.W PyProof.Rows
set_option maxRecDepth 100000 in
set_option maxHeartbeats 0 in
theorem PySem.Challenge.cw_unlikeplace_k12_sayings_by_words_holds : PySem.Challenge.rw_unlikeplace_k12_sayings_by_words.Holds := by
  w_on; o_law; k_head; (case hw => w_witness2)
  k_fill
  refine L2.walk_ofT (l := PySem.Challenge.rw_unlikeplace_k12_sayings_by_words) (n := 63) (k := 20) (x := "_law_script") (CX := L2.CX0) (sp := My.sp_law) rfl (by decide) rfl ⟨rfl, by decide, by decide, rfl⟩ (fun w h Y => by first | exact PySem.W.kIn_of Y | exact PySem.W.km_in_of Y) (fun w => by kernel_rfl) ?F ?S ?C
  case F =>
    intro w mg fa h KX G hmg
    have T : ∃ t, My.Txt (L2.KOf KX) mg t := by
      dsimp only [L2.KOf]
      refine' My.txt_mk KX G ?g_joined ?l_joined ?c_joined ?e_joined ?g_by_yes ?l_by_yes ?c_by_yes ?e_by_yes ?g_by_no ?l_by_no ?c_by_no ?e_by_no ?g_is_the_word ?l_is_the_word ?c_is_the_word ?e_is_the_word ?g_is_another_word ?l_is_another_word ?c_is_another_word ?e_is_another_word ?g_upward ?l_upward ?c_upward ?e_upward ?g_folded ?l_folded ?c_folded ?e_folded ?g_is_whole ?l_is_whole ?c_is_whole ?e_is_whole ?g_is_bit ?l_is_bit ?c_is_bit ?e_is_bit ?g_are_places ?l_are_places ?c_are_places ?e_are_places ?g_is_place ?l_is_place ?c_is_place ?e_is_place ?g_is_saying ?l_is_saying ?c_is_saying ?e_is_saying ?g_value ?l_value ?c_value ?e_value ?g_missed ?l_missed ?c_missed ?e_missed ?g_parts ?l_parts ?c_parts ?e_parts ?g_l_pen ?l_l_pen ?c_l_pen ?e_l_pen ?g_l_draw ?l_l_draw ?c_l_draw ?e_l_draw ?g_l_whole ?l_l_whole ?c_l_whole ?e_l_whole ?g_l_word ?l_l_word ?c_l_word ?e_l_word ?g_l_mask ?l_l_mask ?c_l_mask ?e_l_mask ?g_l_case ?l_l_case ?c_l_case ?e_l_case ?g_l_unjoined ?l_l_unjoined ?c_l_unjoined ?e_l_unjoined ?g_l_leaves_right ?l_l_leaves_right ?c_l_leaves_right ?e_l_leaves_right ?g_l_joined_right ?l_l_joined_right ?c_l_joined_right ?e_l_joined_right ?g_l_parted ?l_l_parted ?c_l_parted ?e_l_parted ?g_law ?l_law ?c_law ?e_law ?g_MOST_PLACES ?y_value ?r_value ?u_value ?v_value ?h_value ?z_abs ?z_all ?z_bool ?z_enumerate ?z_int ?z_isinstance ?z_len ?z_list ?z_max ?z_min ?z_range ?z_sum ?z_tuple ?z_zip
      (case g_joined => k_is)
      (case l_joined => k_is)
      (case c_joined => k_is)
      (case e_joined => k_is)
      (case g_by_yes => k_is)
      (case l_by_yes => k_is)
      (case c_by_yes => k_is)
      (case e_by_yes => k_is)
      (case g_by_no => k_is)
      (case l_by_no => k_is)
      (case c_by_no => k_is)
      (case e_by_no => k_is)
      (case g_is_the_word => k_is)
      (case l_is_the_word => k_is)
      (case c_is_the_word => k_is)
      (case e_is_the_word => k_is)
      (case g_is_another_word => k_is)
      (case l_is_another_word => k_is)
      (case c_is_another_word => k_is)
      (case e_is_another_word => k_is)
      (case g_upward => k_is)
      (case l_upward => k_is)
      (case c_upward => k_is)
      (case e_upward => k_is)
      (case g_folded => k_is)
      (case l_folded => k_is)
      (case c_folded => k_is)
      (case e_folded => k_is)
      (case g_is_whole => k_is)
      (case l_is_whole => k_is)
      (case c_is_whole => k_is)
      (case e_is_whole => k_is)
      (case g_is_bit => k_is)
      (case l_is_bit => k_is)
      (case c_is_bit => k_is)
      (case e_is_bit => k_is)
      (case g_are_places => k_is)
      (case l_are_places => k_is)
      (case c_are_places => k_is)
      (case e_are_places => k_is)
      (case g_is_place => k_is)
      (case l_is_place => k_is)
      (case c_is_place => k_is)
      (case e_is_place => k_is)
      (case g_is_saying => k_is)
      (case l_is_saying => k_is)
      (case c_is_saying => k_is)
      (case e_is_saying => k_is)
      (case g_value => k_is)
      (case l_value => k_is)
      (case c_value => k_is)
      (case e_value => k_is)
      (case g_missed => k_is)
      (case l_missed => k_is)
      (case c_missed => k_is)
      (case e_missed => k_is)
      (case g_parts => k_is)
      (case l_parts => k_is)
      (case c_parts => k_is)
      (case e_parts => k_is)
      (case g_l_pen => k_is)
      (case l_l_pen => k_is)
      (case c_l_pen => k_is)
      (case e_l_pen => k_is)
      (case g_l_draw => k_is)
      (case l_l_draw => k_is)
      (case c_l_draw => k_is)
      (case e_l_draw => k_is)
      (case g_l_whole => k_is)
      (case l_l_whole => k_is)
      (case c_l_whole => k_is)
      (case e_l_whole => k_is)
      (case g_l_word => k_is)
      (case l_l_word => k_is)
      (case c_l_word => k_is)
      (case e_l_word => k_is)
      (case g_l_mask => k_is)
      (case l_l_mask => k_is)
      (case c_l_mask => k_is)
      (case e_l_mask => k_is)
      (case g_l_case => k_is)
      (case l_l_case => k_is)
      (case c_l_case => k_is)
      (case e_l_case => k_is)
      (case g_l_unjoined => k_is)
      (case l_l_unjoined => k_is)
      (case c_l_unjoined => k_is)
      (case e_l_unjoined => k_is)
      (case g_l_leaves_right => k_is)
      (case l_l_leaves_right => k_is)
      (case c_l_leaves_right => k_is)
      (case e_l_leaves_right => k_is)
      (case g_l_joined_right => k_is)
      (case l_l_joined_right => k_is)
      (case c_l_joined_right => k_is)
      (case e_l_joined_right => k_is)
      (case g_l_parted => k_is)
      (case l_l_parted => k_is)
      (case c_l_parted => k_is)
      (case e_l_parted => k_is)
      (case g_law => k_is)
      (case l_law => k_is)
      (case c_law => k_is)
      (case e_law => k_is)
      (case g_MOST_PLACES => k_is)
      (case y_value => rfl)
      (case r_value => k_is)
      (case u_value => rfl)
      (case v_value => kernel_rfl)
      (case h_value => kernel_rfl)
      (case z_abs => k_is)
      (case z_all => k_is)
      (case z_bool => k_is)
      (case z_enumerate => k_is)
      (case z_int => k_is)
      (case z_isinstance => k_is)
      (case z_len => k_is)
      (case z_list => k_is)
      (case z_max => k_is)
      (case z_min => k_is)
      (case z_range => k_is)
      (case z_sum => k_is)
      (case z_tuple => k_is)
      (case z_zip => k_is)
    obtain ⟨t, T⟩ := T
    have e0 := hmg.symm.trans T.m_law
    cases e0
    exact ⟨_, T.bl_law, fun base => My.ok_law T⟩
  case S => exact fun K H a ns hl hO hS => My.start_law hl hO hS
  case C => exact fun _ _ _ _ h => h

