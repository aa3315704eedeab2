import PyProof.Rows.All
import Wide.All
import OpenK.AllK
import Wide.FinOn
import Lean
import PyProof.EqAt
import PyProof.EqKinds
import PyProof.TupleCall
import PyProof.NeKinds
import PyProof.AutoIntG2
import PyProof.FactsAll.int_6
import PyProof.Rows.BootFacts.P1
import PyProof.ReprRoads
import PyProof.ListRange
import PyProof.TupleOfSeq
import PyProof.EnumMake
import PyProof.StrWalks
import PyProof.Rows.Range3
import PyProof.Rows.SetFrom
import KE.KIntText
import PyProof.FString
import PyProof.StrCalls2
import PyProof.StrOps2
import PyProof.SliceStr2
import PyProof.StrBlockI
import PyProof.StrBlockL
import PyProof.StrLaws
import OpenK.KOwn
import KE.KTryMore
import PyProof.ExcAttrAll.ValueError
import PyProof.NsDelKeeps
import PySem.Challenge.RW_unlikeplace_k54_cases_put_together
set_option Elab.async false
set_option linter.all false
set_option maxRecDepth 100000
namespace L2
open PySem PySem.Spec PyProof.Rows
abbrev Key := Sum Int Str
def keyIs : Key → Value → Bool
  | .inl k, v => Value.isInt k v
  | .inr x, v => Value.isStrOf x v
def keyH (w : World) : Key → Int
  | .inl k => hashInt k
  | .inr x => hashStr w x
theorem keyIs_shape : ∀ {k : Key} {v : Value}, keyIs k v = true → (∃ i t, k = Sum.inl i ∧ v = Value.int i t) ∨ (∃ x t, k = Sum.inr x ∧ v = Value.str x t)
  | .inl i, v, h => by
    obtain ⟨t, e⟩ := Value.isInt_shape (k := i) (v := v) h
    exact .inl ⟨i, t, rfl, e⟩
  | .inr x, v, h => by
    obtain ⟨t, e⟩ := Value.isStrOf_shape (x := x) (v := v) h
    exact .inr ⟨x, t, rfl, e⟩
theorem keyIs_str (x : Str) (t : Tok) : keyIs (.inr x) (.str x t) = true := by simp [keyIs, Value.isStrOf]
theorem key_ll (a b : Int) : decide ((Sum.inl a : Key) = Sum.inl b) = (a == b) := by
  by_cases e : a = b
  · subst e; simp
  · have h : ¬ (Sum.inl a : Key) = Sum.inl b := fun q => e (Sum.inl.inj q)
    rw [decide_eq_false h]
    exact (beq_eq_false_iff_ne.mpr e).symm
theorem key_rr (a b : Str) : decide ((Sum.inr a : Key) = Sum.inr b) = decide (a = b) := by
  by_cases e : a = b
  · subst e; simp
  · have h : ¬ (Sum.inr a : Key) = Sum.inr b := fun q => e (Sum.inr.inj q)
    rw [decide_eq_false h, decide_eq_false e]
theorem key_lr (a : Int) (b : Str) : decide ((Sum.inl a : Key) = Sum.inr b) = false := decide_eq_false (fun q => nomatch q)
theorem key_rl (a : Str) (b : Int) : decide ((Sum.inr a : Key) = Sum.inl b) = false := decide_eq_false (fun q => nomatch q)
def mixKind (prog : Program) (w : World) : PySem.KeyKind prog w Key where
  is := keyIs
  hash := keyH w
  inj := fun v a b ha hb => by
    rcases keyIs_shape ha with ⟨i, t, rfl, rfl⟩ | ⟨x, t, rfl, rfl⟩
    · rcases keyIs_shape hb with ⟨j, u, rfl, e⟩ | ⟨y, u, rfl, e⟩
      · injection e with e1 _; rw [e1]
      · exact nomatch e
    · rcases keyIs_shape hb with ⟨j, u, rfl, e⟩ | ⟨y, u, rfl, e⟩
      · exact nomatch e
      · injection e with e1 _; rw [e1]
  byValue := fun k v h => by
    rcases keyIs_shape h with ⟨i, t, rfl, rfl⟩ | ⟨x, t, rfl, rfl⟩ <;> rfl
  pyHash := fun hv h => by
    rcases keyIs_shape hv with ⟨i, t, rfl, rfl⟩ | ⟨x, t, rfl, rfl⟩
    · exact wpAny_pyHash_int h
    · exact wpAny_pyHash_str h
  eqBool := fun hu hv h => by
    rcases keyIs_shape hu with ⟨i, t, rfl, rfl⟩ | ⟨x, t, rfl, rfl⟩
    · rcases keyIs_shape hv with ⟨j, u, rfl, rfl⟩ | ⟨y, u, rfl, rfl⟩
      · rw [key_ll] at h; exact wpAny_eqBool_int h
      · rw [key_lr] at h; exact SeqAt.EqAt.int_str i t y u _ _ _ _ h
    · rcases keyIs_shape hv with ⟨j, u, rfl, rfl⟩ | ⟨y, u, rfl, rfl⟩
      · rw [key_rl] at h; exact SeqAt.EqAt.str_int x t j u _ _ _ _ h
      · rw [key_rr] at h; exact wpAny_eqBool_str h
  «strs» := fun k x t v h => by
    rcases keyIs_shape h with ⟨i, u, rfl, e⟩ | ⟨y, u, rfl, e⟩
    · exact nomatch e
    · injection e with e1 _
      subst e1
      cases v <;> rfl
theorem mixKind_is (prog : Program) (w : World) (k : Key) (v : Value) : (mixKind prog w).is k v = keyIs k v := rfl
theorem mixKind_str (prog : Program) (w : World) (x : Str) (t : Tok) : (mixKind prog w).is (.inr x) (.str x t) = true := keyIs_str x t
end L2
namespace L2
open PySem PySem.Spec PyProof.Rows
inductive V where
  | non | bl (b : Bool) | int (i : Int) | str (x : Str) | byt (b : Array UInt8) | flt (b : UInt64) | ref (a : Addr) | ty (n : String)
  deriving DecidableEq
def RelV : V → Value → Prop
  | .non, u => u = Value.none
  | .bl b, u => u = Value.bool b
  | .int i, u => ∃ t, u = Value.int i t
  | .str x, u => ∃ t, u = Value.str x t
  | .byt b, u => ∃ t, u = Value.bytes b t
  | .flt b, u => ∃ t, u = Value.float b t
  | .ref a, u => u = Value.ref a
  | .ty n, u => u = Value.type n
abbrev Vals : List V → List Value → Prop := Paired RelV
theorem Vals.length {xs : List V} {us : List Value} (r : Vals xs us) : xs.length = us.length := Paired.length r
theorem Vals.get : ∀ {xs : List V} {us : List Value} {i : Nat} {x : V}, Vals xs us → xs[i]? = some x → ∃ u, us[i]? = some u ∧ RelV x u
  | _, _, _, _, .nil, e => by simp at e
  | _, _, 0, _, .cons r _, e => by simp at e; subst e; exact ⟨_, rfl, r⟩
  | _, _, i + 1, x, .cons _ t, e => by
    obtain ⟨u, h1, h2⟩ := Vals.get (i := i) (x := x) t (by simpa using e)
    exact ⟨u, by simpa using h1, h2⟩
theorem Vals.set {x : V} {u : Value} (r : RelV x u) : ∀ {xs : List V} {us : List Value} (i : Nat), Vals xs us → Vals (xs.set i x) (us.set i u)
  | _, _, _, .nil => .nil
  | _, _, 0, .cons _ t => .cons r t
  | _, _, i + 1, .cons q t => .cons q (Vals.set r i t)
theorem Vals.append : ∀ {xs ys : List V} {us ws : List Value}, Vals xs us → Vals ys ws → Vals (xs ++ ys) (us ++ ws)
  | _, _, _, _, .nil, s => s
  | _, _, _, _, .cons r t, s => .cons r (Vals.append t s)
theorem Vals.take : ∀ {xs : List V} {us : List Value} (n : Nat), Vals xs us → Vals (xs.take n) (us.take n)
  | _, _, 0, _ => .nil
  | _, _, _ + 1, .nil => .nil
  | _, _, n + 1, .cons r t => .cons r (Vals.take n t)
theorem Vals.drop : ∀ {xs : List V} {us : List Value} (n : Nat), Vals xs us → Vals (xs.drop n) (us.drop n)
  | _, _, 0, r => r
  | _, _, _ + 1, .nil => .nil
  | _, _, n + 1, .cons _ t => Vals.drop n t
def RelO : Option V → Option Value → Prop
  | some v, some u => RelV v u
  | none, none => True
  | _, _ => False
def KV {κ : Type} : List (κ × V) → List (κ × Value) → Prop := Paired fun (p : κ × V) (q : κ × Value) => p.1 = q.1 ∧ RelV p.2 q.2
def kV : Key → V
  | .inl i => .int i
  | .inr x => .str x
inductive HO where
  | lst (xs : List V)
  | tup (xs : List V)
  | dK (kvs : List (Key × V)) | dT (kvs : List (List Key × V))
  | set (S : Int → Bool) (n : Nat)
  | ins (C dx : Addr) (fs : List (Str × V))
  | own (x : Addr)
  | xd (fs : List (Str × V))
  | met (f x : Addr)
  | rng (lo hi : Int)
  | frz (o : Obj) (u : HO)
  | tbl (ps : Array Value)
  | ext (φ : Heap → Prop)
abbrev Hp := Addr → Option HO
def upd (H : Hp) (a : Addr) (o : HO) : Hp := fun b => if b = a then some o else H b
theorem upd_same {H : Hp} {a : Addr} {o : HO} : upd H a o a = some o := by unfold upd; rw [if_pos rfl]
theorem upd_ne {H : Hp} {a b : Addr} {o : HO} (h : b ≠ a) : upd H a o b = H b := by unfold upd; rw [if_neg h]
theorem ne_of {H : Hp} {a b : Addr} {o u : HO} (h : H a = some o) (h' : H b = some u) (d : o ≠ u) : a ≠ b := by
  intro e; subst e; rw [h] at h'; exact d (Option.some.inj h')
theorem ne_of_none {H : Hp} {a b : Addr} {o : HO} (h : H a = some o) (h' : H b = none) : a ≠ b := by
  intro e; subst e; rw [h] at h'; cases h'
def TblOk (H : Hp) (a : Addr) (ps qs : Array Value) : Prop := TriplesOk qs.toList ∧ ∀ (pos : Pos) (cv : Value), codeAmong pos qs.toList = some cv →
  ∃ (c : Addr) (o : Obj) (vs : Array Value) (t : Tok) (q : Str), cv = .ref c ∧ H c = some (.frz o (.own a)) ∧ o.data = .fields vs ∧ vs[1]? = some (.str q t) ∧ ps[0]? = some (.str q 0)
theorem TblOk.mono {H H' : Hp} {a : Addr} {ps qs : Array Value} (x : TblOk H a ps qs) (k : ∀ b o u, H b = some (.frz o u) → H' b = some (.frz o u)) : TblOk H' a ps qs :=
  ⟨x.1, fun pos cv e => let ⟨c, o, vs, t, q, e1, e2, r⟩ := x.2 pos cv e; ⟨c, o, vs, t, q, e1, k _ _ _ e2, r⟩⟩
section
variable (P : Program) (w : World)
def ObjOk (H : Hp) (h : Heap) (a : Addr) : HO → Prop
  | .lst xs => xs.length ≤ sizeLine ∧ ∃ (its : List Value) (n : Nat), Vals xs its ∧ h.get? a = some { cls := .type "list", data := .seq its.toArray n }
  | .tup xs => xs.length ≤ sizeLine ∧ ∃ its : List Value, Vals xs its ∧ IsTup h a its.toArray
  | .dK kvs => kvs.length ≤ sizeLine ∧ (a == sysModules) = false ∧ ∃ vs, KV kvs vs ∧ h.DictOf (mixKind P w) a vs
  | .dT kvs => kvs.length ≤ sizeLine ∧ (a == sysModules) = false ∧ ∃ xs : List (List Key × Addr × Value),
      Paired (fun (p : List Key × V) (q : List Key × Addr × Value) => p.1 = q.1 ∧ H q.2.1 = some (.tup (p.1.map kV)) ∧ RelV p.2 q.2.2) kvs xs ∧
      ∃ o es ep, h.get? a = some o ∧ o.ExactDict ∧ o.data = .dict es ep ∧ es.toList = xs.map (entryOfKey (tupleKind (mixKind P w))) ∧ (xs.map (·.1)).Nodup
  | .set S n => h.SetOf (intKind P w) a S n
  | .ins C dx fs => H dx = some (.own a) ∧ fs.length ≤ 1000 ∧ dx ≠ a ∧ h.get? a = some (PySem.W.instObj C dx) ∧
      ∃ mA, h.Ns1 dx mA ∧ (∀ f, RelO (fs.lookup f) (mA f)) ∧ PySem.Within mA (fs.map (·.1))
  | .own _ => ∃ o, h.get? a = some o
  | .xd fs => ∃ mA, h.Ns1 a mA ∧ ∀ f, RelO (fs.lookup f) (mA f)
  | .rng lo hi => ∃ t u v, h.get? a = some { cls := .type "range", data := .fields #[.int lo t, .int hi u, .int 1 v] }
  | .frz o u => h.get? a = some o ∧ ObjOk H h a u
  | .tbl ps => ∃ qs : Array Value, h.get? a = some { cls := .none, data := .fields qs } ∧ TblOk H a ps qs
  | .met f x => h.get? a = some (PySem.W.methodObj (.ref f) (.ref x))
  | .ext φ => φ h ∧ (∃ o, h.get? a = some o) ∧ ∀ h1 h2 : Heap, φ h1 → (∀ o, h1.get? a = some o → h2.get? a = some o) → φ h2
def HOk (H : Hp) (h : Heap) : Prop := ∀ a o, H a = some o → ObjOk P w H h a o
end
section
variable {P : Program} {w : World} {H H' : Hp} {h h' : Heap} {a : Addr} {o : HO}
theorem ObjOk.lt (x : ObjOk P w H h a o) : a < h.objs.size := by
  cases o with
  | lst xs => obtain ⟨_, _, _, _, e⟩ := x; exact Heap.lt_size e
  | tup xs => obtain ⟨_, _, _, p⟩ := x; exact p.lt
  | dK kvs => obtain ⟨_, _, _, _, o, _, _, e, _⟩ := x; exact Heap.lt_size e
  | dT kvs => obtain ⟨_, _, _, _, o, _, _, e, _⟩ := x; exact Heap.lt_size e
  | set S n => obtain ⟨o, _, _, _, e, _⟩ := x; exact Heap.lt_size e
  | ins C dx fs => obtain ⟨_, _, _, e, _⟩ := x; exact Heap.lt_size e
  | own y => obtain ⟨_, e⟩ := x; exact Heap.lt_size e
  | xd fs => obtain ⟨_, ⟨_, _, _, e, _⟩, _⟩ := x; exact Heap.lt_size e
  | rng lo hi => obtain ⟨_, _, _, e⟩ := x; exact Heap.lt_size e
  | frz ob u => obtain ⟨e, _⟩ := x; exact Heap.lt_size e
  | tbl ps => obtain ⟨qs, e, _⟩ := x; exact Heap.lt_size e
  | met f y => exact Heap.lt_size (show h.get? a = some _ from x)
  | ext φ => obtain ⟨_, ⟨_, e⟩, _⟩ := x; exact Heap.lt_size e
theorem Paired.mapP {α β : Type} {F G : α → β → Prop} : ∀ {l₁ : List α} {l₂ : List β}, Paired F l₁ l₂ → (∀ a b, F a b → G a b) → Paired G l₁ l₂
  | _, _, .nil, _ => .nil
  | _, _, .cons r t, f => .cons (f _ _ r) (Paired.mapP t f)
theorem ObjOk.stay (x : ObjOk P w H h a o) (k : ∀ b u, (b = a ∨ H b = some (.own a)) → h.get? b = some u → h'.get? b = some u)
    (ho : ∀ b, H b = some (.own a) → H' b = some (.own a)) (ht : ∀ b xs, H b = some (.tup xs) → H' b = some (.tup xs)) (hf : ∀ b o u, H b = some (.frz o u) → H' b = some (.frz o u)) : ObjOk P w H' h' a o := by
  induction o with
  | lst xs => obtain ⟨z, its, n, r, e⟩ := x; exact ⟨z, its, n, r, k _ _ (.inl rfl) e⟩
  | tup xs => obtain ⟨z, its, r, ob, e, c⟩ := x; exact ⟨z, its, r, ob, k _ _ (.inl rfl) e, c⟩
  | dK kvs => obtain ⟨z, y, vs, r, ob, es, ep, e, c⟩ := x; exact ⟨z, y, vs, r, ob, es, ep, k _ _ (.inl rfl) e, c⟩
  | dT kvs =>
    obtain ⟨z, y, xs, r, ob, es, ep, e, c⟩ := x
    exact ⟨z, y, xs, Paired.mapP r fun p q z => ⟨z.1, ht _ _ z.2.1, z.2.2⟩, ob, es, ep, k _ _ (.inl rfl) e, c⟩
  | set S n => obtain ⟨ob, es, ep, t, e, c⟩ := x; exact ⟨ob, es, ep, t, k _ _ (.inl rfl) e, c⟩
  | ins C dx fs =>
    obtain ⟨d, z, ne, e, mA, ⟨od, es, ep, e2, c⟩, r⟩ := x
    exact ⟨ho _ d, z, ne, k _ _ (.inl rfl) e, mA, ⟨od, es, ep, k _ _ (.inr d) e2, c⟩, r⟩
  | own y => obtain ⟨ob, e⟩ := x; exact ⟨ob, k _ _ (.inl rfl) e⟩
  | xd fs => obtain ⟨mA, ⟨od, es, ep, e, c⟩, r⟩ := x; exact ⟨mA, ⟨od, es, ep, k _ _ (.inl rfl) e, c⟩, r⟩
  | rng lo hi => obtain ⟨t, u, v, e⟩ := x; exact ⟨t, u, v, k _ _ (.inl rfl) e⟩
  | frz ob u ih => obtain ⟨e, q⟩ := x; exact ⟨k _ _ (.inl rfl) e, ih q⟩
  | tbl ps => obtain ⟨qs, e, z⟩ := x; exact ⟨qs, k a _ (.inl rfl) e, z.mono hf⟩
  | met f y =>
    have e : h.get? a = some (PySem.W.methodObj (.ref f) (.ref y)) := x
    show h'.get? a = some (PySem.W.methodObj (.ref f) (.ref y))
    exact k a _ (.inl rfl) e
  | ext φ => obtain ⟨p, ⟨o, e⟩, st⟩ := x; exact ⟨st _ _ p fun o q => k _ _ (.inl rfl) q, ⟨o, k _ _ (.inl rfl) e⟩, st⟩
theorem HOk.lt (x : HOk P w H h) (e : H a = some o) : a < h.objs.size := (x a o e).lt
theorem HOk.fresh (x : HOk P w H h) (e : h.objs.size ≤ a) : H a = none := by
  cases q : H a with
  | none => rfl
  | some u => exact absurd (Nat.lt_of_lt_of_le (x.lt q) e) (Nat.lt_irrefl _)
theorem HOk.kept (x : HOk P w H h) (k : ∀ b u, h.get? b = some u → h'.get? b = some u) : HOk P w H h' := fun a o e =>
  (x a o e).stay (fun b u _ q => k b u q) (fun _ q => q) (fun _ _ q => q) fun _ _ _ q => q
theorem HOk.laid (x : HOk P w H h) (k : ∀ b u, h.get? b = some u → h'.get? b = some u) (hp : h.objs.size ≤ a) (new : ObjOk P w (upd H a o) h' a o) : HOk P w (upd H a o) h' := fun b u e => by
  have hn := x.fresh hp
  by_cases hb : b = a
  · subst hb; rw [upd_same] at e; cases e; exact new
  · rw [upd_ne hb] at e
    exact (x b u e).stay (fun c v _ q => k c v q) (fun c q => by rw [upd_ne (ne_of_none q hn)]; exact q) (fun c xs q => by rw [upd_ne (ne_of_none q hn)]; exact q) fun c o' u' q => by rw [upd_ne (ne_of_none q hn)]; exact q
end
def Rd (H : Hp) (a : Addr) (u : HO) : Prop := H a = some u ∨ ∃ o, H a = some (.frz o u)
theorem Rd.of {H : Hp} {a : Addr} {u : HO} (h : H a = some u) : Rd H a u := .inl h
theorem Rd.ok {P : Program} {w : World} {H : Hp} {h : Heap} {a : Addr} {u : HO} (r : Rd H a u) (x : HOk P w H h) : ObjOk P w H h a u := by
  rcases r with r | ⟨o, r⟩
  · exact x a u r
  · obtain ⟨_, q⟩ := x a _ r
    exact q
def Mut : Option HO → Prop
  | some (.lst _) => True
  | some (.dK _) => True
  | some (.dT _) => True
  | some (.set _ _) => True
  | some (.ins _ _ _) => True
  | some (.ext _) => True
  | _ => False
section
variable {P : Program} {w : World} {H : Hp} {h h' : Heap} {x e : Addr} {o' : HO}
theorem HOk.write (ok : HOk P w H h) (mu : Mut (H x)) (he : e = x ∨ H e = some (.own x)) (k : ∀ b u, b ≠ e → h.get? b = some u → h'.get? b = some u) (heo : ∃ u, h'.get? e = some u)
    (new : ObjOk P w (upd H x o') h' x o') : HOk P w (upd H x o') h' := fun b u q => by
  have nown : ∀ c y, H c = some (.own y) → c ≠ x := fun c y r z => by subst z; rw [r] at mu; exact mu
  have ntup : ∀ c xs, H c = some (.tup xs) → c ≠ x := fun c xs r z => by subst z; rw [r] at mu; exact mu
  by_cases hb : b = x
  · subst hb; rw [upd_same] at q; cases q; exact new
  · rw [upd_ne hb] at q
    by_cases hbe : b = e
    · have q' : H b = some (.own x) := by
        rcases he with z | z
        · exact absurd (hbe.trans z) hb
        · rw [hbe]; exact z
      rw [q] at q'; cases q'
      obtain ⟨v, hv⟩ := heo
      exact ⟨v, by rw [hbe]; exact hv⟩
    · refine (ok b u q).stay (fun c v hc r => k c v ?_ r) (fun c r => by rw [upd_ne (nown c b r)]; exact r) (fun c xs r => by rw [upd_ne (ntup c xs r)]; exact r) fun c o' u' r => by rw [upd_ne (fun z => by subst z; rw [r] at mu; exact mu)]; exact r
      rcases hc with rfl | hc
      · exact hbe
      · rintro rfl
        rcases he with z | z
        · exact nown c b hc z
        · rw [hc] at z; cases z; exact hb rfl
end
structure Un (fs ex : List Addr) (H H' : Hp) (h h' : Heap) : Prop where
  keep : ∀ b o, h.get? b = some o → H b = none → b ∉ fs → b ∉ ex → h'.get? b = some o
  slot : ∀ b o, h.get? b = some o → H b = none → b ∈ fs → b ∉ ex → ∃ sl, h'.get? b = some { o with slots := sl }
  free : ∀ b o, h.get? b = some o → H b = none → b ∉ ex → H' b = none
  there : ∀ b o, h.get? b = some o → b ∉ ex → ∃ o', h'.get? b = some o'
  tups : ∀ b xs, H b = some (.tup xs) → H' b = some (.tup xs)
  frzs : ∀ b o u, H b = some (.frz o u) → H' b = some (.frz o u)
  tbls : ∀ b ps, H b = some (.tbl ps) → ∃ more, H' b = some (.tbl (ps ++ more))
section
variable {fs fs' ex ex' : List Addr} {H H1 H2 : Hp} {h h1 h2 h' : Heap} {a x e : Addr} {o : HO}
theorem Un.any (u : Un fs ex H H1 h h1) {b : Addr} {ob : Obj} (q : h.get? b = some ob) (n : H b = none) (hx : b ∉ ex) : ∃ sl, h1.get? b = some { ob with slots := sl } := by
  by_cases hb : b ∈ fs
  · exact u.slot b ob q n hb hx
  · exact ⟨ob.slots, u.keep b ob q n hb hx⟩
theorem Un.trans (a : Un fs ex H H1 h h1) (b : Un fs ex H1 H2 h1 h2) : Un fs ex H H2 h h2 where
  keep := fun c ob q n hc hx => b.keep c ob (a.keep c ob q n hc hx) (a.free c ob q n hx) hc hx
  slot := fun c ob q n hc hx => by
    obtain ⟨sl, e1⟩ := a.slot c ob q n hc hx
    obtain ⟨sl', e2⟩ := b.slot c _ e1 (a.free c ob q n hx) hc hx
    exact ⟨sl', e2⟩
  free := fun c ob q n hx => by
    obtain ⟨o', e1⟩ := a.there c ob q hx
    exact b.free c o' e1 (a.free c ob q n hx) hx
  there := fun c ob q hx => by
    obtain ⟨o', e1⟩ := a.there c ob q hx
    exact b.there c o' e1 hx
  tups := fun c xs q => b.tups c xs (a.tups c xs q)
  frzs := fun c ob xs q => b.frzs c ob xs (a.frzs c ob xs q)
  tbls := fun c ps q => by
    obtain ⟨m1, e1⟩ := a.tbls c ps q
    obtain ⟨m2, e2⟩ := b.tbls c _ e1
    exact ⟨m1 ++ m2, by rw [e2, Array.append_assoc]⟩
theorem Un.kept (k : ∀ b u, h.get? b = some u → h'.get? b = some u) : Un fs ex H H h h' :=
  ⟨fun b ob q _ _ _ => k b ob q, fun b ob q _ _ _ => ⟨ob.slots, k b ob q⟩, fun _ _ _ n _ => n, fun b ob q _ => ⟨ob, k b ob q⟩, fun _ _ q => q, fun _ _ _ q => q, fun _ ps q => ⟨#[], by rw [q]; simp⟩⟩
theorem Un.refl : Un fs ex H H h h := Un.kept fun _ _ q => q
theorem Un.laid (k : ∀ b u, h.get? b = some u → h'.get? b = some u) (hp : h.objs.size ≤ a) (hn : H a = none) : Un fs ex H (upd H a o) h h' where
  keep := fun b u q _ _ _ => k b u q
  slot := fun b u q _ _ _ => ⟨u.slots, k b u q⟩
  free := fun b u q n _ => by rw [upd_ne (Nat.ne_of_lt (Nat.lt_of_lt_of_le (Heap.lt_size q) hp))]; exact n
  there := fun b u q _ => ⟨u, k b u q⟩
  tups := fun b xs q => by rw [upd_ne (ne_of_none q hn)]; exact q
  frzs := fun b u xs q => by rw [upd_ne (ne_of_none q hn)]; exact q
  tbls := fun b ps q => ⟨#[], by rw [upd_ne (ne_of_none q hn), q]; simp⟩
theorem Un.write (mu : Mut (H x)) (he : e = x ∨ H e = some (.own x)) (k : ∀ b u, b ≠ e → h.get? b = some u → h'.get? b = some u) (heo : ∃ u, h'.get? e = some u) : Un fs ex H (upd H x o) h h' := by
  have hx : ∀ b, H b = none → b ≠ x := fun b n z => by subst z; rw [n] at mu; exact mu
  have hb : ∀ b, H b = none → b ≠ e := fun b n z => by
    subst z
    rcases he with r | r
    · exact hx b n r
    · rw [n] at r; cases r
  have hm : ∀ b u, H b = some u → ¬ Mut (some u) → b ≠ x := fun b u q nm z => by subst z; rw [q] at mu; exact nm mu
  refine ⟨fun b u q n _ _ => k b u (hb b n) q, fun b u q n _ _ => ⟨u.slots, k b u (hb b n) q⟩, fun b u q n _ => by rw [upd_ne (hx b n)]; exact n, fun b u q _ => ?_,
    fun b xs q => by rw [upd_ne (hm b _ q fun z => z)]; exact q, fun b u xs q => by rw [upd_ne (hm b _ q fun z => z)]; exact q, fun b ps q => ⟨#[], by rw [upd_ne (hm b _ q fun z => z), q]; simp⟩⟩
  by_cases hbe : b = e
  · subst hbe; exact heo
  · exact ⟨u, k b u hbe q⟩
theorem Un.mono (u : Un fs ex H H1 h h1) (hs : ∀ b ∈ fs, b ∈ fs') (hx : ∀ b ∈ ex, b ∈ ex') : Un fs' ex' H H1 h h1 :=
  ⟨fun b ob q n hb he => u.keep b ob q n (fun z => hb (hs b z)) fun z => he (hx b z), fun _ _ q n _ he => u.any q n fun z => he (hx _ z), fun b ob q n he => u.free b ob q n fun z => he (hx b z), fun b ob q he => u.there b ob q fun z => he (hx b z), u.tups, u.frzs, u.tbls⟩
end
def trk (h : Heap) (H : Hp) : List Addr := (List.range h.objs.size).filter fun a => (H a).isSome
def hidT (h : Heap) (H : Hp) : Heap := PySem.W.hideAll h (trk h H)
theorem hidT_size (h : Heap) (H : Hp) : (hidT h H).objs.size = h.objs.size := PySem.W.hideAll_size _ _
theorem hidT_get {h : Heap} {H : Hp} {b : Addr} {o : Obj} (e : h.get? b = some o) (n : H b = none) : (hidT h H).get? b = some o :=
  PySem.W.hideAll_get _ e fun hm => by
    have q : (H b).isSome = true := (List.mem_filter.mp hm).2
    rw [n] at q; simp at q
theorem of_hidT {h : Heap} {H : Hp} {b : Addr} {o : Obj} (e : (hidT h H).get? b = some o) : h.get? b = some o ∧ H b = none := by
  have e' : h.get? b = some o := PySem.W.of_hideAll (trk h H) e
  refine ⟨e', ?_⟩
  cases q : H b with
  | none => rfl
  | some x =>
    have hm : b ∈ trk h H := List.mem_filter.mpr ⟨List.mem_range.mpr (Heap.lt_size e'), by simp [q]⟩
    have z : (hidT h H).get? b = none := PySem.W.hideAll_none (trk h H) hm
    rw [z] at e; cases e
def allNews (g h : Heap) (L : Addr) : List (Addr × Obj) := (List.range h.objs.size).filterMap fun a => if a = L ∨ (g.get? a).isSome = true then none else (h.get? a).map fun o => (a, o)
def rest (g h : Heap) (L d : Addr) : List (Addr × Obj) := (allNews g h L).filter fun p => decide (p.1 ≠ d)
end L2
namespace L2
open PySem PySem.Spec PyProof.Rows
def tabL (K : PySem.W.Frag) : List (Str × Addr × Addr) := match K.lookup mainGlobals with
  | some ⟨_, _, .dict es _, _⟩ => es.toList.filterMap fun e => match e.key with
    | .str x _ => (PySem.W.tabIn K x).map fun q => (x, q)
    | _ => none
  | _ => []
def TabT (K : PySem.W.Frag) (H : Hp) : Prop := ∀ q ∈ tabL K, ∃ ps, H q.2.2 = some (.tbl ps) ∧ ps[0]? = some (.str (q.1 ++ ".<locals>." ++ "<lambda>") 0)
theorem TabT.mono {K : PySem.W.Frag} {H H' : Hp} (x : TabT K H) (k : ∀ b ps, H b = some (.tbl ps) → ∃ more, H' b = some (.tbl (ps ++ more))) : TabT K H' := fun q hq => by
  obtain ⟨ps, e, z⟩ := x q hq
  obtain ⟨more, e'⟩ := k _ _ e
  refine ⟨_, e', ?_⟩
  have hz : 0 < ps.size := by
    rcases Nat.eq_zero_or_pos ps.size with h | h
    · rw [Array.getElem?_eq_none (by omega)] at z; cases z
    · exact h
  rw [Array.getElem?_append_left hz]
  exact z
structure Mod (K : PySem.W.Frag) (mg : Str → Option Value) (base : Heap) : Prop where
  kin : K.In base
  glob : base.Ns mainGlobals mg
  blt : ∃ mb, base.Ns builtinsNs mb ∧ ∀ x : Str, x ≠ "__name__" → mb x = bootBuiltins x
  nolimit : base.NoLimit
  bm : ∃ bm ob, mg "__builtins__" = some (.ref bm) ∧ bm ≠ builtinsNs ∧ base.get? bm = some ob ∧ ob.cls = .type "module" ∧ ob.dict = some builtinsNs ∧ ob.data = .plain
structure Cx where
  prog : Program
  w : World
  K : PySem.W.Frag
  mg : Str → Option Value
  base : Heap
  A : Around
  N : List Str
  s₀ : Shared
  H₀ : Hp
  env : Env
  outer : List Env
  stack : List Env
  ex : List Addr
  fn : Str → Bool
  calm : Bool
  pn : List (Addr × Obj)
  xe : Value → Shared → Prop
def frs (l : List Env) : List Addr := l.filterMap (·.frame)
abbrev Cx.fs (X : Cx) : List Addr := frs X.outer
def Vis (sc : Scope) (x : Str) : Prop := sc.names.lookup x = some .local ∨ sc.names.lookup x = some .cell ∨ sc.names.lookup x = some .free
def Loc (sc : Scope) (x : Str) : Prop := sc.names.lookup x = some .local ∨ sc.names.lookup x = some .cell
def Look (env : Env) (h : Heap) (m : Str → Option Value) (x : Str) (u : Value) : Prop :=
  (env.kindOf x = some .local ∧ m x = some u) ∨ ((env.kindOf x = some .cell ∨ env.kindOf x = some .free) ∧ ∃ c, env.cells.lookup x = some c ∧ h.IsCell c (some u))
structure Cx.Ok (X : Cx) : Prop where
  mod : Mod X.K X.mg X.base
  kind : X.env.scope.kind = .function
  glob : X.env.globals = mainGlobals
  blt : X.env.builtins = builtinsNs
  above : X.s₀.heap.objs.size ≤ X.env.locals
  inj : ∀ x y c, X.env.cells.lookup x = some c → X.env.cells.lookup y = some c → x = y
  has : ∀ x, (X.env.kindOf x = some .cell ∨ X.env.kindOf x = some .free) → ∃ c, X.env.cells.lookup x = some c
  cab : ∀ x c, X.fn x = true → X.env.cells.lookup x = some c → X.s₀.heap.objs.size ≤ c
  hd : X.calm = true → X.A.handled = none
  frames : X.A.frames = some X.stack
  stk : X.stack = X.outer ∨ (X.stack = X.env :: X.outer ∧ X.env.frame = some X.env.locals)
  exf : ∀ b ∈ X.ex, b ≠ X.env.locals ∧ ∀ x c, X.env.cells.lookup x = some c → c ≠ b
  bs : ∀ b o, X.base.get? b = some o → X.s₀.heap.get? b = some o ∧ X.H₀ b = none
  bsz : X.base.objs.size ≤ X.s₀.heap.objs.size
  noex : ∀ b o, X.base.get? b = some o → b ∉ X.ex
  exfs : ∀ b ∈ X.ex, b ∉ X.fs
  funs : X.s₀.heap.FunFrames X.base X.outer
  frf : ∀ b ∈ X.fs, X.H₀ b = none
  tt : TabT X.K X.H₀
structure Inv (X : Cx) (pins : List (Addr × Obj)) (σ : List (Option V)) (H : Hp) (s : Shared) : Prop where
  ok : X.Ok
  os : s.os = X.s₀.os
  bare : AllBare s.gens
  base : Un X.fs X.ex X.H₀ H X.s₀.heap s.heap
  loc : ∃ m, s.heap.Ns X.env.locals m ∧ ∀ (i : Nat) (x : Str) (v : V), X.N[i]? = some x → σ[i]? = some (some v) → Vis X.env.scope x → ∃ u, RelV v u ∧ Look X.env s.heap m x u
  cell : ∀ x c, X.env.cells.lookup x = some c → ∃ v, s.heap.IsCell c v
  free : H X.env.locals = none
  freeC : ∀ x c, X.env.cells.lookup x = some c → H c = none
  pin : ∀ p ∈ X.pn ++ pins, s.heap.get? p.1 = some p.2 ∧ H p.1 = none ∧ p.1 ≠ X.env.locals ∧ p.1 ∉ X.fs ∧ ∀ v, p.2.data ≠ .cell v
  hok : HOk X.prog X.w H s.heap
  len : σ.length = X.N.length
section
variable {X : Cx} {pins : List (Addr × Obj)} {σ : List (Option V)} {H H' : Hp} {s : Shared} {h' : Heap}
theorem Cx.Ok.nofr (ok : X.Ok) {b : Addr} {o : Obj} (e : X.base.get? b = some o) : b ∉ X.fs := fun hb => by
  have := (ok.funs.mem hb).1
  rw [e] at this; cases this
theorem Inv.bs (I : Inv X pins σ H s) : ∀ b o, X.base.get? b = some o → s.heap.get? b = some o ∧ H b = none := fun b o e =>
  ⟨I.base.keep b o (I.ok.bs b o e).1 (I.ok.bs b o e).2 (I.ok.nofr e) (I.ok.noex b o e), I.base.free b o (I.ok.bs b o e).1 (I.ok.bs b o e).2 (I.ok.noex b o e)⟩
theorem Inv.bk (I : Inv X pins σ H s) : ∀ b o, X.base.get? b = some o → s.heap.get? b = some o := fun b o e => (I.bs b o e).1
theorem Inv.mod (I : Inv X pins σ H s) : Mod X.K X.mg X.base := I.ok.mod
theorem Inv.kIn (I : Inv X pins σ H s) : X.K.In s.heap := I.ok.mod.kin.keeps I.bk
theorem Inv.nolimit (I : Inv X pins σ H s) : s.heap.NoLimit := I.ok.mod.nolimit.keeps I.bk
theorem Inv.fr (I : Inv X pins σ H s) : ∃ m, Fr X.base X.env.locals s.heap m :=
  let ⟨m, hn, _⟩ := I.loc
  ⟨m, hn, I.bk, Nat.le_trans I.ok.bsz I.ok.above⟩
theorem Inv.lt (I : Inv X pins σ H s) : X.env.locals < s.heap.objs.size := let ⟨_, hn, _⟩ := I.loc; hn.lt
theorem Inv.sz (I : Inv X pins σ H s) : X.s₀.heap.objs.size ≤ s.heap.objs.size := Nat.le_trans I.ok.above (Nat.le_of_lt I.lt)
theorem Inv.nofs (I : Inv X pins σ H s) {a : Addr} (h : s.heap.objs.size ≤ a) : a ∉ X.fs := fun hb => by
  obtain ⟨_, o, ho, _⟩ := I.ok.funs.mem hb
  exact absurd (Nat.lt_of_lt_of_le (Heap.lt_size ho) (Nat.le_trans I.sz h)) (Nat.lt_irrefl _)
theorem Inv.cne (I : Inv X pins σ H s) : ∀ x c, X.env.cells.lookup x = some c → c ≠ X.env.locals := fun x c e z => by
  obtain ⟨v, o, ho, hd⟩ := I.cell x c e
  obtain ⟨m, ⟨o', es, ep, ho', hd', _⟩, _⟩ := I.loc
  rw [z, ho'] at ho; cases ho; rw [hd'] at hd; cases hd
theorem Inv.funs (I : Inv X pins σ H s) : s.heap.FunFrames X.base X.outer := by
  have all : ∀ (l : List Env), (∀ b ∈ frs l, b ∈ X.fs) → X.s₀.heap.FunFrames X.base l → s.heap.FunFrames X.base l := by
    intro l
    induction l with
    | nil => intro _ _; trivial
    | cons env r ih =>
      intro hs hl
      obtain ⟨hk, ⟨L, o, hf, hn, ho, hd⟩, hr⟩ := hl
      have hL : L ∈ X.fs := hs L (by unfold frs; rw [List.filterMap_cons, hf]; exact List.mem_cons_self)
      obtain ⟨sl, e⟩ := I.base.slot L o ho (I.ok.frf L hL) hL fun z => I.ok.exfs L z hL
      exact ⟨hk, ⟨L, _, hf, hn, e, hd⟩, ih (fun b hb => hs b (by unfold frs; rw [List.filterMap_cons, hf]; exact List.mem_cons_of_mem _ hb)) hr⟩
  exact all X.outer (fun _ hb => hb) I.ok.funs
theorem Inv.stack (I : Inv X pins σ H s) : s.heap.FunFrames X.base X.stack := by
  rcases I.ok.stk with e | ⟨e, hf⟩
  · rw [e]; exact I.funs
  · rw [e]
    obtain ⟨m, hn, _⟩ := I.loc
    refine .cons (by rw [I.ok.kind]; decide) hf hn ?_ I.funs
    exact Heap.get?_none_of_le (Nat.le_trans I.ok.bsz I.ok.above)
theorem Inv.stkSub (I : Inv X pins σ H s) : ∀ b ∈ frs X.stack, b ∈ X.env.locals :: X.fs := fun b hb => by
  rcases I.ok.stk with e | ⟨e, hf⟩
  · rw [e] at hb; exact List.mem_cons_of_mem _ hb
  · rw [e] at hb
    unfold frs at hb
    rw [List.filterMap_cons, hf] at hb
    exact hb
theorem Inv.stkFree (I : Inv X pins σ H s) : ∀ b ∈ frs X.stack, H b = none := fun b hb => by
  rcases List.mem_cons.mp (I.stkSub b hb) with e | hb
  · rw [e]; exact I.free
  · obtain ⟨_, o, ho, _⟩ := I.ok.funs.mem hb
    exact I.base.free b o ho (I.ok.frf b hb) fun z => I.ok.exfs b z hb
theorem Inv.step {g' : Array GenState} {t' : Nat} {d' : Drawn} {ch : List Addr} (I : Inv X pins σ H s)
    (hch : ∀ b ∈ ch, (b ∈ X.ex ∨ X.s₀.heap.objs.size ≤ b) ∧ b ≠ X.env.locals ∧ (∀ x c, X.env.cells.lookup x = some c → c ≠ b) ∧ ∀ p ∈ X.pn ++ pins, p.1 ≠ b)
    (keep : ∀ b o, b ≠ X.env.locals → b ∉ X.fs → b ∉ ch → s.heap.get? b = some o → H b = none → h'.get? b = some o)
    (slot : ∀ b o, b ≠ X.env.locals → b ∈ X.fs → b ∉ ch → s.heap.get? b = some o → H b = none → ∃ sl, h'.get? b = some { o with slots := sl }) (free : ∀ b o, b ∉ ch → s.heap.get? b = some o → H b = none → H' b = none)
    (there : ∀ b o, b ∉ ch → s.heap.get? b = some o → ∃ o', h'.get? b = some o')
    (tups : ∀ b xs, H b = some (.tup xs) → H' b = some (.tup xs)) (frzs : ∀ b o u, H b = some (.frz o u) → H' b = some (.frz o u)) (tbls : ∀ b ps, H b = some (.tbl ps) → ∃ more, H' b = some (.tbl (ps ++ more)))
    (ns : ∀ m, s.heap.Ns X.env.locals m → h'.Ns X.env.locals m) (hok : HOk X.prog X.w H' h') (hg : AllBare g') :
    Inv X pins σ H' { s with heap := h', gens := g', drawn := d', toks := t' } := by
  have neL : ∀ b o, X.s₀.heap.get? b = some o → b ≠ X.env.locals := fun b o e => Nat.ne_of_lt (Nat.lt_of_lt_of_le (Heap.lt_size e) I.ok.above)
  have neC : ∀ b o, X.s₀.heap.get? b = some o → b ∉ X.ex → b ∉ ch := fun b o e hx hb => by
    rcases (hch b hb).1 with z | z
    · exact hx z
    · exact absurd (Nat.lt_of_lt_of_le (Heap.lt_size e) z) (Nat.lt_irrefl _)
  have cellK : ∀ x c, X.env.cells.lookup x = some c → ∀ v, s.heap.IsCell c v → h'.IsCell c v := fun x c e v ⟨o, ho, hd⟩ => by
    have nch : c ∉ ch := fun z => (hch c z).2.2.1 x c e rfl
    by_cases hc : c ∈ X.fs
    · obtain ⟨sl, q⟩ := slot c o (I.cne x c e) hc nch ho (I.freeC x c e)
      exact ⟨_, q, hd⟩
    · exact ⟨o, keep c o (I.cne x c e) hc nch ho (I.freeC x c e), hd⟩
  refine ⟨I.ok, I.os, hg, ⟨fun b o e n hb hx => ?_, fun b o e n hb hx => ?_, fun b o e n hx => ?_, fun b o e hx => ?_, fun b xs e => tups b xs (I.base.tups b xs e), fun b o xs e => frzs b o xs (I.base.frzs b o xs e), fun b ps e => ?_⟩, ?_, fun x c e => ?_, ?_, fun x c e => ?_, fun p hp => ?_, hok, I.len⟩
  · exact keep b o (neL b o e) hb (neC b o e hx) (I.base.keep b o e n hb hx) (I.base.free b o e n hx)
  · obtain ⟨sl, e1⟩ := I.base.slot b o e n hb hx
    obtain ⟨sl', e2⟩ := slot b _ (neL b o e) hb (neC b o e hx) e1 (I.base.free b o e n hx)
    exact ⟨sl', e2⟩
  · obtain ⟨o', e1⟩ := I.base.there b o e hx
    exact free b o' (neC b o e hx) e1 (I.base.free b o e n hx)
  · obtain ⟨o', e1⟩ := I.base.there b o e hx
    exact there b o' (neC b o e hx) e1
  · obtain ⟨m1, e1⟩ := I.base.tbls b ps e
    obtain ⟨m2, e2⟩ := tbls b _ e1
    exact ⟨m1 ++ m2, by rw [e2, Array.append_assoc]⟩
  · obtain ⟨m, hn, hl⟩ := I.loc
    refine ⟨m, ns m hn, fun i x v e1 e2 e3 => ?_⟩
    obtain ⟨u, r, l⟩ := hl i x v e1 e2 e3
    refine ⟨u, r, ?_⟩
    rcases l with l | ⟨k, c, e, z⟩
    · exact .inl l
    · exact .inr ⟨k, c, e, cellK x c e _ z⟩
  · obtain ⟨v, z⟩ := I.cell x c e
    exact ⟨v, cellK x c e v z⟩
  · obtain ⟨m, ⟨o, _, _, ho, _⟩, _⟩ := I.loc
    exact free _ o (fun z => (hch _ z).2.1 rfl) ho I.free
  · obtain ⟨v, o, ho, hd⟩ := I.cell x c e
    exact free c o (fun z => (hch c z).2.2.1 x c e rfl) ho (I.freeC x c e)
  · obtain ⟨e, n, ne, nf, d⟩ := I.pin p hp
    have nch : p.1 ∉ ch := fun z => (hch p.1 z).2.2.2 p hp rfl
    exact ⟨keep p.1 p.2 ne nf nch e n, free p.1 p.2 nch e n, ne, nf, d⟩
theorem Inv.un {t' : Nat} (I : Inv X pins σ H s) (u : Un X.fs [] H H' s.heap h') (hok : HOk X.prog X.w H' h') : Inv X pins σ H' { s with heap := h', toks := t' } := by
  obtain ⟨m, ⟨o, es, ep, ho, r⟩, _⟩ := id I.loc
  obtain ⟨sl, hL⟩ := u.any ho I.free (by simp)
  exact I.step (g' := s.gens) (d' := s.drawn) (ch := []) (fun _ z => nomatch z) (fun b o _ hb _ e n => u.keep b o e n hb (by simp)) (fun b o _ hb _ e n => u.slot b o e n hb (by simp)) (fun b o _ e n => u.free b o e n (by simp)) (fun b o _ e => u.there b o e (by simp)) u.tups u.frzs u.tbls (fun m' hm => by
    obtain ⟨o', es', ep', ho', r'⟩ := hm
    rw [ho] at ho'; cases ho'
    exact ⟨_, es', ep', hL, r'⟩) hok I.bare
theorem Inv.call {g' : Array GenState} {t' : Nat} {d' : Drawn} {ch : List Addr} (I : Inv X pins σ H s) (u : Un (frs X.stack) ch H H' s.heap h') (hok : HOk X.prog X.w H' h') (hg : AllBare g')
    (hch : ∀ b ∈ ch, (b ∈ X.ex ∨ X.s₀.heap.objs.size ≤ b) ∧ b ≠ X.env.locals ∧ (∀ x c, X.env.cells.lookup x = some c → c ≠ b) ∧ ∀ p ∈ X.pn ++ pins, p.1 ≠ b) :
    Inv X pins σ H' { s with heap := h', gens := g', drawn := d', toks := t' } := by
  obtain ⟨m, ⟨o, es, ep, ho, r⟩, _⟩ := id I.loc
  obtain ⟨sl, hL⟩ := u.any ho I.free fun z => (hch _ z).2.1 rfl
  exact I.step (ch := ch) hch (fun b o hL hb hc e n => u.keep b o e n (fun z => (List.mem_cons.mp (I.stkSub b z)).elim hL hb) hc) (fun b o _ _ hc e n => u.any e n hc) (fun b o hc e n => u.free b o e n hc) (fun b o hc e => u.there b o e hc) u.tups u.frzs u.tbls (fun m' hm => by
    obtain ⟨o', es', ep', ho', r'⟩ := hm
    rw [ho] at ho'; cases ho'
    exact ⟨_, es', ep', hL, r'⟩) hok hg
theorem Inv.turned {t' : Nat} {it : Addr} (I : Inv X pins σ H s) (k : ∀ b o, b ≠ it → s.heap.get? b = some o → h'.get? b = some o) (hn : H it = none) (hL : it ≠ X.env.locals)
    (h1 : it ∈ X.ex ∨ X.s₀.heap.objs.size ≤ it) (h2 : ∀ x c, X.env.cells.lookup x = some c → c ≠ it) (h3 : ∀ p ∈ X.pn ++ pins, p.1 ≠ it) : Inv X pins σ H { s with heap := h', toks := t' } := by
  have nit : ∀ b u, H b = some u → b ≠ it := fun b u e z => by rw [z, hn] at e; cases e
  refine I.step (g' := s.gens) (d' := s.drawn) (ch := [it]) (fun b hb => ?_) (fun b o _ _ hc e _ => k b o (fun z => hc (by simp [z])) e) (fun b o _ _ hc e _ => ⟨o.slots, k b o (fun z => hc (by simp [z])) e⟩) (fun _ _ _ _ n => n)
    (fun b o hc e => ⟨o, k b o (fun z => hc (by simp [z])) e⟩) (fun _ _ e => e) (fun _ _ _ e => e) (fun b ps e => ⟨#[], by rw [e]; simp⟩) (fun m hm => ?_) (fun b u e => ?_) I.bare
  · have e : b = it := by simpa using hb
    subst e
    exact ⟨h1, hL, h2, h3⟩
  · obtain ⟨o, es, ep, ho, r⟩ := hm
    exact ⟨o, es, ep, k _ o (Ne.symm hL) ho, r⟩
  · refine (I.hok b u e).stay (fun c v hc q => k c v ?_ q) (fun _ q => q) (fun _ _ q => q) fun _ _ _ q => q
    rcases hc with z | z
    · rw [z]; exact nit b u e
    · exact nit c _ z
theorem Inv.tok (I : Inv X pins σ H s) (t : Nat) : Inv X pins σ H { s with toks := t } := I.un (h' := s.heap) (t' := t) Un.refl I.hok
theorem Inv.kept {t' : Nat} (I : Inv X pins σ H s) (k : ∀ b u, s.heap.get? b = some u → h'.get? b = some u) : Inv X pins σ H { s with heap := h', toks := t' } := I.un (Un.kept k) (I.hok.kept k)
theorem Inv.laid {a : Addr} {o : HO} {t' : Nat} (I : Inv X pins σ H s) (k : ∀ b u, s.heap.get? b = some u → h'.get? b = some u) (hp : s.heap.objs.size ≤ a) (new : ObjOk X.prog X.w (upd H a o) h' a o) :
    Inv X pins σ (upd H a o) { s with heap := h', toks := t' } := I.un (Un.laid k hp (I.hok.fresh hp)) (I.hok.laid k hp new)
theorem Inv.write {x e : Addr} {o : HO} {t' : Nat} (I : Inv X pins σ H s) (mu : Mut (H x)) (he : e = x ∨ H e = some (.own x)) (k : ∀ b u, b ≠ e → s.heap.get? b = some u → h'.get? b = some u) (heo : ∃ u, h'.get? e = some u)
    (new : ObjOk X.prog X.w (upd H x o) h' x o) : Inv X pins σ (upd H x o) { s with heap := h', toks := t' } := I.un (Un.write mu he k heo) (I.hok.write mu he k heo new)
theorem Inv.pins_of {pins' : List (Addr × Obj)} (I : Inv X pins σ H s) (h : ∀ p ∈ pins', s.heap.get? p.1 = some p.2 ∧ H p.1 = none ∧ p.1 ≠ X.env.locals ∧ p.1 ∉ X.fs ∧ ∀ v, p.2.data ≠ .cell v) : Inv X pins' σ H s :=
  ⟨I.ok, I.os, I.bare, I.base, I.loc, I.cell, I.free, I.freeC, fun p hp => (List.mem_append.mp hp).elim (fun z => I.pin p (List.mem_append_left _ z)) (h p), I.hok, I.len⟩
theorem nodup_ix {N : List Str} (hN : N.Nodup) {i j : Nat} {x : Str} (a : N[i]? = some x) (b : N[j]? = some x) : i = j := by
  obtain ⟨h1, e1⟩ := List.getElem?_eq_some_iff.mp a
  obtain ⟨h2, e2⟩ := List.getElem?_eq_some_iff.mp b
  exact (List.getElem_inj hN).mp (e1.trans e2.symm)
theorem store_ok2 {M : Model} {A : Around} {E : Value → Shared → Prop} {i : Nat} {x : Str} {v : V} {u : Value} {Q : Unit → Shared → Prop} (I : Inv X pins σ H s) (hN : X.N.Nodup) (hi : X.N[i]? = some x) (hx : Loc X.env.scope x) (r : RelV v u)
    (h : ∀ s', Inv X pins (σ.set i (some v)) H s' → (∃ a, Heap.SameBut a s.heap s'.heap ∧ (a = X.env.locals ∨ X.env.cells.lookup x = some a)) → Q () s') (hf : X.fn x = true ∨ X.env.scope.names.lookup x = some .local := by first | exact .inl rfl | exact .inr rfl | assumption) : wpAny M A (storeName X.env x u) Q E s := by
  obtain ⟨m, hn, hl⟩ := id I.loc
  have hcls : (X.env.scope.kind == .class || (X.env.scope.kind == .module && X.env.locals != X.env.globals)) = false := by rw [I.ok.kind]; rfl
  have hiσ : i < σ.length := by rw [I.len]; exact (List.getElem?_eq_some_iff.mp hi).1
  have cne := I.cne
  have tracked : ∀ {a : Addr} {h' : Heap}, (∃ o, s.heap.get? a = some o ∧ H a = none) → Heap.SameBut a s.heap h' → HOk X.prog X.w H h' := fun {a h'} ha hs b ob e => by
    obtain ⟨_, _, hfree⟩ := ha
    refine (I.hok b ob e).stay (fun c w' hc q => (hs.2 c ?_).trans q) (fun _ q => q) (fun _ _ q => q) fun _ _ _ q => q
    rintro rfl
    rcases hc with rfl | hc
    · rw [hfree] at e; cases e
    · rw [hfree] at hc; cases hc
  rcases hx with hk | hk
  · refine wpAny_storeName_local hk hn (fun h' hn' hs => ?_) hcls
    obtain ⟨oL, _, _, hoL, _⟩ := id hn
    refine h _ ⟨I.ok, I.os, I.bare, ⟨fun b o e n hb hx => ?_, fun b o e n hb hx => ?_, I.base.free, fun b o e hx => ?_, I.base.tups, I.base.frzs, I.base.tbls⟩, ⟨_, hn', fun j y v' e1 e2 e3 => ?_⟩, fun y c e => ?_, I.free, I.freeC, fun p hp => ?_, tracked ⟨oL, hoL, I.free⟩ hs, by simpa using I.len⟩ ⟨_, hs, .inl rfl⟩
    · exact (hs.2 b (Nat.ne_of_lt (Nat.lt_of_lt_of_le (Heap.lt_size e) I.ok.above))).trans (I.base.keep b o e n hb hx)
    · obtain ⟨sl, e1⟩ := I.base.slot b o e n hb hx
      exact ⟨sl, (hs.2 b (Nat.ne_of_lt (Nat.lt_of_lt_of_le (Heap.lt_size e) I.ok.above))).trans e1⟩
    · obtain ⟨o', e1⟩ := I.base.there b o e hx
      exact ⟨o', (hs.2 b (Nat.ne_of_lt (Nat.lt_of_lt_of_le (Heap.lt_size e) I.ok.above))).trans e1⟩
    · by_cases hj : j = i
      · subst hj
        rw [hi] at e1; cases e1
        rw [List.getElem?_set_self hiσ] at e2
        cases e2
        exact ⟨u, r, .inl ⟨hk, by simp⟩⟩
      · rw [List.getElem?_set_ne (Ne.symm hj)] at e2
        obtain ⟨u', r', q⟩ := hl j y v' e1 e2 e3
        refine ⟨u', r', ?_⟩
        rcases q with ⟨k, e⟩ | ⟨k, c, e, z⟩
        · refine .inl ⟨k, ?_⟩
          have : y ≠ x := fun e => hj (nodup_ix hN e1 (e ▸ hi))
          simp [this, e]
        · exact .inr ⟨k, c, e, z.sameBut hs (cne y c e)⟩
    · obtain ⟨w', z⟩ := I.cell y c e
      exact ⟨w', z.sameBut hs (cne y c e)⟩
    · obtain ⟨e, n, ne, nf, d⟩ := I.pin p hp
      exact ⟨(hs.2 p.1 ne).trans e, n, ne, nf, d⟩
  · have hfn : X.fn x = true := by
      rcases hf with z | z
      · exact z
      · rw [z] at hk; cases hk
    obtain ⟨c, hc⟩ := I.ok.has x (.inl hk)
    obtain ⟨w', z⟩ := I.cell x c hc
    refine wpAny_storeName_cell I.ok.kind hk hc z (fun h' hc' hs => ?_)
    obtain ⟨oc, hoc, hocd⟩ := id z
    refine h { s with heap := h' } ⟨I.ok, I.os, I.bare, ⟨fun b o e n hb hx => ?_, fun b o e n hb hx => ?_, I.base.free, fun b o e hx => ?_, I.base.tups, I.base.frzs, I.base.tbls⟩, ⟨m, hn.sameBut hs (Ne.symm (cne x c hc)), fun j y v' e1 e2 e3 => ?_⟩, fun y c' e => ?_, I.free, I.freeC, fun p hp => ?_, tracked ⟨oc, hoc, I.freeC x c hc⟩ hs, by simpa using I.len⟩ ⟨c, hs, .inr hc⟩
    · exact (hs.2 b (Nat.ne_of_lt (Nat.lt_of_lt_of_le (Heap.lt_size e) (I.ok.cab x c hfn hc)))).trans (I.base.keep b o e n hb hx)
    · obtain ⟨sl, e1⟩ := I.base.slot b o e n hb hx
      exact ⟨sl, (hs.2 b (Nat.ne_of_lt (Nat.lt_of_lt_of_le (Heap.lt_size e) (I.ok.cab x c hfn hc)))).trans e1⟩
    · obtain ⟨o', e1⟩ := I.base.there b o e hx
      exact ⟨o', (hs.2 b (Nat.ne_of_lt (Nat.lt_of_lt_of_le (Heap.lt_size e) (I.ok.cab x c hfn hc)))).trans e1⟩
    · by_cases hj : j = i
      · subst hj
        rw [hi] at e1; cases e1
        rw [List.getElem?_set_self hiσ] at e2
        cases e2
        exact ⟨u, r, .inr ⟨.inl hk, c, hc, hc'⟩⟩
      · rw [List.getElem?_set_ne (Ne.symm hj)] at e2
        obtain ⟨u', r', q⟩ := hl j y v' e1 e2 e3
        refine ⟨u', r', ?_⟩
        rcases q with q | ⟨k, c', e, z'⟩
        · exact .inl q
        · refine .inr ⟨k, c', e, z'.sameBut hs ?_⟩
          rintro rfl
          exact hj (nodup_ix hN e1 (I.ok.inj _ _ _ e hc ▸ hi))
    · by_cases hcc : c' = c
      · subst hcc; exact ⟨_, hc'⟩
      · obtain ⟨w2, z2⟩ := I.cell y c' e
        exact ⟨w2, z2.sameBut hs hcc⟩
    · obtain ⟨e, n, ne, nf, d⟩ := I.pin p hp
      refine ⟨(hs.2 p.1 ?_).trans e, n, ne, nf, d⟩
      intro q
      rw [q, hoc] at e
      have q' : oc = p.2 := Option.some.inj e
      exact d w' (by rw [← q']; exact hocd)
theorem store_ok {M : Model} {A : Around} {E : Value → Shared → Prop} {i : Nat} {x : Str} {v : V} {u : Value} {Q : Unit → Shared → Prop} (I : Inv X pins σ H s) (hN : X.N.Nodup) (hi : X.N[i]? = some x) (hx : Loc X.env.scope x) (r : RelV v u)
    (h : ∀ s', Inv X pins (σ.set i (some v)) H s' → Q () s') (hf : X.fn x = true ∨ X.env.scope.names.lookup x = some .local := by first | exact .inl rfl | exact .inr rfl | assumption) : wpAny M A (storeName X.env x u) Q E s :=
  store_ok2 I hN hi hx r (fun s' I' _ => h s' I') hf
theorem Inv.call' {s' : Shared} {ch : List Addr} (I : Inv X pins σ H s) (ho : s'.os = s.os) (u : Un (frs X.stack) ch H H' s.heap s'.heap) (hok : HOk X.prog X.w H' s'.heap) (hg : AllBare s'.gens)
    (hch : ∀ b ∈ ch, (b ∈ X.ex ∨ X.s₀.heap.objs.size ≤ b) ∧ b ≠ X.env.locals ∧ (∀ x c, X.env.cells.lookup x = some c → c ≠ b) ∧ ∀ p ∈ X.pn ++ pins, p.1 ≠ b) : Inv X pins σ H' s' := by
  obtain ⟨h', g', d', t', o'⟩ := s'
  have e : o' = s.os := ho
  subst e
  exact I.call (g' := g') (t' := t') (d' := d') u hok hg hch
end
abbrev XK := Value → Option Addr → Hp → Prop
abbrev St := List (Option V)
abbrev VK := V → Hp → Prop
abbrev TE := St → Hp → VK → Prop
abbrev TT := St → Hp → (Bool → Hp → Prop) → Prop
abbrev TA := St → Hp → (List V → Hp → Prop) → Prop
structure Ends where
  nx : St → Hp → Prop
  rt : VK
  bk : St → Hp → Prop := fun _ _ => False
  ct : St → Hp → Prop := fun _ _ => False
abbrev TS := Ends → St → Hp → Prop
def EP (X : Cx) (pins : List (Addr × Obj)) (σ : St) (Q : VK) (u : Value) (s' : Shared) : Prop := ∃ v H', Inv X pins σ H' s' ∧ RelV v u ∧ Q v H'
def TP (X : Cx) (pins : List (Addr × Obj)) (σ : St) (Q : Bool → Hp → Prop) (b : Bool) (s' : Shared) : Prop := ∃ H', Inv X pins σ H' s' ∧ Q b H'
def AP (X : Cx) (pins : List (Addr × Obj)) (σ : St) (Q : List V → Hp → Prop) (us : List Value) (s' : Shared) : Prop := ∃ vs H', Inv X pins σ H' s' ∧ Vals vs us ∧ Q vs H'
def SP (X : Cx) (pins : List (Addr × Obj)) (D : Ends) (f : Flow) (s' : Shared) : Prop :=
  match f with
  | .next => ∃ σ' H', Inv X pins σ' H' s' ∧ D.nx σ' H'
  | .brk => ∃ σ' H', Inv X pins σ' H' s' ∧ D.bk σ' H'
  | .cont => ∃ σ' H', Inv X pins σ' H' s' ∧ D.ct σ' H'
  | .ret u => ∃ v σ' H', Inv X pins σ' H' s' ∧ RelV v u ∧ D.rt v H'
def PEd (X : Cx) (e : Expr) (t : TE) : Prop :=
  ∀ (pins : List (Addr × Obj)) (s : Shared) (σ : St) (H : Hp) (Q : VK), Inv X pins σ H s → t σ H Q → wpAny (model X.prog X.w) X.A (eval e X.env) (EP X pins σ Q) X.xe s
structure PE (X : Cx) (e : Expr) (t : TE) : Prop where
  run : PEd X e t
instance {X : Cx} {e : Expr} {t : TE} : CoeFun (PE X e t) (fun _ => PEd X e t) := ⟨PE.run⟩
instance {X : Cx} {e : Expr} {t : TE} : Coe (PE X e t) (PEd X e t) := ⟨PE.run⟩
def PT (X : Cx) (e : Expr) (t : TT) : Prop :=
  ∀ (pins : List (Addr × Obj)) (s : Shared) (σ : St) (H : Hp) (Q : Bool → Hp → Prop), Inv X pins σ H s → t σ H Q → wpAny (model X.prog X.w) X.A (isTrue e X.env (eval e X.env)) (TP X pins σ Q) X.xe s
def PW (X : Cx) (e : Expr) (t : TT) : Prop :=
  ∀ (whole : Sem Value) (pins : List (Addr × Obj)) (s : Shared) (σ : St) (H : Hp) (Q : Bool → Hp → Prop), Inv X pins σ H s → t σ H Q → wpAny (model X.prog X.w) X.A (isTrue e X.env whole) (TP X pins σ Q) X.xe s
theorem PW.pt {X : Cx} {e : Expr} {t : TT} (h : PW X e t) : PT X e t := h _
def PAd (X : Cx) (es : List Expr) (t : TA) : Prop :=
  ∀ (pos : Pos) (pins : List (Addr × Obj)) (s : Shared) (σ : St) (H : Hp) (Q : List V → Hp → Prop), Inv X pins σ H s → t σ H Q → wpAny (model X.prog X.w) X.A (spliced (backTo pos (starEach es X.env))) (AP X pins σ Q) X.xe s
structure PA (X : Cx) (es : List Expr) (t : TA) : Prop where
  run : PAd X es t
instance {X : Cx} {es : List Expr} {t : TA} : CoeFun (PA X es t) (fun _ => PAd X es t) := ⟨PA.run⟩
instance {X : Cx} {es : List Expr} {t : TA} : Coe (PA X es t) (PAd X es t) := ⟨PA.run⟩
def PSd (X : Cx) (st : Stmt) (t : TS) : Prop :=
  ∀ (pins : List (Addr × Obj)) (s : Shared) (σ : St) (H : Hp) (D : Ends), Inv X pins σ H s → t D σ H → wpAny (model X.prog X.w) X.A (exec st X.env) (SP X pins D) X.xe s
structure PS (X : Cx) (st : Stmt) (t : TS) : Prop where
  run : PSd X st t
instance {X : Cx} {st : Stmt} {t : TS} : CoeFun (PS X st t) (fun _ => PSd X st t) := ⟨PS.run⟩
instance {X : Cx} {st : Stmt} {t : TS} : Coe (PS X st t) (PSd X st t) := ⟨PS.run⟩
def PSsd (X : Cx) (st : List Stmt) (t : TS) : Prop :=
  ∀ (pins : List (Addr × Obj)) (s : Shared) (σ : St) (H : Hp) (D : Ends), Inv X pins σ H s → t D σ H → wpAny (model X.prog X.w) X.A (execs st X.env) (SP X pins D) X.xe s
structure PSs (X : Cx) (st : List Stmt) (t : TS) : Prop where
  run : PSsd X st t
instance {X : Cx} {st : List Stmt} {t : TS} : CoeFun (PSs X st t) (fun _ => PSsd X st t) := ⟨PSs.run⟩
instance {X : Cx} {st : List Stmt} {t : TS} : Coe (PSs X st t) (PSsd X st t) := ⟨PSs.run⟩
theorem thn {α : Type} {t : Sem α} {Q Q' : α → Shared → Prop} {M : Model} {A : Around} {E : Value → Shared → Prop} {s : Shared} (h : wpAny M A t Q E s) (hQ : ∀ a s, Q a s → Q' a s) : wpAny M A t Q' E s := wpAny_mono h hQ fun _ _ x => x
end L2
namespace L2
open PySem PySem.Spec PyProof.Rows
section
variable {X : Cx}
def tVar (i : Nat) : TE := fun σ H Q => ∃ v, σ[i]? = some (some v) ∧ Q v H
def tC (v : V) : TE := fun _ H Q => Q v H
theorem pe_var {i : Nat} {x : Str} {pos : Pos} (hN : X.N[i]? = some x) (hv : Vis X.env.scope x) (hd : (x == ("__debug__" : Str)) = false := by decide) (hcd : (x == ("__classdict__" : Str)) = false := by decide) : PE X (.Name x pos) (tVar i) := .mk <| by
  intro pins s σ H Q I h
  obtain ⟨v, e, h⟩ := h
  obtain ⟨m, hn, hl⟩ := I.loc
  obtain ⟨u, r, l⟩ := hl i x v hN e hv
  have fin : EP X pins σ Q u s := ⟨v, H, I, r, h⟩
  rcases l with ⟨hk, hm⟩ | ⟨hk, c, hc, hcell⟩
  · exact wpAny_Name (wpAny_loadName_local I.ok.kind hk hn hm fin) hd
  · rcases hk with hk | hk
    · exact wpAny_Name (wpAny_loadName_cell I.ok.kind hk hc hcell fin) hd
    · exact wpAny_Name (wpAny_loadName_free I.ok.kind hk hc hcell fin hcd) hd
theorem pe_int {i j pos} : PE X (.Constant (.int i) j pos) (tC (.int i)) := .mk <| fun _ _ _ H _ I h => wpAny_Constant_int ⟨.int i, H, I.tok _, ⟨_, rfl⟩, h⟩
theorem pe_bl {b j pos} : PE X (.Constant (.bool b) j pos) (tC (.bl b)) := .mk <| fun _ _ _ H _ I h => Constant_bool ⟨.bl b, H, I, rfl, h⟩
theorem pe_non {j pos} : PE X (.Constant .none j pos) (tC .non) := .mk <| fun _ _ _ H _ I h => Constant_none ⟨.non, H, I, rfl, h⟩
theorem pe_str {x j pos} : PE X (.Constant (.str x) j pos) (tC (.str x)) := .mk <| fun _ _ _ H _ I h => Calls.Constant_str ⟨.str x, H, I.tok _, ⟨_, rfl⟩, h⟩
def Gl (X : Cx) (x : Str) : Prop := X.env.kindOf x = some .globalImplicit
theorem ld_glob {E : Value → Shared → Prop} {pins : List (Addr × Obj)} {s : Shared} {σ : St} {H : Hp} {x : Str} {u : Value} {pos : Pos} {Q : Value → Shared → Prop} (I : Inv X pins σ H s) (hg : Gl X x) (hm : X.mg x = some u) (h : Q u s)
    (hd : (x == ("__debug__" : Str)) = false := by decide) : wpAny (model X.prog X.w) X.A (eval (.Name x pos) X.env) Q E s :=
  Calls.Name_function_global I.ok.kind hg (Calls.loadGlobal_global (by rw [I.ok.glob]; exact I.mod.glob.keeps I.bk) hm h) hd
theorem ld_blt {E : Value → Shared → Prop} {pins : List (Addr × Obj)} {s : Shared} {σ : St} {H : Hp} {x : Str} {u : Value} {pos : Pos} {Q : Value → Shared → Prop} (I : Inv X pins σ H s) (hg : Gl X x) (hm : X.mg x = none) (hv : bootBuiltins x = some u) (h : Q u s)
    (hn : x ≠ "__name__" := by decide) (hd : (x == ("__debug__" : Str)) = false := by decide) : wpAny (model X.prog X.w) X.A (eval (.Name x pos) X.env) Q E s := by
  obtain ⟨mb, h1, h2⟩ := I.mod.blt
  exact Calls.Name_function_global I.ok.kind hg (Calls.loadGlobal_builtin (by rw [I.ok.glob]; exact I.mod.glob.keeps I.bk) hm (by rw [I.ok.blt]; exact h1.keeps I.bk) ((h2 x hn).trans hv) h) hd
theorem pe_glob {x : Str} {v : V} {u : Value} {pos : Pos} (hg : Gl X x) (hm : X.mg x = some u) (r : RelV v u) (hd : (x == ("__debug__" : Str)) = false := by decide) : PE X (.Name x pos) (tC v) := .mk <|
  fun _ _ _ H _ I h => ld_glob I hg hm ⟨v, H, I, r, h⟩ hd
theorem pe_bltn {x : Str} {v : V} {u : Value} {pos : Pos} (hg : Gl X x) (hm : X.mg x = none) (hv : bootBuiltins x = some u) (r : RelV v u) (hn : x ≠ "__name__" := by decide) (hd : (x == ("__debug__" : Str)) = false := by decide) : PE X (.Name x pos) (tC v) := .mk <|
  fun _ _ _ H _ I h => ld_blt I hg hm hv ⟨v, H, I, r, h⟩ hn hd
variable {a b : Expr} {ta tb : TE} {pos : Pos}
variable {tA tB' : TT} {rest : List Expr}
def tAnd (t u : TT) : TT := fun σ H Q => t σ H fun c H1 => if c = true then u σ H1 Q else Q false H1
def tOr (t u : TT) : TT := fun σ H Q => t σ H fun c H1 => if c = true then Q true H1 else u σ H1 Q
def tNot (t : TT) : TT := fun σ H Q => t σ H fun c H1 => Q (!c) H1
theorem pw_and1 (ha : PT X a tA) : PW X (.BoolOp .And [a] pos) tA := by
  intro wh pins s σ H Q I h
  refine isTrue_and (thn (ha pins s σ H Q I h) fun c s1 e => ?_)
  cases c with
  | true => exact isTrue_and_nil e
  | false => exact e
theorem pw_or1 (ha : PT X a tA) : PW X (.BoolOp .Or [a] pos) tA := by
  intro wh pins s σ H Q I h
  refine isTrue_or (thn (ha pins s σ H Q I h) fun c s1 e => ?_)
  cases c with
  | false => exact isTrue_or_nil e
  | true => exact e
theorem pw_and (ha : PT X a tA) (hb : PW X (.BoolOp .And (b :: rest) pos) tB') : PW X (.BoolOp .And (a :: b :: rest) pos) (tAnd tA tB') := by
  intro wh pins s σ H Q I h
  refine isTrue_and (thn (ha pins s σ H _ I h) fun c s1 ⟨H1, I1, q1⟩ => ?_)
  cases c with
  | true => exact hb wh pins s1 σ H1 Q I1 q1
  | false => exact ⟨H1, I1, q1⟩
theorem pw_or (ha : PT X a tA) (hb : PW X (.BoolOp .Or (b :: rest) pos) tB') : PW X (.BoolOp .Or (a :: b :: rest) pos) (tOr tA tB') := by
  intro wh pins s σ H Q I h
  refine isTrue_or (thn (ha pins s σ H _ I h) fun c s1 ⟨H1, I1, q1⟩ => ?_)
  cases c with
  | true => exact ⟨H1, I1, q1⟩
  | false => exact hb wh pins s1 σ H1 Q I1 q1
theorem pt_not (ha : PT X a tA) : PT X (.UnaryOp .Not a pos) (tNot tA) := by
  intro pins s σ H Q I h
  exact isTrue_not (ha pins s σ H (fun c H1 => Q (!c) H1) I h)
theorem pe_one {op} {t : TE} (h : PE X a t) : PE X (.BoolOp op [a] pos) t := .mk <| fun pins s σ H Q I hw => BoolOp_one (h pins s σ H Q I hw)
end
end L2
namespace L2
open PySem PySem.Spec PyProof.Rows
def SqL (K : PySem.W.Frag) (H : Hp) (a : Addr) (xs : List V) : Prop :=
  Rd H a (.lst xs) ∨
    ∃ (o : Obj) (its : Array Value) (n : Nat), K.lookup a = some o ∧ o.cls = .type "list" ∧ o.dict = none ∧ o.data = .seq its n ∧ its.size ≤ sizeLine ∧ Vals xs its.toList
def SqT (K : PySem.W.Frag) (H : Hp) (a : Addr) (xs : List V) : Prop :=
  Rd H a (.tup xs) ∨
    ∃ (o : Obj) (its : Array Value) (n : Nat), K.lookup a = some o ∧ o.cls = .type "tuple" ∧ o.data = .seq its n ∧ its.size ≤ sizeLine ∧ Vals xs its.toList
def absV : Value → Option V
  | .none => some .non
  | .bool b => some (.bl b)
  | .int i _ => some (.int i)
  | .str x _ => some (.str x)
  | .bytes b _ => some (.byt b)
  | .float b _ => some (.flt b)
  | .ref a => some (.ref a)
  | .type n => some (.ty n)
  | _ => none
theorem RelV.abs {x : V} {u : Value} (r : RelV x u) : absV u = some x := by
  cases x with
  | non => cases r; rfl
  | bl _ => cases r; rfl
  | int _ => obtain ⟨t, rfl⟩ := r; rfl
  | str _ => obtain ⟨t, rfl⟩ := r; rfl
  | byt _ => obtain ⟨t, rfl⟩ := r; rfl
  | flt _ => obtain ⟨t, rfl⟩ := r; rfl
  | ref _ => cases r; rfl
  | ty _ => cases r; rfl
theorem RelV.inj {x y : V} {u : Value} (r : RelV x u) (q : RelV y u) : x = y := Option.some.inj (r.abs.symm.trans q.abs)
theorem Vals.inj : ∀ {xs ys : List V} {us : List Value}, Vals xs us → Vals ys us → xs = ys
  | _, _, _, .nil, .nil => rfl
  | _, _, _, .cons r t, .cons r' t' => by rw [r.inj r', Vals.inj t t']
section
variable {X : Cx} {pins : List (Addr × Obj)} {σ : St} {H : Hp} {s : Shared} {a : Addr} {xs ys : List V}
theorem SqL.of {K : PySem.W.Frag} (h : H a = some (.lst xs)) : SqL K H a xs := .inl (.inl h)
theorem SqT.of {K : PySem.W.Frag} (h : H a = some (.tup xs)) : SqT K H a xs := .inl (.inl h)
theorem Inv.list (I : Inv X pins σ H s) (h : SqL X.K H a xs) : ∃ its : List Value, Vals xs its ∧ PlainL s.heap a its.toArray ∧ xs.length ≤ sizeLine := by
  rcases h with h | ⟨o, its, n, hk, hc, hd, hs, hz, r⟩
  · obtain ⟨z, its, n, r, e⟩ := h.ok I.hok
    exact ⟨its, r, ⟨_, n, e, rfl, rfl, rfl⟩, z⟩
  · refine ⟨its.toList, r, ⟨o, n, I.kIn a o hk, hc, hd, by simpa using hs⟩, ?_⟩
    have e := r.length
    simp only [Array.length_toList] at e
    omega
theorem Inv.tuple (I : Inv X pins σ H s) (h : SqT X.K H a xs) : ∃ its : List Value, Vals xs its ∧ IsTup s.heap a its.toArray ∧ xs.length ≤ sizeLine := by
  rcases h with h | ⟨o, its, n, hk, hc, hs, hz, r⟩
  · obtain ⟨z, its, r, p⟩ := h.ok I.hok
    exact ⟨its, r, p, z⟩
  · refine ⟨its.toList, r, ⟨o, I.kIn a o hk, hc, n, by simpa using hs⟩, ?_⟩
    have e := r.length
    simp only [Array.length_toList] at e
    omega
theorem Inv.list_inj (I : Inv X pins σ H s) (h : SqL X.K H a xs) (h' : SqL X.K H a ys) : xs = ys := by
  obtain ⟨its, r, ⟨o, n, e, _, _, d⟩, _⟩ := I.list h
  obtain ⟨its', r', ⟨o', n', e', _, _, d'⟩, _⟩ := I.list h'
  rw [e] at e'; cases e'
  rw [d] at d'
  injection d' with d1 _
  have : its = its' := by simpa using congrArg Array.toList d1
  subst this
  exact r.inj r'
theorem Inv.tuple_inj (I : Inv X pins σ H s) (h : SqT X.K H a xs) (h' : SqT X.K H a ys) : xs = ys := by
  obtain ⟨its, r, ⟨o, e, _, n, d⟩, _⟩ := I.tuple h
  obtain ⟨its', r', ⟨o', e', _, n', d'⟩, _⟩ := I.tuple h'
  rw [e] at e'; cases e'
  rw [d] at d'
  injection d' with d1 _
  have : its = its' := by simpa using congrArg Array.toList d1
  subst this
  exact r.inj r'
end
abbrev Cx.wish (X : Cx) (E : Value → Shared → Prop) : Cx := { X with xe := E }
abbrev Cx.nox (X : Cx) : Cx := X.wish fun _ _ => False
theorem Cx.Ok.wish {X : Cx} (ok : X.Ok) (E : Value → Shared → Prop) : (X.wish E).Ok :=
  ⟨ok.mod, ok.kind, ok.glob, ok.blt, ok.above, ok.inj, ok.has, ok.cab, ok.hd, ok.frames, ok.stk, ok.exf, ok.bs, ok.bsz, ok.noex, ok.exfs, ok.funs, ok.frf, ok.tt⟩
theorem Cx.Ok.unwish {X : Cx} {E : Value → Shared → Prop} (ok : (X.wish E).Ok) : X.Ok :=
  ⟨ok.mod, ok.kind, ok.glob, ok.blt, ok.above, ok.inj, ok.has, ok.cab, ok.hd, ok.frames, ok.stk, ok.exf, ok.bs, ok.bsz, ok.noex, ok.exfs, ok.funs, ok.frf, ok.tt⟩
section
variable {X : Cx} {pins : List (Addr × Obj)} {σ : St} {H : Hp} {s : Shared} {E : Value → Shared → Prop}
theorem Inv.wish (I : Inv X pins σ H s) (E : Value → Shared → Prop) : Inv (X.wish E) pins σ H s := ⟨I.ok.wish E, I.os, I.bare, I.base, I.loc, I.cell, I.free, I.freeC, I.pin, I.hok, I.len⟩
theorem Inv.unwish (I : Inv (X.wish E) pins σ H s) : Inv X pins σ H s := ⟨I.ok.unwish, I.os, I.bare, I.base, I.loc, I.cell, I.free, I.freeC, I.pin, I.hok, I.len⟩
theorem SP.unwish {D : Ends} {f : Flow} {s' : Shared} (h : SP (X.wish E) pins D f s') : SP X pins D f s' := by
  cases f with
  | next => obtain ⟨σ', H', I, q⟩ := h; exact ⟨σ', H', I.unwish, q⟩
  | brk => obtain ⟨σ', H', I, q⟩ := h; exact ⟨σ', H', I.unwish, q⟩
  | cont => obtain ⟨σ', H', I, q⟩ := h; exact ⟨σ', H', I.unwish, q⟩
  | ret u => obtain ⟨v, σ', H', I, r, q⟩ := h; exact ⟨v, σ', H', I.unwish, r, q⟩
theorem PE.nox {e : Expr} {t : TE} (h : PE X.nox e t) : PE X e t := .mk <| fun pins s σ H Q I hw =>
  wpAny_mono (h pins s σ H Q (I.wish _) hw) (fun _ _ ⟨v, H', I', r, q⟩ => ⟨v, H', I'.unwish, r, q⟩) fun _ _ z => False.elim z
theorem PT.nox {e : Expr} {t : TT} (h : PT X.nox e t) : PT X e t := fun pins s σ H Q I hw =>
  wpAny_mono (h pins s σ H Q (I.wish _) hw) (fun _ _ ⟨H', I', q⟩ => ⟨H', I'.unwish, q⟩) fun _ _ z => False.elim z
theorem PSs.nox {st : List Stmt} {t : TS} (h : PSs X.nox st t) : PSs X st t := .mk <| fun pins s σ H D I hw =>
  wpAny_mono (h pins s σ H D (I.wish _) hw) (fun _ _ q => q.unwish) fun _ _ z => False.elim z
end
section
variable {X : Cx} {st : Stmt} {rest : List Stmt} {t u : TS} {e : Expr} {te : TE} {pos : Pos}
def tNext : TS := fun D σ H => D.nx σ H
def tSeq (t u : TS) : TS := fun D σ H => t { D with nx := u D } σ H
theorem pss_nil : PSs X [] tNext := .mk <| fun _ _ σ H _ I h => wpAny_execs_nil ⟨σ, H, I, h⟩
theorem pss_cons (h1 : PS X st t) (h2 : PSs X rest u) : PSs X (st :: rest) (tSeq t u) := .mk <| by
  intro pins s σ H D I h
  refine wpAny_execs_cons (thn (h1 pins s σ H { D with nx := u D } I h) fun f s1 q => ?_)
  cases f with
  | next =>
    obtain ⟨σ', H', I', q⟩ := q
    exact h2 pins s1 σ' H' D I' q
  | ret v => exact q
  | brk => exact q
  | cont => exact q
theorem pss_one (h1 : PS X st t) : PSs X [st] t := .mk <| by
  intro pins s σ H D I h
  refine wpAny_execs_cons (thn (h1 pins s σ H D I h) fun f s1 q => ?_)
  cases f with
  | next => exact wpAny_execs_nil q
  | ret v => exact q
  | brk => exact q
  | cont => exact q
theorem Inv.quiet {pins : List (Addr × Obj)} {σ : St} {H : Hp} {s : Shared} (I : Inv X pins σ H s) : interactive X.env = false := by simp [interactive, I.ok.kind]
def tDrop (te : TE) : TS := fun D σ H => te σ H fun _ H1 => D.nx σ H1
theorem ps_expr (he : PE X e te) (hs : swapsWith e none pos.line X.env = pure false := by rfl) : PS X (.Expr e pos) (tDrop te) := .mk <| by
  intro pins s σ H D I h
  exact wpAny_Expr_any (thn (he pins s σ H _ I h) fun v s1 ⟨x, H1, I1, r1, q1⟩ => ⟨σ, H1, I1, q1⟩) I.quiet hs
def tRet (te : TE) : TS := fun D σ H => te σ H D.rt
theorem ps_ret (he : PE X e te) : PS X (.Return (some e) pos) (tRet te) := .mk <| by
  intro pins s σ H D I h
  exact wpAny_Return_some (thn (he pins s σ H _ I h) fun v s1 ⟨x, H1, I1, r1, q1⟩ => ⟨x, σ, H1, I1, r1, q1⟩)
def tIfS (c : TT) (t u : TS) : TS := fun D σ H => c σ H fun b H1 => if b = true then t D σ H1 else u D σ H1
theorem ps_if {c : Expr} {a b : List Stmt} {tc : TT} (hc : PT X c tc) (ha : PSs X a t) (hb : PSs X b u) : PS X (.If c a b pos) (tIfS tc t u) := .mk <| by
  intro pins s σ H D I h
  refine wpAny_If (thn (hc pins s σ H _ I h) fun d s1 ⟨H1, I1, q1⟩ => ?_)
  cases d with
  | true => exact ha pins s1 σ H1 D I1 q1
  | false => exact hb pins s1 σ H1 D I1 q1
end
abbrev TG := V → St → Hp → (St → Hp → Prop) → Prop
abbrev TGs := List V → St → Hp → (St → Hp → Prop) → Prop
def PG (X : Cx) (target : Expr) (t : TG) : Prop :=
  ∀ (pins : List (Addr × Obj)) (s : Shared) (σ : St) (H : Hp) (v : V) (u : Value) (Q : St → Hp → Prop), Inv X pins σ H s → RelV v u → t v σ H Q →
    wpAny (model X.prog X.w) X.A (assign target X.env u) (fun _ s' => ∃ σ' H', Inv X pins σ' H' s' ∧ Q σ' H') X.xe s
def PGs (X : Cx) (ts : List Expr) (t : TGs) : Prop :=
  ∀ (pins : List (Addr × Obj)) (s : Shared) (σ : St) (H : Hp) (vs : List V) (us : List Value) (Q : St → Hp → Prop), Inv X pins σ H s → Vals vs us → t vs σ H Q →
    wpAny (model X.prog X.w) X.A (assignInOrder ((assignEach ts X.env).map (·.2)) us) (fun _ s' => ∃ σ' H', Inv X pins σ' H' s' ∧ Q σ' H') X.xe s
abbrev TSet := V → V → V → Hp → (Hp → Prop) → Prop
def PSet (X : Cx) (t : TSet) : Prop :=
  ∀ (pins : List (Addr × Obj)) (s : Shared) (σ : St) (H : Hp) (o i v : V) (ov iv u : Value) (Q : Hp → Prop), Inv X pins σ H s → RelV o ov → RelV i iv → RelV v u → t o i v H Q →
    wpAny (model X.prog X.w) X.A (setItem ov iv u) (fun _ s' => ∃ H', Inv X pins σ H' s' ∧ Q H') X.xe s
section
variable {X : Cx} {pos : Pos}
def gName (i : Nat) : TG := fun v σ H Q => Q (σ.set i (some v)) H
theorem pg_name {i : Nat} {x : Str} (hN : X.N.Nodup) (hi : X.N[i]? = some x) (hx : Loc X.env.scope x) (hf : X.fn x = true ∨ X.env.scope.names.lookup x = some .local := by first | exact .inl rfl | exact .inr rfl | assumption) : PG X (.Name x pos) (gName i) := by
  intro pins s σ H v u Q I r h
  exact wpAny_assign_Name (store_ok I hN hi hx r (fun s' I' => ⟨_, H, I', h⟩) hf)
def gNil : TGs := fun vs σ H Q => vs = [] ∧ Q σ H
def gCons (t : TG) (u : TGs) : TGs := fun vs σ H Q => ∃ v r, vs = v :: r ∧ t v σ H fun σ' H' => u r σ' H' Q
theorem pgs_nil : PGs X [] gNil := by
  intro pins s σ H vs us Q I r h
  obtain ⟨e, h⟩ := h
  subst e
  cases r
  exact assignInOrder_nil ⟨σ, H, I, h⟩
theorem pgs_cons {e : Expr} {es : List Expr} {t : TG} {u : TGs} (h1 : PG X e t) (h2 : PGs X es u)
    (hs : (assignEach (e :: es) X.env).map (·.2) = assign e X.env :: (assignEach es X.env).map (·.2) := by rfl) : PGs X (e :: es) (gCons t u) := by
  intro pins s σ H vs us Q I r h
  obtain ⟨v, vr, e1, h⟩ := h
  subst e1
  cases r with
  | cons r rr =>
    rw [hs]
    refine assignInOrder_cons (thn (h1 pins s σ H _ _ _ I r h) fun _ s1 ⟨σ1, H1, I1, q1⟩ => ?_)
    exact h2 pins s1 σ1 H1 _ _ Q I1 rr q1
def gTup (K : PySem.W.Frag) (n : Nat) (t : TGs) : TG := fun v σ H Q => ∃ a xs, v = .ref a ∧ SqT K H a xs ∧ xs.length = n ∧ t xs σ H Q
theorem pg_tup {es : List Expr} {k : Nat} {t : TGs} {n : Nat} (hc : X.calm = true) (h : PGs X es t)
    (hn : (assignEach es X.env).length = n := by rfl) (hst : (assignEach es X.env).findIdx? (·.1) = none := by rfl) : PG X (.Tuple es k pos) (gTup X.K n t) := by
  intro pins s σ H v u Q I r hw
  obtain ⟨a, xs, e1, hq, hl, hw⟩ := hw
  subst e1
  cases r
  obtain ⟨its, rv, ht, hz⟩ := I.tuple hq
  refine assign_Tuple_tuple (I.ok.hd hc) ht (by simp [hn, ← hl, rv.length]) hst fun h' hx => ?_
  have I1 : Inv X pins σ H { s with heap := h' } := I.kept (t' := s.toks) fun b o e => hx b o (Nat.ne_of_lt (Heap.lt_size e)) e
  exact h pins _ σ H xs _ Q I1 (by simpa using rv) hw
def gSub (to ti : TE) (t : TSet) : TG := fun v σ H Q => to σ H fun o H1 => ti σ H1 fun i H2 => t o i v H2 fun H3 => Q σ H3
theorem pg_sub {o i : Expr} {to ti : TE} {t : TSet} (ho : PE X o to) (hi : PE X i ti) (hs : PSet X t)
    (ha : ∀ v, assign (.Subscript o i pos) X.env v = (do
      let ov ← holding [v] (eval o X.env)
      let iv ← holding [v, ov] (eval i X.env)
      standAt pos
      holding [v, ov, iv] (setItem ov iv v)
      release [v, ov, iv] []) := by intro _; rfl) : PG X (.Subscript o i pos) (gSub to ti t) := by
  intro pins s σ H v u Q I r h
  rw [ha]
  refine wpAny_bind (wpAny_holding (thn (ho pins s σ H _ I h) fun ov s1 ⟨x, H1, I1, r1, q1⟩ => ?_))
  refine wpAny_bind (wpAny_holding (thn (hi pins s1 σ H1 _ I1 q1) fun iv s2 ⟨y, H2, I2, r2, q2⟩ => ?_))
  refine wpAny_bind (wpAny_standAt (wpAny_bind (wpAny_holding (thn (hs pins s2 σ H2 x y v ov iv u _ I2 r1 r2 r q2) fun _ s3 ⟨H3, I3, q3⟩ => ?_))))
  exact wpAny_release ⟨σ, H3, I3, q3⟩
def tAsg (te : TE) (g : TG) : TS := fun D σ H => te σ H fun x H1 => g x σ H1 D.nx
theorem ps_asg {tg e : Expr} {te : TE} {g : TG} (he : PE X e te) (hg : PG X tg g) (hs : swapsWithSole [tg] e pos.line X.env = pure false := by rfl) (hw : swappedStores [tg] e X.env = pure none := by rfl)
    (h1 : (assignEach [tg] X.env).map (·.2) = [assign tg X.env] := by rfl) : PS X (.Assign [tg] e pos) (tAsg te g) := .mk <| by
  intro pins s σ H D I h
  refine wpAny_Assign_stores (thn (he pins s σ H _ I h) fun v s1 ⟨x, H1, I1, r1, q1⟩ => ?_) hs hw
  rw [h1]
  exact thn (hg pins s1 σ H1 x v _ I1 r1 q1) fun _ s2 q => q
theorem ps_set {i : Nat} {x : Str} {e : Expr} {te : TE} {pos' : Pos} (hN : X.N.Nodup) (hi : X.N[i]? = some x) (hx : Loc X.env.scope x) (he : PE X e te) (hs : swapsWith e (some (.Name x pos')) pos.line X.env = pure false := by rfl) (hf : X.fn x = true ∨ X.env.scope.names.lookup x = some .local := by first | exact .inl rfl | exact .inr rfl | assumption) :
    PS X (.Assign [.Name x pos'] e pos) (tAsg te (gName i)) := .mk <| by
  intro pins s σ H D I h
  refine wpAny_Assign_Name (thn (he pins s σ H _ I h) fun v s1 ⟨y, H1, I1, r1, q1⟩ => ?_) hs
  exact store_ok I1 hN hi hx r1 (fun s2 I2 => ⟨_, H1, I2, q1⟩) hf
end
section
variable {X : Cx} {pos : Pos}
def tWhile (c : TT) (tb : TS) : TS := fun D σ H => ∃ W : Nat → St → Hp → Prop, (∃ m, W m σ H) ∧ ∀ m σ H, W m σ H →
  c σ H fun b H1 => if b = true then ∃ N : St → Hp → Prop, (∀ σ' H', N σ' H' → ∃ m', m' < m ∧ W m' σ' H') ∧ tb { D with nx := N, ct := N, bk := D.nx } σ H1 else D.nx σ H1
theorem ps_while {c : Expr} {body : List Stmt} {tc : TT} {tb : TS} (hp : PassesOwn (model X.prog X.w) X.A X.env X.xe) (hc : PT X c tc) (hb : PSs X body tb) : PS X (.While c body [] pos) (tWhile tc tb) := .mk <| by
  intro pins s σ H D I h
  obtain ⟨W, ⟨m0, w0⟩, turn⟩ := h
  refine wpAny_While (codeAny_whileLoop (fun n s' => ∃ σ' H', Inv X pins σ' H' s' ∧ W n σ' H') ?_ m0 ⟨σ, H, I, w0⟩)
  rintro n s1 ⟨σ1, H1, I1, w1⟩
  refine wpAny_passesOwn hp (thn (hc pins s1 σ1 H1 _ I1 (turn n σ1 H1 w1)) fun b s2 ⟨H2, I2, q2⟩ => ?_)
  cases b with
  | true =>
    obtain ⟨N, hN, q2⟩ := q2
    rw [if_pos rfl]
    refine wpAny_passesOwn hp (thn (hb pins s2 σ1 H2 _ I2 q2) fun f s3 q3 => ?_)
    cases f with
    | next =>
      obtain ⟨σ3, H3, I3, n3⟩ := q3
      obtain ⟨m', hm, w3⟩ := hN σ3 H3 n3
      exact ⟨m', hm, σ3, H3, I3, w3⟩
    | cont =>
      obtain ⟨σ3, H3, I3, n3⟩ := q3
      obtain ⟨m', hm, w3⟩ := hN σ3 H3 n3
      exact ⟨m', hm, σ3, H3, I3, w3⟩
    | brk => exact q3
    | ret v => exact q3
  | false =>
    rw [if_neg Bool.false_ne_true]
    exact wpAny_execs_nil ⟨σ1, H2, I2, q2⟩
end
structure It where
  go : Nat → Hp → Prop
  yld : Nat → Hp → V → Hp → Prop
  stop : Nat → Hp → Prop
def FpOk (X : Cx) (pins : List (Addr × Obj)) (H : Hp) (b : Addr) : Prop :=
  H b = none ∧ b ≠ X.env.locals ∧ b ∉ X.fs ∧ (b ∈ X.ex ∨ X.s₀.heap.objs.size ≤ b) ∧ (∀ x c, X.env.cells.lookup x = some c → c ≠ b) ∧ ∀ p ∈ X.pn ++ pins, p.1 ≠ b
theorem Inv.fpOk {X : Cx} {pins : List (Addr × Obj)} {σ : St} {H H' : Hp} {s : Shared} {b : Addr} (I : Inv X pins σ H s) (hb : s.heap.objs.size ≤ b) (hn : H' b = none) : FpOk X pins H' b := by
  refine ⟨hn, Nat.ne_of_gt (Nat.lt_of_lt_of_le I.lt hb), I.nofs hb, .inr (Nat.le_trans I.sz hb), fun x c e z => ?_, fun p hp z => ?_⟩
  · obtain ⟨v, q⟩ := I.cell x c e
    exact absurd (Nat.lt_of_lt_of_le q.lt (by rw [z]; exact hb)) (Nat.lt_irrefl _)
  · exact absurd (Nat.lt_of_lt_of_le (Heap.lt_size (I.pin p hp).1) (by rw [z]; exact hb)) (Nat.lt_irrefl _)
structure Turn (P : Program) (w : World) (K : PySem.W.Frag) (tg : Expr) (J : It) (fp : List Addr) (it : Addr) (tn : Nat → Heap → Prop) : Prop where
  mem : it ∈ fp
  obj : ∀ i h, tn i h → ∀ b ∈ fp, ∃ o, h.get? b = some o ∧ ∀ v, o.data ≠ .cell v
  keep : ∀ i h h', tn i h → (∀ b ∈ fp, ∀ o, h.get? b = some o → h'.get? b = some o) → tn i h'
  item : ∀ (X : Cx), X.prog = P → X.w = w → X.K = K → X.calm = true → ∀ (i : Nat) (pins : List (Addr × Obj)) (s : Shared) (σ : St) (H : Hp) (E : Value → Shared → Prop), Inv X pins σ H s → (∀ b ∈ fp, FpOk X pins H b) → tn i s.heap → J.go i H →
    wpAny (model P w) X.A (pyNext (.ref it)) (fun r s1 => ∃ u, r = some u ∧
      wpAny (model P w) X.A (letOwnedTupleGo tg (.ref it) u) (fun _ s2 => ∃ x H', Inv X pins σ H' s2 ∧ RelV x u ∧ J.yld i H x H' ∧ tn (i + 1) s2.heap ∧ ∀ b ∈ fp, H' b = none) E s1) E s
  done : ∀ (X : Cx), X.prog = P → X.w = w → X.K = K → X.calm = true → ∀ (i : Nat) (pins : List (Addr × Obj)) (s : Shared) (σ : St) (H : Hp) (E : Value → Shared → Prop), Inv X pins σ H s → (∀ b ∈ fp, FpOk X pins H b) → tn i s.heap → J.stop i H →
    wpAny (model P w) X.A (pyNext (.ref it)) (fun r s1 => r = none ∧ Inv X pins σ H s1) E s
  self : ∀ (A : Around) (i : Nat) (s : Shared) (Q : Value → Shared → Prop) (E : Value → Shared → Prop), tn i s.heap → Q (.ref it) s → wpAny (model P w) A (pyIter (.ref it)) Q E s
abbrev TI := St → Hp → (It → Hp → Prop) → Prop
def PIE (X : Cx) (pins : List (Addr × Obj)) (σ : St) (tg : Expr) (R : It → Hp → Prop) (itv : Value) (s2 : Shared) : Prop :=
  ∃ (it : Addr) (fp : List Addr) (tn : Nat → Heap → Prop) (J : It) (H' : Hp), itv = .ref it ∧ Inv X pins σ H' s2 ∧ Turn X.prog X.w X.K tg J fp it tn ∧ tn 0 s2.heap ∧ (∀ b ∈ fp, FpOk X pins H' b) ∧ R J H'
def PI (X : Cx) (tg iter : Expr) (wi : TI) : Prop :=
  ∀ (pins : List (Addr × Obj)) (s : Shared) (σ : St) (H : Hp) (R : It → Hp → Prop), Inv X pins σ H s → wi σ H R →
    wpAny (model X.prog X.w) X.A (eval iter X.env) (fun v s1 => wpAny (model X.prog X.w) X.A (pyIter v) (PIE X pins σ tg R) X.xe s1) X.xe s
theorem go_of {M : Model} {A : Around} {E : Value → Shared → Prop} {s : Shared} {tg : Expr} {it : Addr} {u : Value} {o : Obj} {n : String} {vs : Array Value} {Q : Unit → Shared → Prop} (ho : s.heap.get? it = some o) (hc : o.cls = .type n) (hd : o.data = .fields vs)
    (hn : ["enumerate", "zip", "dict_itemiterator", "dict_reverseitemiterator", "odict_iterator", "itertools.zip_longest", "itertools.pairwise"].contains n = false) (hQ : Q () s) : wpAny M A (letOwnedTupleGo tg (.ref it) u) Q E s := by
  unfold letOwnedTupleGo
  cases tg <;> first
    | exact wpAny_pure hQ
    | (cases u <;> first
        | exact wpAny_pure hQ
        | (refine wpAny_bind (wpAny_load ho ?_)
           rw [hc, hd]
           show wpAny M A (if (["enumerate", "zip", "dict_itemiterator", "dict_reverseitemiterator", "odict_iterator", "itertools.zip_longest", "itertools.pairwise"].contains n && vs[0]? == some (rawInt _)) = true then _ else _) Q E s
           rw [if_neg (by intro h; rw [hn, Bool.false_and] at h; cases h)]
           exact wpAny_pure hQ))
def Itl (K : PySem.W.Frag) (a : Addr) : It :=
  ⟨fun i H => ∃ xs x, SqL K H a xs ∧ xs[i]? = some x, fun i H x H' => H' = H ∧ ∀ xs, SqL K H a xs → xs[i]? = some x, fun i H => ∃ xs, SqL K H a xs ∧ xs.length ≤ i⟩
def Itt (K : PySem.W.Frag) (a : Addr) : It :=
  ⟨fun i H => ∃ xs x, SqT K H a xs ∧ xs[i]? = some x, fun i H x H' => H' = H ∧ ∀ xs, SqT K H a xs → xs[i]? = some x, fun i H => ∃ xs, SqT K H a xs ∧ xs.length ≤ i⟩
def Itr (lo : Int) (n : Nat) : It := ⟨fun i _ => i < n, fun i H x H' => H' = H ∧ x = .int (lo + i), fun i _ => n ≤ i⟩
theorem turn_list {P : Program} {w : World} {K : PySem.W.Frag} {tg : Expr} (a it : Addr) : Turn P w K tg (Itl K a) [it] it (fun i h => h.IsListIter it a i) where
  mem := by simp
  obj := fun i h st b hb => by
    have e : b = it := by simpa using hb
    subst e
    obtain ⟨o, e, c, d⟩ := st
    exact ⟨o, e, fun v z => by rw [d] at z; cases z⟩
  keep := fun i h h' st k => st.at fun o e => k it (by simp) o e
  item := by
    intro X hP hw hK hc i pins s σ H E I hf st hg
    subst hP hw hK
    obtain ⟨xs, x, hq, hx⟩ := hg
    obtain ⟨its, rv, p, hz⟩ := I.list hq
    obtain ⟨u, hu, ru⟩ := rv.get hx
    obtain ⟨f0, f1, f2, f3, f4, f5⟩ := hf it (by simp)
    refine wpAny_pyNext_list_item st p.isList (x := u) (by simpa using hu) fun h' st' sb => ?_
    have I1 : Inv X pins σ H { s with heap := h' } := I.turned (t' := s.toks) (fun b o hb e => (sb.2 b hb).trans e) f0 f1 f3 f4 f5
    obtain ⟨o, e, c, d⟩ := id st'
    exact ⟨u, rfl, go_of (s := { s with heap := h' }) e c d (by decide) ⟨x, H, I1, ru, ⟨rfl, fun ys hy => by rw [I.list_inj hy hq]; exact hx⟩, st', fun b hb => (hf b hb).1⟩⟩
  done := by
    intro X hP hw hK hc i pins s σ H E I hf st hg
    subst hP hw hK
    obtain ⟨xs, hq, hx⟩ := hg
    obtain ⟨its, rv, p, hz⟩ := I.list hq
    obtain ⟨f0, f1, f2, f3, f4, f5⟩ := hf it (by simp)
    have hl := rv.length
    exact wpAny_pyNext_list_end (I.ok.hd hc) st p.isList (by simp; omega) fun h' eb => ⟨rfl, I.turned (t' := s.toks) (fun b o hb e => eb b o hb e) f0 f1 f3 f4 f5⟩
  self := fun _ _ _ _ _ st h => wpAny_pyIter_listiter st h
theorem turn_tuple {P : Program} {w : World} {K : PySem.W.Frag} {tg : Expr} (a it : Addr) : Turn P w K tg (Itt K a) [it] it (fun i h => h.IsTupleIter it a i) where
  mem := by simp
  obj := fun i h st b hb => by
    have e : b = it := by simpa using hb
    subst e
    obtain ⟨o, e, c, d⟩ := st
    exact ⟨o, e, fun v z => by rw [d] at z; cases z⟩
  keep := fun i h h' st k => st.at fun o e => k it (by simp) o e
  item := by
    intro X hP hw hK hc i pins s σ H E I hf st hg
    subst hP hw hK
    obtain ⟨xs, x, hq, hx⟩ := hg
    obtain ⟨its, rv, p, hz⟩ := I.tuple hq
    obtain ⟨u, hu, ru⟩ := rv.get hx
    obtain ⟨f0, f1, f2, f3, f4, f5⟩ := hf it (by simp)
    refine wpAny_pyNext_tuple_item st (show s.heap.IsTuple a its.toArray from p) (x := u) (by simpa using hu) fun h' st' sb => ?_
    have I1 : Inv X pins σ H { s with heap := h' } := I.turned (t' := s.toks) (fun b o hb e => (sb.2 b hb).trans e) f0 f1 f3 f4 f5
    obtain ⟨o, e, c, d⟩ := id st'
    exact ⟨u, rfl, go_of (s := { s with heap := h' }) e c d (by decide) ⟨x, H, I1, ru, ⟨rfl, fun ys hy => by rw [I.tuple_inj hy hq]; exact hx⟩, st', fun b hb => (hf b hb).1⟩⟩
  done := by
    intro X hP hw hK hc i pins s σ H E I hf st hg
    subst hP hw hK
    obtain ⟨xs, hq, hx⟩ := hg
    obtain ⟨its, rv, p, hz⟩ := I.tuple hq
    obtain ⟨f0, f1, f2, f3, f4, f5⟩ := hf it (by simp)
    have hl := rv.length
    exact wpAny_pyNext_tuple_end (I.ok.hd hc) st (show s.heap.IsTuple a its.toArray from p) (by simp; omega) fun h' eb => ⟨rfl, I.turned (t' := s.toks) (fun b o hb e => eb b o hb e) f0 f1 f3 f4 f5⟩
  self := fun _ _ _ _ _ st h => wpAny_pyIter_tupleiter st h
theorem turn_range {P : Program} {w : World} {K : PySem.W.Frag} {tg : Expr} (it : Addr) (lo : Int) (n : Nat) : Turn P w K tg (Itr lo n) [it] it (fun i h => IsRangeIter h it (lo + (i : Nat) * 1) ((n : Int) - (i : Nat)) 1) where
  mem := by simp
  obj := fun i h st b hb => by
    have e : b = it := by simpa using hb
    subst e
    exact ⟨_, st, fun v z => by
      have z' : Data.fields _ = Data.cell v := z
      cases z'⟩
  keep := fun i h h' st k => k it (by simp) _ st
  item := by
    intro X hP hw hK hc i pins s σ H E I hf st hg
    subst hP hw hK
    obtain ⟨f0, f1, f2, f3, f4, f5⟩ := hf it (by simp)
    have W := Walks.range (prog := X.prog) (w := X.w) (I.ok.hd hc) it lo 1 n
    refine W.item i s _ _ hg st fun v h' tk hv st' kk => ?_
    obtain ⟨t, rfl⟩ := hv
    have I1 : Inv X pins σ H { s with heap := h', toks := tk } := I.turned (fun b o hb e => kk b o (by simpa using hb) e) f0 f1 f3 f4 f5
    refine ⟨_, rfl, go_of (s := { s with heap := h', toks := tk }) (n := "range_iterator") st' rfl rfl (by decide) ⟨.int (lo + i), H, I1, ⟨t, ?_⟩, ⟨rfl, rfl⟩, st', fun b hb => (hf b hb).1⟩⟩
    rw [Int.mul_one]
  done := by
    intro X hP hw hK hc i pins s σ H E I hf st hg
    subst hP hw hK
    obtain ⟨f0, f1, f2, f3, f4, f5⟩ := hf it (by simp)
    exact wpAny_pyNext_range_end (I.ok.hd hc) st (by have : n ≤ i := hg; omega) fun h' eb => ⟨rfl, I.turned (t' := s.toks) (fun b o hb e => eb b o hb e) f0 f1 f3 f4 f5⟩
  self := fun _ _ _ _ _ st h => wpAny_pyIter_rangeiter st h
end L2
namespace L2
open PySem PySem.Spec PyProof.Rows
section
variable {X : Cx} {tg : Expr}
theorem range_it {pins : List (Addr × Obj)} {σ : St} {H : Hp} {s : Shared} {R : It → Hp → Prop} {E : Value → Shared → Prop} {lo hi : Int} {t u v : Tok} {tk : Nat} (I : Inv X pins σ H s) (h1 : -(2 ^ 62) ≤ lo) (h2 : lo < 2 ^ 62) (h3 : -(2 ^ 62) ≤ hi) (h4 : hi < 2 ^ 62)
    (q : R (Itr lo (hi - lo).toNat) H) : wpAny (model X.prog X.w) X.A (pyIter (.ref s.heap.objs.size)) (PIE X pins σ tg R) E { s with heap := s.heap.push { cls := .type "range", data := .fields #[.int lo t, .int hi u, .int 1 v] }, toks := tk } := by
  refine wpAny_pyIter_range (IsRange.new ..) (small_one h1 h2 h3 h4) ?_
  have I1 : Inv X pins σ H { s with heap := s.heap.push { cls := .type "range", data := .fields #[.int lo t, .int hi u, .int 1 v] }, toks := tk } := I.kept fun b o e => Heap.get?_push_of_some _ e
  refine ⟨(s.heap.push { cls := .type "range", data := .fields #[.int lo t, .int hi u, .int 1 v] }).objs.size, [(s.heap.push { cls := .type "range", data := .fields #[.int lo t, .int hi u, .int 1 v] }).objs.size], _, _, H, rfl,
    I1.kept (t' := tk) fun b o e => Heap.get?_push_of_some _ e, turn_range _ lo (hi - lo).toNat, ?_, fun b hb => ?_, q⟩
  · have e1 : lo + ((0 : Nat) : Int) * 1 = lo := by simp
    have e2 : (((hi - lo).toNat : Nat) : Int) - ((0 : Nat) : Int) = Builtin.Range.rangeSize lo hi 1 := by rw [rangeSize_one]; split <;> omega
    show IsRangeIter _ _ (lo + ((0 : Nat) : Int) * 1) ((((hi - lo).toNat : Nat) : Int) - ((0 : Nat) : Int)) 1
    rw [e1, e2]
    exact Heap.get?_push_size _ rfl
  · have e : b = (s.heap.push { cls := .type "range", data := .fields #[.int lo t, .int hi u, .int 1 v] }).objs.size := by simpa using hb
    subst e
    exact I1.fpOk (Nat.le_refl _) (I1.hok.fresh (Nat.le_refl _))
def iRng1 (ta : TA) : TI := fun σ H R => ta σ H fun vs H1 => ∃ j : Int, vs = [.int j] ∧ -(2 ^ 62) ≤ j ∧ j < 2 ^ 62 ∧ R (Itr 0 j.toNat) H1
theorem pi_range1 {a : Expr} {ta : TA} {p pos : Pos} (hg : Gl X "range") (hm : X.mg "range" = none) (ha : PA X [a] ta) (hs : starEach [a] X.env = [(false, eval a X.env)] := by rfl) : PI X tg (.Call (.Name "range" p) [a] [] pos) (iRng1 ta) := by
  intro pins s σ H R I h
  refine Call_ (ld_blt I hg hm boot_range (PyProof.Rows.callWith_type1 (thn (ha pos pins s σ H _ I h) fun us s1 ⟨vs, H1, I1, r1, q1⟩ => ?_) hs rfl))
  obtain ⟨j, e, q1, q2, q⟩ := q1
  subst e
  cases r1 with
  | cons r rr =>
    cases rr
    obtain ⟨t, rfl⟩ := r
    exact call_range_1 (range_it I1 (by omega) (by omega) q1 q2 (by simpa using q))
def tFor (wi : TI) (g : TG) (tb : TS) : TS := fun D σ H => wi σ H fun J H1 => ∃ W : Nat → Nat → St → Hp → Prop, (∃ m, W 0 m σ H1) ∧ ∀ i m σ H, W i m σ H →
  (J.stop i H ∧ D.nx σ H) ∨ (J.go i H ∧ ∃ N : St → Hp → Prop, (∀ σ' H', N σ' H' → ∃ m', m' < m ∧ W (i + 1) m' σ' H') ∧ ∀ x H', J.yld i H x H' → g x σ H' fun σ2 H2 => tb { D with nx := N, ct := N, bk := D.nx } σ2 H2)
def pinsAt (fp : List Addr) (h : Heap) : List (Addr × Obj) := fp.filterMap fun b => (h.get? b).map fun o => (b, o)
theorem mem_pinsAt {fp : List Addr} {h : Heap} {b : Addr} {o : Obj} (hb : b ∈ fp) (e : h.get? b = some o) : (b, o) ∈ pinsAt fp h := List.mem_filterMap.mpr ⟨b, hb, by rw [e]; rfl⟩
theorem of_pinsAt {fp : List Addr} {h : Heap} {p : Addr × Obj} (hp : p ∈ pinsAt fp h) : p.1 ∈ fp ∧ h.get? p.1 = some p.2 := by
  obtain ⟨b, hb, e⟩ := List.mem_filterMap.mp hp
  cases q : h.get? b with
  | none => rw [q] at e; cases e
  | some o =>
    rw [q] at e
    have e' : (b, o) = p := Option.some.inj e
    subst e'
    exact ⟨hb, q⟩
theorem Inv.pinned {pins : List (Addr × Obj)} {σ : St} {H : Hp} {s : Shared} {fp : List Addr} (I : Inv X pins σ H s) (hf : ∀ b ∈ fp, FpOk X pins H b) (ho : ∀ b ∈ fp, ∃ o, s.heap.get? b = some o ∧ ∀ v, o.data ≠ .cell v) : Inv X (pins ++ pinsAt fp s.heap) σ H s :=
  I.pins_of fun p hp => (List.mem_append.mp hp).elim (fun z => I.pin p (List.mem_append_right _ z)) fun z => by
    obtain ⟨hb, e⟩ := of_pinsAt z
    obtain ⟨f0, f1, f2, _⟩ := hf p.1 hb
    obtain ⟨o, e', d⟩ := ho p.1 hb
    rw [e] at e'; cases e'
    exact ⟨e, f0, f1, f2, d⟩
theorem Inv.unpinned {pins pl : List (Addr × Obj)} {σ : St} {H : Hp} {s : Shared} (I : Inv X (pins ++ pl) σ H s) : Inv X pins σ H s := I.pins_of fun p hp => I.pin p (List.mem_append_right _ (List.mem_append_left _ hp))
theorem ps_for {iter : Expr} {body : List Stmt} {wi : TI} {g : TG} {tb : TS} {pos : Pos} (hp : PassesOwn (model X.prog X.w) X.A X.env X.xe) (hc : X.calm = true) (hi : PI X tg iter wi) (hg : PG X tg g) (hb : PSs X body tb)
    (hs : ∀ x, foldedSetIterable iter X.env x = pure x := by intro _; rfl) : PS X (.For tg iter body [] pos) (tFor wi g tb) := .mk <| by
  intro pins s σ H D I h
  refine wpAny_For (thn (hi pins s σ H _ I h) fun v s1 h1 => thn h1 fun itv s2 h2 => ?_) hs
  obtain ⟨it, fp, tn, J, H2, e, I2, T, st2, f2, W, ⟨m0, w0⟩, turn⟩ := h2
  subst e
  have stat : ∀ {H' : Hp}, (∀ b ∈ fp, H' b = none) → ∀ b ∈ fp, FpOk X pins H' b := fun hn b hb => ⟨hn b hb, (f2 b hb).2⟩
  refine codeAny_forLoop_any (fun n s' => ∃ i σ' H', Inv X pins σ' H' s' ∧ tn i s'.heap ∧ (∀ b ∈ fp, H' b = none) ∧ W i n σ' H') ?_ m0 ⟨0, σ, H2, I2, st2, fun b hb => (f2 b hb).1, w0⟩
  rintro n s3 ⟨i, σ3, H3, I3, st3, fr3, w3⟩
  rcases turn i n σ3 H3 w3 with ⟨stop, qn⟩ | ⟨go, N, hN, step⟩
  · refine wpAny_passesOwn hp (thn (T.done X rfl rfl rfl hc i pins s3 σ3 H3 X.xe I3 (stat fr3) st3 stop) fun r s4 ⟨hr, I4⟩ => ?_)
    subst hr
    exact wpAny_execs_nil ⟨σ3, H3, I4, qn⟩
  · refine wpAny_passesOwn hp (thn (T.item X rfl rfl rfl hc i pins s3 σ3 H3 X.xe I3 (stat fr3) st3 go) fun r s4 ⟨u, hr, h4⟩ => ?_)
    subst hr
    refine wpAny_passesOwn hp (thn h4 fun _ s5 ⟨x, H5, I5, r5, y5, st5, fr5⟩ => ?_)
    have I5' := I5.pinned (stat fr5) (T.obj _ _ st5)
    refine wpAny_passesOwn hp (thn (hg _ s5 σ3 H5 x u _ I5' r5 (step x H5 y5)) fun _ s6 ⟨σ6, H6, I6, q6⟩ => ?_)
    refine wpAny_passesOwn hp (thn (hb _ s6 σ6 H6 _ I6 q6) fun f s7 q7 => ?_)
    have again : ∀ {σ7 : St} {H7 : Hp}, Inv X (pins ++ pinsAt fp s5.heap) σ7 H7 s7 → N σ7 H7 → ∃ m, m < n ∧ ∃ i σ' H', Inv X pins σ' H' s7 ∧ tn i s7.heap ∧ (∀ b ∈ fp, H' b = none) ∧ W i m σ' H' := fun {σ7 H7} I7 n7 => by
      obtain ⟨m', hm, w7⟩ := hN σ7 H7 n7
      refine ⟨m', hm, i + 1, σ7, H7, I7.unpinned, T.keep _ _ _ st5 fun b hb o e => (I7.pin (b, o) (List.mem_append_right _ (List.mem_append_right _ (mem_pinsAt hb e)))).1, fun b hb => ?_, w7⟩
      obtain ⟨o, e, d⟩ := T.obj _ _ st5 b hb
      exact (I7.pin (b, o) (List.mem_append_right _ (List.mem_append_right _ (mem_pinsAt hb e)))).2.1
    cases f with
    | next => obtain ⟨σ7, H7, I7, n7⟩ := q7; exact again I7 n7
    | cont => obtain ⟨σ7, H7, I7, n7⟩ := q7; exact again I7 n7
    | brk => obtain ⟨σ7, H7, I7, q7⟩ := q7; exact ⟨σ7, H7, I7.unpinned, q7⟩
    | ret v => obtain ⟨x7, σ7, H7, I7, r7, q7⟩ := q7; exact ⟨x7, σ7, H7, I7.unpinned, r7, q7⟩
end
end L2
namespace L2
open PySem PySem.Spec PyProof.Rows
abbrev R2 := V → V → Hp → VK → Prop
def OpR (X : Cx) (f : Value → Value → Sem Value) (r : R2) : Prop :=
  ∀ (pins : List (Addr × Obj)) (s : Shared) (σ : St) (H : Hp) (x y : V) (v u : Value) (Q : VK), Inv X pins σ H s → RelV x v → RelV y u → r x y H Q →
    wpAny (model X.prog X.w) X.A (f v u) (EP X pins σ Q) X.xe s
def CallR (X : Cx) (f : Value) (r : List V → Hp → VK → Prop) : Prop :=
  ∀ (pins : List (Addr × Obj)) (s : Shared) (σ : St) (H : Hp) (xs : List V) (us : List Value) (Q : VK), Inv X pins σ H s → Vals xs us → r xs H Q →
    wpAny (model X.prog X.w) X.A (call f us) (EP X pins σ Q) X.xe s
def TruR (X : Cx) (r : V → Hp → (Bool → Hp → Prop) → Prop) : Prop :=
  ∀ (pins : List (Addr × Obj)) (s : Shared) (σ : St) (H : Hp) (x : V) (v : Value) (Q : Bool → Hp → Prop), Inv X pins σ H s → RelV x v → r x H Q →
    wpAny (model X.prog X.w) X.A (truthy v) (TP X pins σ Q) X.xe s
def tOp (r : R2) (ta tb : TE) : TE := fun σ H Q => ta σ H fun x H1 => tb σ H1 fun y H2 => r x y H2 Q
def rI (C : Int → Int → Prop) (g : Int → Int → V) : R2 := fun x y H Q => ∃ i j, x = .int i ∧ y = .int j ∧ C i j ∧ Q (g i j) H
def rI0 (g : Int → Int → V) : R2 := fun x y H Q => ∃ i j, x = .int i ∧ y = .int j ∧ Q (g i j) H
section
variable {X : Cx} {a b c : Expr} {ta tb tc : TE} {pos : Pos}
theorem binT (ha : PE X a ta) (hb : PE X b tb) {pins : List (Addr × Obj)} {s : Shared} {σ : St} {H : Hp} {R : V → V → Hp → Prop} (I : Inv X pins σ H s)
    (h : ta σ H fun x H1 => tb σ H1 fun y H2 => R x y H2) {Q : Value → Shared → Prop} {f : Value → Value → Sem Value}
    (hf : ∀ v u s2 x y H2, Inv X pins σ H2 s2 → RelV x v → RelV y u → R x y H2 → wpAny (model X.prog X.w) X.A (f v u) Q X.xe s2) :
    wpAny (model X.prog X.w) X.A (eval a X.env) (fun v s₁ => wpAny (model X.prog X.w) X.A (eval b X.env) (fun u s₂ => wpAny (model X.prog X.w) X.A (f v u) Q X.xe s₂) X.xe s₁) X.xe s := by
  refine thn (ha pins s σ H _ I h) fun v s1 ⟨x, H1, I1, r1, q1⟩ => ?_
  refine thn (hb pins s1 σ H1 _ I1 q1) fun u s2 ⟨y, H2, I2, r2, q2⟩ => ?_
  exact hf v u s2 x y H2 I2 r1 r2 q2
theorem pe_op {op : Operator} {r : R2} (ho : OpR X (binaryOp op) r) (ha : PE X a ta) (hb : PE X b tb) : PE X (.BinOp a op b pos) (tOp r ta tb) := .mk <| by
  intro pins s σ H Q I h
  exact wpAny_BinOp (binT ha hb I h fun v u s2 x y H2 I2 rx ry q => ho pins s2 σ H2 x y v u Q I2 rx ry q)
theorem opI {f : Value → Value → Sem Value} {C : Int → Int → Prop} {g : Int → Int → Int}
    (rule : ∀ (i j : Int) (t u : Tok) (s : Shared) (Q : Value → Shared → Prop) (E : Value → Shared → Prop), C i j → Q (.int (g i j) s.toks) { s with toks := s.toks + 1 } → wpAny (model X.prog X.w) X.A (f (.int i t) (.int j u)) Q E s) :
    OpR X f (rI C fun i j => .int (g i j)) := by
  intro pins s σ H x y v u Q I rx ry h
  obtain ⟨i, j, rfl, rfl, hc, q⟩ := h
  obtain ⟨t, rfl⟩ := rx
  obtain ⟨t', rfl⟩ := ry
  exact rule i j t t' s _ _ hc ⟨.int (g i j), H, I.tok _, ⟨_, rfl⟩, q⟩
theorem opI0 {f : Value → Value → Sem Value} {g : Int → Int → Int}
    (rule : ∀ (i j : Int) (t u : Tok) (s : Shared) (Q : Value → Shared → Prop) (E : Value → Shared → Prop), Q (.int (g i j) s.toks) { s with toks := s.toks + 1 } → wpAny (model X.prog X.w) X.A (f (.int i t) (.int j u)) Q E s) :
    OpR X f (rI0 fun i j => .int (g i j)) := by
  intro pins s σ H x y v u Q I rx ry h
  obtain ⟨i, j, rfl, rfl, q⟩ := h
  obtain ⟨t, rfl⟩ := rx
  obtain ⟨t', rfl⟩ := ry
  exact rule i j t t' s _ _ ⟨.int (g i j), H, I.tok _, ⟨_, rfl⟩, q⟩
theorem opB0 {f : Value → Value → Sem Value} {g : Int → Int → Bool}
    (rule : ∀ (i j : Int) (t u : Tok) (s : Shared) (Q : Value → Shared → Prop) (E : Value → Shared → Prop), Q (.bool (g i j)) s → wpAny (model X.prog X.w) X.A (f (.int i t) (.int j u)) Q E s) :
    OpR X f (rI0 fun i j => .bl (g i j)) := by
  intro pins s σ H x y v u Q I rx ry h
  obtain ⟨i, j, rfl, rfl, q⟩ := h
  obtain ⟨t, rfl⟩ := rx
  obtain ⟨t', rfl⟩ := ry
  exact rule i j t t' s _ _ ⟨.bl (g i j), H, I, rfl, q⟩
def CDiv (i j : Int) : Prop := 0 < j ∧ j < 1073741824
def CPow (i j : Int) : Prop := 0 ≤ j ∧ j ≤ 1000000 ∧ i.natAbs < 2 ^ 64
def CMul (i j : Int) : Prop := (-(2 ^ 64) < i ∧ i < 2 ^ 64) ∨ (-(2 ^ 64) < j ∧ j < 2 ^ 64)
theorem CMul.ok {i j : Int} (h : CMul i j) : IntMulOk i j := by
  rcases h with ⟨h1, h2⟩ | ⟨h1, h2⟩
  · exact .of_left (intBits_le_64 h1 h2)
  · exact .of_right (intBits_le_64 h1 h2)
theorem op_add : OpR X (binaryOp .Add) (rI0 fun i j => .int (i + j)) := opI0 fun _ _ _ _ _ _ _ q => add_int q
theorem op_sub : OpR X (binaryOp .Sub) (rI0 fun i j => .int (i - j)) := opI0 fun _ _ _ _ _ _ _ q => sub_int q
theorem op_mul : OpR X (binaryOp .Mult) (rI CMul fun i j => .int (i * j)) := opI fun _ _ _ _ _ _ _ hc q => mul_int q hc.ok
theorem op_fdiv : OpR X (binaryOp .FloorDiv) (rI CDiv fun i j => .int (i / j)) := opI fun i j _ _ _ _ _ hc q => by
  have h1 : (0 : Int) < j := hc.1
  have h2 : j < 1073741824 := hc.2
  exact floordiv_int (by omega) (by rw [Int.fdiv_eq_ediv_of_nonneg i (by omega)]; exact q) (.inl (PyProof.noPylong_small (by omega)))
theorem op_mod : OpR X (binaryOp .Mod) (rI (fun _ j => 0 < j) fun i j => .int (i % j)) := opI fun i j _ _ _ _ _ hc q => by
  have h1 : (0 : Int) < j := hc
  exact mod_int' (by omega) (by rw [Int.fmod_eq_emod_of_nonneg i (by omega)]; exact q)
theorem op_pow : OpR X (binaryOp .Pow) (rI CPow fun i j => .int (i ^ j.toNat)) := opI fun _ _ _ _ _ _ _ hc q => pow_int_small hc.1 hc.2.1 hc.2.2 q
theorem op_shl : OpR X (binaryOp .LShift) (rI CPow fun i j => .int (i * 2 ^ j.toNat)) := opI fun _ _ _ _ _ _ _ hc q => lshift_int_small hc.1 hc.2.1 hc.2.2 q
end
section
variable {X : Cx} {a b c : Expr} {ta tb tc : TE} {pos : Pos}
theorem op_lt : OpR X (compareOp .Lt) (rI0 fun i j => .bl (decide (i < j))) := opB0 fun _ _ _ _ _ _ _ q => lt_int q
theorem op_gt : OpR X (compareOp .Gt) (rI0 fun i j => .bl (decide (j < i))) := opB0 fun _ _ _ _ _ _ _ q => gt_int q
theorem op_ge : OpR X (compareOp .GtE) (rI0 fun i j => .bl (decide (j ≤ i))) := opB0 fun _ _ _ _ _ _ _ q => ge_int q
theorem OpR.or {f : Value → Value → Sem Value} {r r' : R2} (h : OpR X f r) (h' : OpR X f r') : OpR X f (fun x y H Q => r x y H Q ∨ r' x y H Q) := by
  intro pins s σ H x y v u Q I rx ry q
  rcases q with q | q
  · exact h pins s σ H x y v u Q I rx ry q
  · exact h' pins s σ H x y v u Q I rx ry q
theorem nomark (b : Expr) {op : CmpOp} (h : op ≠ .In := by decide) (h2 : op ≠ .NotIn := by decide) : behindInMarks op b = false := by
  have e1 : (op == CmpOp.In) = false := by cases op <;> first | rfl | exact absurd rfl h
  have e2 : (op == CmpOp.NotIn) = false := by cases op <;> first | rfl | exact absurd rfl h2
  cases b <;> simp [behindInMarks, e1, e2]
theorem pe_cmpR {op : CmpOp} {r : R2} (ho : OpR X (compareOp op) r) (ha : PE X a ta) (hb : PE X b tb) (hm : behindInMarks op b = false) : PE X (.Compare a [op] [b] pos) (tOp r ta tb) := .mk <| by
  intro pins s σ H Q I h
  exact wpAny_Compare1 (binT ha hb I h fun v u s2 x y H2 I2 rx ry q => ho pins s2 σ H2 x y v u Q I2 rx ry q) hm
def tTest (t : TE) : TT := fun σ H Q => t σ H fun x H' => ∃ k, x = .bl k ∧ Q k H'
theorem pt_cmpR {op : CmpOp} {r : R2} (ho : OpR X (compareOp op) r) (ha : PE X a ta) (hb : PE X b tb) (hm : behindInMarks op b = false) : PT X (.Compare a [op] [b] pos) (tTest (tOp r ta tb)) := by
  intro pins s σ H Q I h
  refine wpAny_isTrue_Compare1 (thn (ha pins s σ H _ I h) fun v s1 ⟨x, H1, I1, r1, q1⟩ => thn (hb pins s1 σ H1 _ I1 q1) fun u s2 ⟨y, H2, I2, r2, q2⟩ =>
    thn (ho pins s2 σ H2 x y v u _ I2 r1 r2 q2) fun c s3 ⟨z, H3, I3, r3, k, e, q3⟩ => ?_) hm
  subst e
  cases r3
  exact wpAny_truthy_bool ⟨H3, I3, q3⟩
def TruV (K : PySem.W.Frag) (x : V) (H : Hp) (k : Bool) : Prop :=
  match x with
  | .non => k = false
  | .bl b => k = b
  | .int i => k = (i != 0)
  | .str y => y.length ≤ sizeLine ∧ k = ((y.length : Int) != 0)
  | .byt y => y.size ≤ sizeLine ∧ k = ((y.size : Int) != 0)
  | .ref p => (∃ xs, SqL K H p xs ∧ k = !xs.isEmpty) ∨ (∃ xs, SqT K H p xs ∧ k = !xs.isEmpty) ∨ ∃ kvs, H p = some (.dK kvs) ∧ k = !kvs.isEmpty
  | _ => False
theorem isEmpty_kv {κ : Type} {kvs : List (κ × V)} {vs : List (κ × Value)} (r : KV kvs vs) : (!vs.isEmpty) = !kvs.isEmpty := by
  cases r <;> rfl
theorem isEmpty_of {xs : List V} {its : List Value} (r : Vals xs its) : (!its.toArray.isEmpty) = !xs.isEmpty := by
  cases r <;> simp
theorem line63 : (sizeLine : Nat) < 2 ^ 63 := by rw [sizeLine_eq]; decide
theorem tru_ok : TruR X (fun x H Q => ∃ k, TruV X.K x H k ∧ Q k H) := by
  intro pins s σ H x v Q I rx h
  obtain ⟨k, e, q⟩ := h
  have hl := line63
  have hs : sizeLine = 16777216 := sizeLine_eq
  cases x with
  | non =>
    cases rx
    have e' : k = false := e
    subst e'
    exact truthy_none ⟨H, I, q⟩
  | bl b =>
    cases rx
    have e' : k = b := e
    subst e'
    exact wpAny_truthy_bool ⟨H, I, q⟩
  | int i =>
    obtain ⟨t, rfl⟩ := rx
    have e' : k = (i != 0) := e
    subst e'
    exact PySem.P.truthy_int ⟨H, I, q⟩
  | str y =>
    obtain ⟨t, rfl⟩ := rx
    obtain ⟨hy, e'⟩ : y.length ≤ sizeLine ∧ k = ((y.length : Int) != 0) := e
    subst e'
    exact PySem.P.truthy_str (by omega) ⟨H, I.tok _, q⟩
  | byt y =>
    obtain ⟨t, rfl⟩ := rx
    obtain ⟨hy, e'⟩ : y.size ≤ sizeLine ∧ k = ((y.size : Int) != 0) := e
    subst e'
    exact PySem.W.truthy_bytes (by omega) ⟨H, I.tok _, q⟩
  | ref p =>
    cases rx
    have e' : (∃ xs, SqL X.K H p xs ∧ k = !xs.isEmpty) ∨ (∃ xs, SqT X.K H p xs ∧ k = !xs.isEmpty) ∨ ∃ kvs, H p = some (.dK kvs) ∧ k = !kvs.isEmpty := e
    rcases e' with ⟨xs, hx, e'⟩ | ⟨xs, hx, e'⟩ | ⟨kvs, hx, e'⟩
    · subst e'
      obtain ⟨its, r, pl, hz⟩ := I.list hx
      have hlen := r.length
      exact wpAny_truthy_list pl.isList (by simp only [List.size_toArray]; omega) ⟨H, I.tok _, by rw [isEmpty_of r]; exact q⟩
    · subst e'
      obtain ⟨its, r, pl, hz⟩ := I.tuple hx
      have hlen := r.length
      exact truthy_tuple pl (by simp only [List.size_toArray]; omega) ⟨H, I.tok _, by rw [isEmpty_of r]; exact q⟩
    · subst e'
      obtain ⟨hz, hS, vs, r, m⟩ : kvs.length ≤ sizeLine ∧ (p == sysModules) = false ∧ ∃ vs, KV kvs vs ∧ s.heap.DictOf (mixKind X.prog X.w) p vs := I.hok p _ hx
      have hlen : kvs.length = vs.length := Paired.length r
      exact wpAny_truthy_dict hS m (by omega) ⟨H, I.tok _, by rw [isEmpty_kv r]; exact q⟩
  | _ => exact (show False from e).elim
theorem pt_truth (ha : PE X a ta) (he : ∀ whole, isTrue a X.env whole = (do let v ← whole; standAt a.pos; holding [v] (truthy v))) :
    PT X a (fun σ H Q => ta σ H fun x H' => ∃ k, TruV X.K x H' k ∧ Q k H') := by
  intro pins s σ H Q I h
  exact isTrue_plain (thn (ha pins s σ H _ I h) fun v s1 ⟨x, H1, I1, r1, q1⟩ => tru_ok pins s1 σ H1 x v Q I1 r1 q1) (he _)
theorem vals1 {x : V} {us : List Value} (r : Vals [x] us) : ∃ u, us = [u] ∧ RelV x u := by
  cases r with
  | cons r1 r2 => cases r2; exact ⟨_, rfl, r1⟩
theorem call_abs : CallR X (.builtin "abs") (fun xs H Q => ∃ i, xs = [.int i] ∧ Q (.int (if i < 0 then -i else i)) H) := by
  intro pins s σ H xs us Q I r h
  obtain ⟨i, rfl, q⟩ := h
  obtain ⟨u, rfl, t, rfl⟩ := vals1 r
  exact call_abs_int fun u tk => ⟨.int (if i < 0 then -i else i), H, I.tok _, ⟨_, rfl⟩, q⟩
theorem call_int1 : CallR X (.type "int") (fun xs H Q => (∃ i, xs = [.int i] ∧ Q (.int i) H) ∨ ∃ k, xs = [.bl k] ∧ Q (.int (if k then 1 else 0)) H) := by
  intro pins s σ H xs us Q I r h
  rcases h with ⟨i, rfl, q⟩ | ⟨k, rfl, q⟩
  · obtain ⟨u, rfl, t, rfl⟩ := vals1 r
    exact call_int_int ⟨.int i, H, I, ⟨_, rfl⟩, q⟩
  · obtain ⟨u, rfl, r1⟩ := vals1 r
    cases r1
    exact call_int_bool ⟨.int (if k then 1 else 0), H, I.tok _, ⟨_, rfl⟩, q⟩
def LenV (K : PySem.W.Frag) (x : V) (H : Hp) (n : Nat) : Prop :=
  match x with
  | .str y => y.length ≤ sizeLine ∧ n = y.length
  | .byt y => y.size ≤ sizeLine ∧ n = y.size
  | .ref p => (∃ xs, SqL K H p xs ∧ n = xs.length) ∨ ∃ xs, SqT K H p xs ∧ n = xs.length
  | _ => False
theorem call_len : CallR X (.builtin "len") (fun xs H Q => ∃ x n, xs = [x] ∧ LenV X.K x H n ∧ Q (.int n) H) := by
  intro pins s σ H xs us Q I r h
  obtain ⟨x, n, rfl, e, q⟩ := h
  obtain ⟨u, rfl, rx⟩ := vals1 r
  have hl := line63
  have hs : sizeLine = 16777216 := sizeLine_eq
  cases x with
  | str y =>
    obtain ⟨t, rfl⟩ := rx
    obtain ⟨hy, e'⟩ : y.length ≤ sizeLine ∧ n = y.length := e
    subst e'
    exact len_str (by omega) ⟨.int _, H, I.tok _, ⟨_, rfl⟩, q⟩
  | byt y =>
    obtain ⟨t, rfl⟩ := rx
    obtain ⟨hy, e'⟩ : y.size ≤ sizeLine ∧ n = y.size := e
    subst e'
    exact PySem.W.len_bytes (by omega) ⟨.int _, H, I.tok _, ⟨_, rfl⟩, q⟩
  | ref p =>
    cases rx
    have e' : (∃ xs, SqL X.K H p xs ∧ n = xs.length) ∨ ∃ xs, SqT X.K H p xs ∧ n = xs.length := e
    rcases e' with ⟨xs, hx, e'⟩ | ⟨xs, hx, e'⟩
    · subst e'
      obtain ⟨its, r', pl, hz⟩ := I.list hx
      have hlen := r'.length
      exact Calls.call_len_list pl.isList (by simp only [List.size_toArray]; omega) ⟨.int xs.length, H, I.tok _, ⟨_, by simp only [List.size_toArray]; rw [hlen]⟩, q⟩
    · subst e'
      obtain ⟨its, r', pl, hz⟩ := I.tuple hx
      have hlen := r'.length
      exact len_tuple pl (by simp only [List.size_toArray]; omega) ⟨.int xs.length, H, I.tok _, ⟨_, by simp only [List.size_toArray]; rw [hlen]⟩, q⟩
  | _ => exact (show False from e).elim
end
end L2
namespace L2
open PySem PySem.Spec PyProof.Rows
structure ObjM (h : Heap) (x dx C : Addr) (mA : Str → Option Value) : Prop where
  obj : h.get? x = some (PySem.W.instObj C dx)
  ns : h.Ns1 dx mA
  ne : dx ≠ x
theorem lookIn_ns {h : Heap} {dx : Addr} {mA : Str → Option Value} (n : h.Ns1 dx mA) : ∃ od, h.get? dx = some od ∧ ∀ name, PySem.W.lookIn name od = some (mA name) := by
  obtain ⟨o, es, ep, ho, hd, hk, _, hm⟩ := n
  refine ⟨o, ho, fun name => ?_⟩
  have e := hm name
  unfold nsFind findBy at e
  rw [← Array.find?_toList] at e
  unfold PySem.W.lookIn
  rw [hd]
  dsimp only
  split
  · rename_i y q
    rw [q] at e
    exact congrArg some e
  · rename_i q
    rw [q] at e
    have a : es.toList.any (·.refKey) = false := by
      rw [List.any_eq_false]
      intro y hy
      obtain ⟨z, t, hkey⟩ := hk y (Array.mem_toList_iff.mp hy)
      simp [DictEntry.refKey, hkey]
    have a' : ¬ es.toList.any (·.refKey) = true := by rw [a]; exact Bool.false_ne_true
    rw [if_neg a']
    exact congrArg some e
theorem ObjM.look {h : Heap} {x dx C : Addr} {mA : Str → Option Value} (I : ObjM h x dx C mA) : ∃ od, PySem.W.InstAt h x (PySem.W.instObj C dx) C (some od) ∧ ∀ name, PySem.W.lookIn name od = some (mA name) :=
  let ⟨od, ho, hl⟩ := lookIn_ns I.ns
  ⟨od, ⟨I.obj, rfl, rfl, ho⟩, hl⟩
section
variable {prog : Program} {w : World} {A : Around} {E : Value → Shared → Prop} {s : Shared} {K : PySem.W.Frag} {x dx C f : Addr} {mA : Str → Option Value} {name : Str} {v : Value}
end
section
variable {P : Program} {w : World} {H H' : Hp} {h h' : Heap} {a C dx : Addr} {fs fs' : List (Str × V)}
end
structure Cls (K : PySem.W.Frag) (C : Addr) : Prop where
  pg : PySem.W.plainGet K C Str.empty = true
  hd : PySem.W.hasDictIn K C = true
  po : PySem.W.plainOver K C = true
  sa : PySem.W.findIn K (.ref C) "__setattr__" = some (some (.builtin "object.__setattr__"))
theorem Cls.get {K : PySem.W.Frag} {C : Addr} (c : Cls K C) (f : Str) : PySem.W.plainGet K C f = true := c.pg
structure Con (K : PySem.W.Frag) (C : Addr) (f : Str) (v : V) (u : Value) : Prop where
  at_ : PySem.W.findIn K (.ref C) f = some (some u)
  rel : RelV v u
  get : PySem.W.specialIn K u "__get__" = some none
  cp : PySem.W.copiedNames.contains f = false
structure Meth (K : PySem.W.Frag) (C : Addr) (m : Str) (f : Addr) : Prop where
  at_ : PySem.W.findIn K (.ref C) m = some (some (.ref f))
  fn : PySem.W.isFn K (.ref f) = true
  kp : PySem.W.keepIn K (.ref f) = true
section
variable {X : Cx} {pins : List (Addr × Obj)} {σ : St} {H : Hp} {s : Shared} {a C dx : Addr} {fs : List (Str × V)} {f : Str} {v : V} {A : Around} {E : Value → Shared → Prop}
theorem Inv.made (I : Inv X pins σ H s) : Inv X pins σ (upd (upd H s.heap.objs.size (.own (s.heap.objs.size + 1))) (s.heap.objs.size + 1) (.ins C s.heap.objs.size []))
    { s with heap := (s.heap.push PySem.W.emptyDict).push (PySem.W.instObj C s.heap.objs.size) } := by
  have e1 : (s.heap.push PySem.W.emptyDict).get? s.heap.objs.size = some PySem.W.emptyDict := Heap.get?_push_size s.heap rfl
  have e2 : ((s.heap.push PySem.W.emptyDict).push (PySem.W.instObj C s.heap.objs.size)).get? (s.heap.objs.size + 1) = some (PySem.W.instObj C s.heap.objs.size) := by
    have := Heap.get?_push_size (s.heap.push PySem.W.emptyDict) (o := PySem.W.instObj C s.heap.objs.size) rfl
    rwa [Heap.size_push] at this
  have e3 : (s.heap.push PySem.W.emptyDict).Ns s.heap.objs.size (fun _ => none) := ⟨PySem.W.emptyDict, #[], _, e1, rfl, (fun e he => absurd he (by simp)), fun _ => rfl⟩
  have I1 := I.laid (a := s.heap.objs.size) (o := .own (s.heap.objs.size + 1)) (h' := s.heap.push PySem.W.emptyDict) (t' := s.toks) (fun b u q => Heap.get?_push_of_some _ q) (Nat.le_refl _) ⟨_, e1⟩
  refine I1.laid (a := s.heap.objs.size + 1) (o := .ins C s.heap.objs.size []) (t' := s.toks) (fun b u q => Heap.get?_push_of_some _ q) (Nat.le_of_eq (Heap.size_push _ _)) ?_
  have ne : s.heap.objs.size ≠ s.heap.objs.size + 1 := Nat.ne_of_lt (Nat.lt_succ_self _)
  refine ⟨by rw [upd_ne ne, upd_same], Nat.zero_le _, ne, e2, fun _ => none, (Heap.Ns1.of_empty e3).at fun o q => Heap.get?_push_of_some _ q, fun _ => True.intro, fun y hy => absurd rfl hy⟩
end
section
variable {X : Cx} {o e value : Expr} {f : Str} {pos pos' tpos : Pos} {ta tv : TE}
end
section
variable {X : Cx} {pins : List (Addr × Obj)} {σ : St} {H : Hp} {s : Shared} {A : Around} {E : Value → Shared → Prop} {Q : Value → Shared → Prop} {c : Value} {b : Bool}
inductive TyOf (K : PySem.W.Frag) (H : Hp) : V → Value → Prop where
  | non : TyOf K H .non (.type "NoneType")
  | bl (x : Bool) : TyOf K H (.bl x) (.type "bool")
  | int (i : Int) : TyOf K H (.int i) (.type "int")
  | str (x : Str) : TyOf K H (.str x) (.type "str")
  | flt (x : UInt64) : TyOf K H (.flt x) (.type "float")
  | lst {a : Addr} {xs : List V} (e : H a = some (.lst xs)) : TyOf K H (.ref a) (.type "list")
  | frz {a : Addr} {o : Obj} {xs : List V} (e : H a = some (.frz o (.lst xs))) : TyOf K H (.ref a) (.type "list")
  | tup {a : Addr} {xs : List V} (e : H a = some (.tup xs)) : TyOf K H (.ref a) (.type "tuple")
  | dK {a : Addr} {kvs : List (Key × V)} (e : H a = some (.dK kvs)) : TyOf K H (.ref a) (.type "dict")
  | dT {a : Addr} {kvs : List (List Key × V)} (e : H a = some (.dT kvs)) : TyOf K H (.ref a) (.type "dict")
  | ins {a C dx : Addr} {fs : List (Str × V)} (e : H a = some (.ins C dx fs)) (cl : Cls K C) (ha : PySem.W.findIn K (.ref C) "__class__" = some (some (.builtin "object.__class__")))
      (hn : PySem.W.specialIn K (.builtin "object.__class__") "__get__" = some (some (.builtin "getset_descriptor.__get__"))) (htk : PySem.W.takesIn K (.builtin "object.__class__") = some true)
      (hm : PySem.W.mroIn K C (.type "object") = some true) : TyOf K H (.ref a) (.ref C)
end
end L2
namespace L2
open PySem PySem.Spec PyProof.Rows
structure Room (k : Nat) (A : Around) : Prop where
  hd : A.handled = none
  dp : A.depth + 3 * k + 5 < recursionLimit
  un : A.units + 16 * k + 200 < cLine
  gd : A.guards = some []
theorem Room.mono {j k : Nat} {A : Around} (r : Room k A) (h : j ≤ k) : Room j A := ⟨r.hd, by have := r.dp; omega, by have := r.un; omega, r.gd⟩
theorem Room.deeper {k : Nat} {A : Around} (r : Room (k + 1) A) (env : Env) : Room k (A.deeper env) :=
  ⟨r.hd, by have := r.dp; show A.depth + 1 + 3 * k + 5 < _; omega, by have := r.un; show A.units + 3 + 16 * k + 200 < _; omega, r.gd⟩
theorem Room.in1 {k : Nat} {A : Around} (r : Room (k + 1) A) : Room k A.in1 :=
  ⟨r.hd, by have := r.dp; show A.depth + 3 * k + 5 < _; omega, by have := r.un; show A.units + 1 + 16 * k + 200 < _; omega, r.gd⟩
theorem Room.depth {k : Nat} {A : Around} (r : Room k A) : A.depth < recursionLimit := by have := r.dp; omega
theorem Room.units {k : Nat} {A : Around} (r : Room k A) : A.units + 64 < cLine := by have := r.un; omega
def tNil : TA := fun _ H Q => Q [] H
def tCons (ta : TE) (tr : TA) : TA := fun σ H Q => ta σ H fun x H1 => tr σ H1 fun xs H2 => Q (x :: xs) H2
section
variable {X : Cx} {e : Expr} {es : List Expr} {te : TE} {t : TA} {pos : Pos}
theorem pa_nil : PA X [] tNil := .mk <| fun _ _ _ _ H Q I h => Calls.spliced_nil ⟨[], H, I, .nil, h⟩
theorem pa_cons (ha : PE X e te) (hr : PA X es t) (hs : starEach (e :: es) X.env = (false, eval e X.env) :: starEach es X.env := by rfl) : PA X (e :: es) (tCons te t) := .mk <| by
  intro pos pins s σ H Q I h
  rw [hs]
  show wpAny _ _ (spliced ((false, eval e X.env) :: backTo pos (starEach es X.env))) _ _ s
  refine Calls.spliced_cons (thn (ha pins s σ H _ I h) fun u s1 ⟨x, H1, I1, r1, q1⟩ => ?_)
  exact thn (hr pos pins s1 σ H1 _ I1 q1) fun us s2 ⟨xs, H2, I2, r2, q2⟩ => ⟨x :: xs, H2, I2, .cons r1 r2, q2⟩
def tTup (t : TA) : TE := fun σ H Q => t σ H fun xs H1 => xs.length ≤ sizeLine ∧ ∀ p, H1 p = none → Q (.ref p) (upd H1 p (.tup xs))
def tLst (t : TA) : TE := fun σ H Q => t σ H fun xs H1 => xs.length ≤ sizeLine ∧ ∀ p, H1 p = none → Q (.ref p) (upd H1 p (.lst xs))
theorem pe_tup {x1} (h : PA X es t) : PE X (.Tuple es x1 pos) (tTup t) := .mk <| by
  intro pins s σ H Q I hq
  refine wpAny_Tuple_spliced (thn (h pos pins s σ H _ I hq) fun us s1 ⟨xs, H1, I1, r, z, q⟩ => ⟨by rw [← r.length]; exact z, ?_⟩)
  have hf : H1 s1.heap.objs.size = none := I1.hok.fresh (Nat.le_refl _)
  refine ⟨.ref s1.heap.objs.size, upd H1 s1.heap.objs.size (.tup xs), I1.laid (t' := s1.toks) (fun b u e => Heap.get?_push_of_some _ e) (Nat.le_refl _) ?_, rfl, q _ hf⟩
  exact ⟨z, us, r, ⟨_, Heap.get?_push_size _ rfl, rfl, _, rfl⟩⟩
theorem pe_lst (h : PA X es t) : PE X (.List es pos) (tLst t) := .mk <| by
  intro pins s σ H Q I hq
  refine wpAny_List_spliced (thn (h pos pins s σ H _ I hq) fun us s1 ⟨xs, H1, I1, r, z, q⟩ => ⟨by rw [← r.length]; exact z, ?_⟩)
  have hf : H1 s1.heap.objs.size = none := I1.hok.fresh (Nat.le_refl _)
  refine ⟨.ref s1.heap.objs.size, upd H1 s1.heap.objs.size (.lst xs), I1.laid (t' := s1.toks) (fun b u e => Heap.get?_push_of_some _ e) (Nat.le_refl _) ?_, rfl, q _ hf⟩
  exact ⟨z, us, 0, r, Heap.get?_push_size _ rfl⟩
end
abbrev Sp := List V → Hp → VK → XK → Prop
abbrev CXT := List Env → Hp → Shared → XK → Value → Shared → Prop
structure Env0 (P : Program) (w : World) (K : PySem.W.Frag) (mg : Str → Option Value) (base : Heap) (A : Around) (outer : List Env) (s : Shared) (H : Hp) : Prop where
  frames : A.frames = some outer
  mod : Mod K mg base
  bs : ∀ b o, base.get? b = some o → s.heap.get? b = some o ∧ H b = none
  bsz : base.objs.size ≤ s.heap.objs.size
  funs : s.heap.FunFrames base outer
  frf : ∀ b ∈ frs outer, H b = none
  tt : TabT K H
  hok : HOk P w H s.heap
  bare : AllBare s.gens
def CE (outer : List Env) (P : Program) (w : World) (H : Hp) (s : Shared) (Q : VK) (u : Value) (s' : Shared) : Prop :=
  ∃ v H', s'.os = s.os ∧ AllBare s'.gens ∧ Un (frs outer) [] H H' s.heap s'.heap ∧ HOk P w H' s'.heap ∧ RelV v u ∧ Q v H'
def CR (CX : CXT) (outer : List Env) (P : Program) (w : World) (H : Hp) (s : Shared) (Q : VK) (E : XK) (r : Result) (s' : Shared) : Prop :=
  match r with
  | .ok (.ret u) => CE outer P w H s Q u s'
  | .ok _ => False
  | .error e => CX outer H s E e s'
structure FnOk (P : Program) (w : World) (K : PySem.W.Frag) (mg : Str → Option Value) (base : Heap) (CX : CXT) (k : Nat) (f : Addr) (fd : FuncData) (ps : List Str) (sp : Sp) : Prop where
  len : ∀ vs H Q E, sp vs H Q E → vs.length = ps.length
  run : ∀ (A : Around) (outer : List Env) (s : Shared) (H : Hp) (args : Args) (us : List Value) (vs : List V) (Q : VK) (E : XK), Room k A → Env0 P w K mg base A outer s H → BindsTo s fd args (ps.zip us) → Vals vs us → sp vs H Q E →
    codeAny (model P w) A (.call (.ref f) args) (CR CX outer P w H s Q E) s
theorem FnOk.mono {P : Program} {w : World} {K : PySem.W.Frag} {mg : Str → Option Value} {base : Heap} {CX : CXT} {j k : Nat} {f : Addr} {fd : FuncData} {ps : List Str} {sp : Sp} (F : FnOk P w K mg base CX j f fd ps sp) (h : j ≤ k) :
    FnOk P w K mg base CX k f fd ps sp := ⟨F.len, fun A outer s H args us vs Q E hr => F.run A outer s H args us vs Q E (hr.mono h)⟩
theorem FnOk.imp {P : Program} {w : World} {K : PySem.W.Frag} {mg : Str → Option Value} {base : Heap} {CX : CXT} {k : Nat} {f : Addr} {fd : FuncData} {ps : List Str} {sp sp' : Sp} (F : FnOk P w K mg base CX k f fd ps sp)
    (h : ∀ vs H Q E, sp' vs H Q E → sp vs H Q E) : FnOk P w K mg base CX k f fd ps sp' :=
  ⟨fun vs H Q E q => F.len vs H Q E (h _ _ _ _ q), fun A outer s H args us vs Q E hr he hb hv hs => F.run A outer s H args us vs Q E hr he hb hv (h _ _ _ _ hs)⟩
theorem Env0.in1 {P : Program} {w : World} {K : PySem.W.Frag} {mg : Str → Option Value} {base : Heap} {A : Around} {outer : List Env} {s : Shared} {H : Hp} (e : Env0 P w K mg base A outer s H) :
    Env0 P w K mg base A.in1 outer s H := ⟨e.frames, e.mod, e.bs, e.bsz, e.funs, e.frf, e.tt, e.hok, e.bare⟩
section
variable {X : Cx} {pins : List (Addr × Obj)} {σ : St} {H : Hp} {s s' : Shared}
theorem Inv.env0 (I : Inv X pins σ H s) : Env0 X.prog X.w X.K X.mg X.base X.A X.stack s H :=
  ⟨I.ok.frames, I.ok.mod, I.bs, Nat.le_trans I.ok.bsz I.sz, I.stack, I.stkFree, I.ok.tt.mono I.base.tbls, I.hok, I.bare⟩
theorem Inv.after {Q : VK} {u : Value} (I : Inv X pins σ H s) (h : CE X.stack X.prog X.w H s Q u s') : EP X pins σ Q u s' := by
  obtain ⟨v, H', os, bare, un, hok, r, q⟩ := h
  obtain ⟨hh, g, d, t, os'⟩ := s'
  obtain rfl : os' = s.os := os
  exact ⟨v, H', I.call (h' := hh) (g' := g) (d' := d) (t' := t) (ch := []) un hok bare (fun b z => absurd z (by simp)), r, q⟩
end
def tCall (sp : Sp) (dvs : List V) (E : XK) (t : TA) : TE := fun σ H Q => t σ H fun vs H1 => sp (vs ++ dvs) H1 Q E
def Binds (K : PySem.W.Frag) (fd : FuncData) (ps : List Str) (ds : List Value) : Prop :=
  ∀ (s : Shared) (us : List Value), K.In s.heap → (us ++ ds).length = ps.length → BindsTo s fd ⟨us, []⟩ (ps.zip (us ++ ds))
theorem Binds.all {K : PySem.W.Frag} {fd : FuncData} {ps : List Str} (h : ∀ us : List Value, us.length = ps.length → bindArgs fd ⟨us, []⟩ = pure (ps.zip us)) : Binds K fd ps [] := fun s us _ hl => by
  rw [List.append_nil] at hl ⊢
  exact .of_eq (h us hl)
def Passes (CX : CXT) (X : Cx) (E : XK) : Prop := ∀ (pins : List (Addr × Obj)) (σ : St) (H : Hp) (s : Shared) (e : Value) (s' : Shared), Inv X pins σ H s → CX X.stack H s E e s' → X.xe e s'
section
variable {X : Cx} {CX : CXT} {k : Nat} {f C : Addr} {fd : FuncData} {ps : List Str} {sp : Sp} {dvs : List V} {ds : List Value} {E : XK} {x m : Str} {p pos apos : Pos} {e o : Expr} {es : List Expr} {ta : TE} {t : TA}
theorem run_fn {pins : List (Addr × Obj)} {σ : St} {H : Hp} {s : Shared} {Q : VK} {us : List Value} {vs : List V} (F : FnOk X.prog X.w X.K X.mg X.base CX k f fd ps sp) (hr : Room k X.A) (hb : Binds X.K fd ps ds) (hd : Vals dvs ds) (hx : Passes CX X E)
    (I : Inv X pins σ H s) (r : Vals vs us) (h : sp (vs ++ dvs) H Q E) : wpAny (model X.prog X.w) X.A (call (.ref f) us) (EP X pins σ Q) X.xe s := by
  have r2 : Vals (vs ++ dvs) (us ++ ds) := r.append hd
  have hl : (us ++ ds).length = ps.length := by rw [← r2.length]; exact F.len _ _ _ _ h
  refine wpAny_call (codeAny_mono (F.run X.A X.stack s H ⟨us, []⟩ (us ++ ds) (vs ++ dvs) Q E hr I.env0 (hb s us I.kIn hl) r2 h) fun r s' hq => ?_)
  cases r with
  | error e => exact hx pins σ H s e s' I hq
  | ok fl =>
    cases fl with
    | ret u => exact I.after hq
    | next => exact False.elim hq
    | brk => exact False.elim hq
    | cont => exact False.elim hq
theorem pe_call (F : FnOk X.prog X.w X.K X.mg X.base CX k f fd ps sp) (hr : Room k X.A) (hg : Gl X x) (hm : X.mg x = some (.ref f)) (hk : PySem.W.keepIn X.K (.ref f) = true) (hb : Binds X.K fd ps ds) (hd : Vals dvs ds) (hx : Passes CX X E)
    (ha : PA X (e :: es) t) (hdb : (x == ("__debug__" : Str)) = false := by decide) (he : starEach (e :: es) X.env = (false, eval e X.env) :: starEach es X.env := by rfl) (hpl : (backTo pos (starEach es X.env)).any (·.1) = false := by rfl) :
    PE X (.Call (.Name x p) (e :: es) [] pos) (tCall sp dvs E t) := .mk <| by
  intro pins s σ H Q I h
  refine wpAny_Call_Name_kw (ld_glob I hg hm ?_ hdb)
  refine PySem.W.callWith_K (h₀ := X.base) I.ok.mod.kin hk (thn (ha pos pins s σ H _ I h) fun us s1 ⟨vs, H1, I1, r, q⟩ => ⟨I1.kIn, ?_⟩) he hpl
  exact run_fn F hr hb hd hx I1 r q
structure Mk (K : PySem.W.Frag) (C f : Addr) : Prop where
  makes : PySem.W.makesIn K C = true
  init : PySem.W.findIn K (.ref C) "__init__" = some (some (.ref f))
  fn : PySem.W.isFn K (.ref f) = true
  kp : PySem.W.keepIn K (.ref C) = true
end
section
variable {X : Cx} {CX : CXT} {k : Nat} {f C : Addr} {fd : FuncData} {ps ks : List Str} {sp : Sp} {E : XK} {x m : Str} {p pos apos kpos : Pos} {e o : Expr} {es : List Expr} {kws : List Keyword} {te ta : TE} {t tk : TA} {nm : Option Str}
structure KBinds (K : PySem.W.Frag) (fd : FuncData) (ps ks : List Str) (g : List Value → List Value → List Value) (gV : List V → List V → List V) : Prop where
  to : ∀ (s : Shared) (us ws : List Value), K.In s.heap → (g us ws).length = ps.length → BindsTo s fd ⟨us, ks.zip ws⟩ (ps.zip (g us ws))
  rel : ∀ {vs : List V} {us : List Value} {zs : List V} {ws : List Value}, Vals vs us → Vals zs ws → Vals (gV vs zs) (g us ws)
variable {g : List Value → List Value → List Value} {gV : List V → List V → List V}
end
structure FnScope (N P : List Str) (sc : Scope) : Prop where
  kind : sc.kind = .function
  co : sc.isCoroutine = false
  gen : sc.isGenerator = false
  nd : N.Nodup
  pre : N.take P.length = P
  par : ∀ x ∈ P, sc.names.lookup x = some .local ∨ sc.names.lookup x = some .cell
  nofree : ∀ y ∈ sc.names, y.2 ≠ .free
theorem bindL_out {kindOf : Str → Option NameKind} {x : Str} : ∀ {binds : List (Str × Value)} {m : Str → Option Value}, (∀ v, (x, v) ∉ binds) → bindL kindOf binds m x = m x
  | [], _, _ => rfl
  | (n, v) :: r, m, h => by
    unfold bindL
    rw [bindL_out fun w hw => h w (List.mem_cons_of_mem _ hw)]
    split
    · have : x ≠ n := by rintro rfl; exact h v List.mem_cons_self
      simp [this]
    · rfl
theorem bindC_out {kindOf : Str → Option NameKind} {x : Str} : ∀ {binds : List (Str × Value)} {m : Str → Option Value}, (∀ v, (x, v) ∉ binds) → bindC kindOf binds m x = m x
  | [], _, _ => rfl
  | (n, v) :: r, m, h => by
    unfold bindC
    rw [bindC_out fun w hw => h w (List.mem_cons_of_mem _ hw)]
    split
    · rfl
    · have : x ≠ n := by rintro rfl; exact h v List.mem_cons_self
      simp [this]
theorem bindL_get {kindOf : Str → Option NameKind} {x : Str} {v : Value} : ∀ {P : List Str} {vs : List Value} {i : Nat} {m : Str → Option Value}, P.Nodup → P[i]? = some x → vs[i]? = some v → kindOf x = some .local →
    bindL kindOf (P.zip vs) m x = some v
  | [], _, _, _, _, h, _, _ => by simp at h
  | _ :: _, [], _, _, _, _, h, _ => by simp at h
  | p :: P, w :: vs, 0, m, nd, h1, h2, hk => by
    simp at h1 h2; subst h1; subst h2
    show bindL kindOf ((p, w) :: P.zip vs) m p = _
    unfold bindL
    rw [bindL_out fun v hv => (List.nodup_cons.mp nd).1 (List.of_mem_zip hv).1, if_pos hk]
    simp
  | p :: P, w :: vs, i + 1, m, nd, h1, h2, hk => by
    show bindL kindOf ((p, w) :: P.zip vs) m x = _
    unfold bindL
    exact bindL_get (i := i) (List.nodup_cons.mp nd).2 (by simpa using h1) (by simpa using h2) hk
theorem bindC_get {kindOf : Str → Option NameKind} {x : Str} {v : Value} : ∀ {P : List Str} {vs : List Value} {i : Nat} {m : Str → Option Value}, P.Nodup → P[i]? = some x → vs[i]? = some v → kindOf x ≠ some .local →
    bindC kindOf (P.zip vs) m x = some v
  | [], _, _, _, _, h, _, _ => by simp at h
  | _ :: _, [], _, _, _, _, h, _ => by simp at h
  | p :: P, w :: vs, 0, m, nd, h1, h2, hk => by
    simp at h1 h2; subst h1; subst h2
    show bindC kindOf ((p, w) :: P.zip vs) m p = _
    unfold bindC
    rw [bindC_out fun v hv => (List.nodup_cons.mp nd).1 (List.of_mem_zip hv).1, if_neg hk]
    simp
  | p :: P, w :: vs, i + 1, m, nd, h1, h2, hk => by
    show bindC kindOf ((p, w) :: P.zip vs) m x = _
    unfold bindC
    exact bindC_get (i := i) (List.nodup_cons.mp nd).2 (by simpa using h1) (by simpa using h2) hk
def start (N : List Str) (vs : List V) : St := vs.map some ++ List.replicate (N.length - vs.length) none
def cxOf (CX : CXT) (P : Program) (w : World) (K : PySem.W.Frag) (mg : Str → Option Value) (base : Heap) (N : List Str) (qual : Str) (scope : Scope) (f : Addr) (cd : Value) (A : Around) (outer : List Env) (s : Shared) (H : Hp) (E : XK) : Cx where
  prog := P
  w := w
  K := K
  mg := mg
  base := base
  A := A.deeper (envOfC qual scope s.heap.objs.size f cd)
  N := N
  s₀ := s
  H₀ := H
  env := envOfC qual scope s.heap.objs.size f cd
  outer := outer
  stack := envOfC qual scope s.heap.objs.size f cd :: outer
  ex := []
  calm := true
  fn := fun _ => true
  pn := []
  xe := fun e s' => wpAny (model P w) (A.deeper (envOfC qual scope s.heap.objs.size f cd)) (leaving (envOfC qual scope s.heap.objs.size f cd) e) (fun _ s'' => CX outer H s E e s'') (fun e' s'' => CX outer H s E e' s'') s'
theorem cell_has {sc : Scope} {n : Nat} {x : Str} (h : sc.names.lookup x = some .cell) : ∃ c, (cellsFrom n sc.names []).lookup x = some c := by
  have q := PySem.W.cellsFrom_some sc.names n [] (.inl h)
  exact Option.isSome_iff_exists.mp q
theorem inv_start {CX : CXT} {P : Program} {w : World} {K : PySem.W.Frag} {mg : Str → Option Value} {base : Heap} {N ps : List Str} {qual : Str} {scope : Scope} {f : Addr} {cd : Value} {A : Around} {outer : List Env} {s s1 : Shared} {H : Hp} {E : XK} {us : List Value} {vs : List V}
    (S : FnScope N ps scope) (hd : A.handled = none) (e0 : Env0 P w K mg base A outer s H) (hl : vs.length = ps.length) (r : Vals vs us)
    (x : InCallC s s.heap.objs.size (bindL (envOfC qual scope s.heap.objs.size f cd).kindOf (ps.zip us) fun _ => none) (cellsFrom (s.heap.objs.size + 1) scope.names []) (bindC (envOfC qual scope s.heap.objs.size f cd).kindOf (ps.zip us) fun _ => none) s1) :
    Inv (cxOf CX P w K mg base N qual scope f cd A outer s H E) [] (start N vs) H s1 := by
  have hpl : ps.length ≤ N.length := by have := congrArg List.length S.pre; rw [List.length_take] at this; omega
  obtain ⟨h1, tk, rfl, hk⟩ := x.done
  have noA : ∀ b : Addr, b ∉ (cxOf CX P w K mg base N qual scope f cd A outer s H E).ex := fun b z => absurd (show b ∈ ([] : List Addr) from z) (by simp)
  refine ⟨⟨e0.mod, S.kind, rfl, rfl, Nat.le_refl _, fun y z c h1 h2 => ?_, fun y hy => ?_, fun y c _ h => ?_, fun _ => hd, Around.frames_deeper e0.frames, .inr ⟨rfl, rfl⟩, fun b z => absurd z (noA b), e0.bs, e0.bsz, fun b _ _ => noA b, fun b z => absurd z (noA b), e0.funs, e0.frf, e0.tt⟩,
    rfl, e0.bare, Un.kept hk, ⟨_, x.toInCall.ns, fun i y v h1 h2 h3 => ?_⟩, fun y c h => ⟨_, x.cell y c h⟩, e0.hok.fresh (Nat.le_refl _), fun y c h => ?_, fun p hp => absurd (show p ∈ ([] : List (Addr × Obj)) from hp) (by simp), e0.hok.kept hk, ?_⟩
  · exact name_of_addr x.apart (PySem.mem_of_lookup h1) (PySem.mem_of_lookup h2)
  · have hy : scope.names.lookup y = some .cell ∨ scope.names.lookup y = some .free := hy
    rcases hy with hy | hy
    · exact cell_has hy
    · exact absurd rfl (S.nofree _ (PySem.mem_of_lookup hy))
  · exact Nat.le_of_lt (x.above y c (PySem.mem_of_lookup h))
  · have hi : i < vs.length := by
      unfold start at h2
      by_cases hi : i < vs.length
      · exact hi
      · rw [List.getElem?_append_right (by simpa using hi)] at h2
        rw [List.getElem?_replicate] at h2
        split at h2 <;> cases h2
    have ha : vs[i]? = some v := by
      unfold start at h2
      rw [List.getElem?_append_left (by simpa using hi), List.getElem?_map] at h2
      cases e : vs[i]? with
      | none => rw [e] at h2; cases h2
      | some a => rw [e] at h2; cases h2; rfl
    obtain ⟨u, hu, rv⟩ := r.get ha
    have hp : ps[i]? = some y := by
      rw [← S.pre, List.getElem?_take_of_lt (by omega)]; exact h1
    have ndP : ps.Nodup := by rw [← S.pre]; exact S.nd.sublist (List.take_sublist _ _)
    refine ⟨u, rv, ?_⟩
    rcases S.par y (List.mem_of_getElem? hp) with k | k
    · exact .inl ⟨k, bindL_get ndP hp hu k⟩
    · obtain ⟨c, e⟩ := cell_has (n := s.heap.objs.size + 1) k
      refine .inr ⟨.inl k, c, e, ?_⟩
      have q := x.cell y c e
      rw [bindC_get ndP hp hu (by show scope.names.lookup y ≠ _; rw [k]; decide)] at q
      exact q
  · exact e0.hok.fresh (Nat.le_of_lt (x.above y c (PySem.mem_of_lookup h)))
  · unfold start
    show _ = N.length
    rw [List.length_append, List.length_map, List.length_replicate]
    omega
theorem fn_of {CX : CXT} {P : Program} {w : World} {K : PySem.W.Frag} {mg : Str → Option Value} {base : Heap} {k : Nat} {f : Addr} {name qual : Str} {params : Arguments} {body : List Stmt} {scope : Scope} {dV kV doc pm cdv ct oc : Value} {an od : Option Addr}
    {osl : Array (Option Value)} {N ps : List Str} {sp : Sp} (lk : K.lookup f = some ⟨oc, od, .func (PySem.W.fnOf name qual params body scope dV kV doc pm an cdv ct), osl⟩) (hcd : PySem.W.codeIn K cdv qual = true) (S : FnScope N ps scope)
    (len : ∀ vs H Q E, sp vs H Q E → vs.length = ps.length)
    (hbody : ∀ (A : Around) (outer : List Env) (s : Shared) (H : Hp) (vs : List V) (Q : VK) (E : XK), Room k (A.deeper (envOfC qual scope s.heap.objs.size f cdv)) → sp vs H Q E →
      ∃ t, PSs (cxOf CX P w K mg base N qual scope f cdv A outer s H E) body t ∧ t { nx := fun _ H' => Q .non H', rt := Q } (start N vs) H) :
    FnOk P w K mg base CX (k + 1) f (PySem.W.fnOf name qual params body scope dV kV doc pm an cdv ct) ps sp := by
  refine ⟨len, fun A outer s H args us vs Q E hr e0 hb r hsp => ?_⟩
  have hl := len _ _ _ _ hsp
  have KX : K.In s.heap := e0.mod.kin.keeps fun b o e => (e0.bs b o e).1
  have lim : s.heap.NoLimit := e0.mod.nolimit.keeps fun b o e => (e0.bs b o e).1
  have hkind : ∀ y ∈ ps.zip us, scope.names.lookup y.1 = some .local ∨ (scope.names.lookup y.1 = some .cell ∧ ((cellsFrom (s.heap.objs.size + 1) scope.names []).lookup y.1).isSome = true) := fun ⟨n, v⟩ hy => by
    rcases S.par n (List.of_mem_zip hy).1 with q | q
    · exact .inl q
    · exact .inr ⟨q, PySem.W.cellsFrom_some _ _ _ (.inl q)⟩
  refine codeAny_call_function hr.depth (KX _ _ lk) rfl S.co S.gen rfl (PySem.W.codeRec_of KX hcd) (hb _ _ _ _ ?_)
  refine wpAny_newFunctionEnv_cells S.kind hkind fun env he s1 x => ?_
  subst he
  refine ⟨lim.keeps x.toInCall.keep, codeAny_func ?_⟩
  obtain ⟨t, ht, hq⟩ := hbody A outer s H vs Q E (hr.deeper _) hsp
  have I : Inv (cxOf CX P w K mg base N qual scope f cdv A outer s H E) [] (start N vs) H s1 := inv_start S hr.hd e0 hl r x
  refine wpAny_mono (ht [] s1 (start N vs) H _ I hq) (fun fl s' hs => ?_) fun e s' hs => hs
  have fin : ∀ {σ' : St} {H' : Hp} {v : V} {u : Value}, Inv (cxOf CX P w K mg base N qual scope f cdv A outer s H E) [] σ' H' s' → RelV v u → Q v H' → CE outer P w H s Q u s' :=
    fun {σ' H' v u} J rv q => ⟨v, H', J.os, J.bare, J.base, J.hok, rv, q⟩
  cases fl with
  | ret u =>
    obtain ⟨v, σ', H', J, rv, q⟩ := hs
    exact fin J rv q
  | next =>
    obtain ⟨σ', H', J, q⟩ := hs
    exact fin (v := V.non) (u := Value.none) J rfl q
  | brk =>
    obtain ⟨_, _, _, q⟩ := hs
    exact False.elim q
  | cont =>
    obtain ⟨_, _, _, q⟩ := hs
    exact False.elim q
end L2
namespace L2
open PySem PySem.Spec PyProof.Rows
section
variable {X : Cx} {x : Str} {p pos : Pos} {e : Expr} {es : List Expr} {t : TA} {id T : String} {r : List V → Hp → VK → Prop}
def tCB (r : List V → Hp → VK → Prop) (t : TA) : TE := fun σ H Q => t σ H fun vs H1 => r vs H1 Q
theorem pe_callB (hc : CallR X (.builtin id) r) (hg : Gl X x) (hm : X.mg x = none) (hv : bootBuiltins x = some (.builtin id)) (ha : PA X (e :: es) t) (hn : x ≠ "__name__" := by decide) (hdb : (x == ("__debug__" : Str)) = false := by decide)
    (he : starEach (e :: es) X.env = (false, eval e X.env) :: starEach es X.env := by rfl) (hpl : (backTo pos (starEach es X.env)).any (·.1) = false := by rfl) : PE X (.Call (.Name x p) (e :: es) [] pos) (tCB r t) := .mk <| by
  intro pins s σ H Q I h
  refine wpAny_Call_Name_kw (ld_blt I hg hm hv ?_ hn hdb)
  exact PyProof.Rows.callWith_builtin1 (thn (ha pos pins s σ H _ I h) fun us s1 ⟨vs, H1, I1, r1, q1⟩ => hc pins s1 σ H1 vs us Q I1 r1 q1) he hpl
theorem pe_callTy (hc : CallR X (.type T) r) (hg : Gl X x) (hm : X.mg x = none) (hv : bootBuiltins x = some (.type T)) (ha : PA X (e :: es) t) (hn : x ≠ "__name__" := by decide) (hdb : (x == ("__debug__" : Str)) = false := by decide)
    (he : starEach (e :: es) X.env = (false, eval e X.env) :: starEach es X.env := by rfl) (hpl : (backTo pos (starEach es X.env)).any (·.1) = false := by rfl) : PE X (.Call (.Name x p) (e :: es) [] pos) (tCB r t) := .mk <| by
  intro pins s σ H Q I h
  refine wpAny_Call_Name_kw (ld_blt I hg hm hv ?_ hn hdb)
  exact PyProof.Rows.callWith_type1 (thn (ha pos pins s σ H _ I h) fun us s1 ⟨vs, H1, I1, r1, q1⟩ => hc pins s1 σ H1 vs us Q I1 r1 q1) he hpl
end
end L2
namespace HT
open PySem PyProof.Rows
section
open PySem.SeqAt
open PySem.AutoSeq1 (wpAny_loadPart')
open PySem.MeetsSeq PySem.MeetsSeq2 PySem.MeetsSeq3
end
section
variable {prog : Program} {w : World} {A : Around} {E : Value → Shared → Prop} {s : Shared}
theorem cat_tup {t b : Addr} {vs ws : List Value} {Q : Value → Shared → Prop} (ht : IsTup s.heap t vs.toArray) (hb : IsTup s.heap b ws.toArray) (hv : vs ≠ [])
    (h1 : ws = [] → Q (.ref t) s) (h2 : ws ≠ [] → Q (.ref s.heap.objs.size) { s with heap := s.heap.push { cls := .type "tuple", data := .seq (vs ++ ws).toArray } })
    (hsz : vs.length + ws.length ≤ sizeLine) : wpAny (model prog w) A (binaryOp .Add (.ref t) (.ref b)) Q E s := by
  obtain ⟨⟨cls, dd, data, sl⟩, ho, hc, n, hd⟩ := id ht
  obtain ⟨⟨cls2, dd2, data2, sl2⟩, ho2, hc2, n2, hd2⟩ := id hb
  simp only at hc hd hc2 hd2
  subst hc hd hc2 hd2
  have e : vs.toArray ++ ws.toArray = (vs ++ ws).toArray := by simp
  by_cases hw : ws = []
  · exact concat_meets ⟨_, ho, rfl⟩ ⟨_, ho2, rfl⟩ noFill_tuple_add seq_tuple_add PySem.F.slot_tuple_add PySem.F.entry_tuple_add (PySem.F.args_tuple_add_2 _ _)
      (tuple_addW1 t b vs.toArray ws.toArray n n2 dd dd2 sl sl2 (by simpa using hv) (by simp [hw])) ⟨ho, ho2, h1 hw⟩
  · refine concat_meets ⟨_, ho, rfl⟩ ⟨_, ho2, rfl⟩ noFill_tuple_add seq_tuple_add PySem.F.slot_tuple_add PySem.F.entry_tuple_add (PySem.F.args_tuple_add_2 _ _)
      (tuple_addW2 t b vs.toArray ws.toArray n n2 dd dd2 sl sl2 (by simpa using hv) (by simpa using hw) (by rw [List.size_toArray, List.size_toArray]; exact hsz)) ⟨ho, ho2, ?_⟩
    rw [e]
    exact h2 hw
def sIx (n d : Nat) : Option Int → Nat
  | none => d
  | some v => if v < 0 then (v + (n : Int)).toNat else min v.toNat n
theorem sIx_none (n d : Nat) : sIx n d none = d := rfl
theorem sIx_nat (n d k : Nat) : sIx n d (some (k : Int)) = min k n := by
  show (if (k : Int) < 0 then ((k : Int) + (n : Int)).toNat else min (k : Int).toNat n) = min k n
  rw [if_neg (by omega), Int.toNat_natCast]
theorem sIx_le (n d : Nat) (hd : d ≤ n) (o : Option Int) : sIx n d o ≤ n := by
  cases o with
  | none => exact hd
  | some v =>
    show (if v < 0 then (v + (n : Int)).toNat else min v.toNat n) ≤ n
    by_cases hv : v < 0
    · rw [if_pos hv]; omega
    · rw [if_neg hv]; exact Nat.min_le_right _ _
theorem clip_eq (v : Int) (n d : Nat) : (if v < 0 then max (v + (n : Int)) 0 else min v (n : Int)) = ((sIx n d (some v) : Nat) : Int) := by
  show (if v < 0 then max (v + (n : Int)) 0 else min v (n : Int)) = (((if v < 0 then (v + (n : Int)).toNat else min v.toNat n) : Nat) : Int)
  by_cases hv : v < 0
  · simp only [if_pos hv]; omega
  · simp only [if_neg hv]; omega
theorem adjust_gen (lo hi : Option Int) (n : Nat) : Builtin.Slice.sliceAdjust lo hi 1 (n : Int) = (((sIx n 0 lo : Nat) : Int), ((sIx n n hi : Nat) : Int)) := by
  have h1 : ¬ ((1 : Int) < 0) := by omega
  unfold Builtin.Slice.sliceAdjust
  simp only [h1, if_false]
  refine Prod.ext ?_ ?_
  · cases lo with
    | none => rfl
    | some v => exact clip_eq v n 0
  · cases hi with
    | none => rfl
    | some v => exact clip_eq v n n
theorem places_gen (i j : Nat) : Builtin.Slice.slicePlaces (i : Int) (j : Int) 1 = j - i := by
  unfold Builtin.Slice.slicePlaces
  have h1 : (1 : Int) > 0 := by omega
  simp only [h1, if_true, Int.ediv_one]
  split <;> omega
theorem slicePart_ {v : Value} {o : Option Int} {Q : Option Int → Shared → Prop} (p : IsPart v o) (h : Q o s) : wpAny (model prog w) A (Builtin.Slice.slicePartIndex v) Q E s := by
  cases p with
  | none => exact slicePart_none h
  | int i t => exact slicePart_int h
theorem sliceApplied_gen {sl : Addr} {vl vu : Value} {lo hi : Option Int} {n : Nat} {Q : Int × Int × Nat → Shared → Prop} (hs : s.heap.IsSliceOf sl vl vu .none) (pl : IsPart vl lo) (pu : IsPart vu hi)
    (h : Q (((sIx n 0 lo : Nat) : Int), 1, sIx n n hi - sIx n 0 lo) s) : wpAny (model prog w) A (Builtin.Slice.sliceApplied (.ref sl) (pure (n : Int))) Q E s := by
  obtain ⟨os, hos, hcs, hds⟩ := id hs
  unfold Builtin.Slice.sliceApplied Builtin.Slice.sliceFields
  refine wpAny_bind (wpAny_bind (wpAny_field hos hds (x := vl) rfl (wpAny_bind (wpAny_field hos hds (x := vu) rfl (wpAny_bind (wpAny_field hos hds (x := .none) rfl (wpAny_pure ?_)))))))
  refine wpAny_bind (slicePart_none ?_)
  show wpAny _ _ (if ((1 : Int) == 0) = true then _ else _) _ _ s
  rw [if_neg (by decide)]
  refine wpAny_bind (slicePart_ pl (wpAny_bind (slicePart_ pu (wpAny_bind (wpAny_pure ?_)))))
  show wpAny _ _ (match Builtin.Slice.sliceAdjust lo hi 1 (n : Int) with | (lo, hi) => pure (lo, (1 : Int), Builtin.Slice.slicePlaces lo hi 1)) _ _ s
  rw [adjust_gen lo hi n]
  show wpAny _ _ (pure (((sIx n 0 lo : Nat) : Int), (1 : Int), Builtin.Slice.slicePlaces ((sIx n 0 lo : Nat) : Int) ((sIx n n hi : Nat) : Int) 1)) _ _ s
  rw [places_gen]
  exact wpAny_pure h
theorem pick_gen (xs : Array Value) (i k : Nat) : ((List.range k).filterMap fun (m : Nat) => xs[((i : Int) + (m : Int) * 1).toNat]?).toArray = ((xs.toList.drop i).take k).toArray := by
  have e : (fun (m : Nat) => xs[((i : Int) + (m : Int) * 1).toNat]?) = fun m => xs[i + m]? := by
    funext m
    have : ((i : Int) + (m : Int) * 1).toNat = i + m := by omega
    rw [this]
  rw [e]
  have := pick_run xs i k
  rw [List.filterMap_map] at this
  have e2 : ((fun x => xs[x]?) ∘ fun x => i + x) = fun m => xs[i + m]? := rfl
  rw [e2] at this
  rw [this]
theorem getItem_tuple_cut {t sl : Addr} {items : Array Value} {vl vu : Value} {lo hi : Option Int} {Q : Value → Shared → Prop} (ht : IsTup s.heap t items) (hs : s.heap.IsSliceOf sl vl vu .none) (pl : IsPart vl lo) (pu : IsPart vu hi)
    (hw : ¬ (sIx items.size 0 lo = 0 ∧ sIx items.size items.size hi = items.size))
    (h : Q (.ref s.heap.objs.size) { s with heap := s.heap.push { cls := .type "tuple", data := .seq ((items.toList.drop (sIx items.size 0 lo)).take (sIx items.size items.size hi - sIx items.size 0 lo)).toArray } })
    (hsz : items.size ≤ sizeLine) : wpAny (model prog w) A (getItem (.ref t) (.ref sl)) Q E s := by
  have htake : sizeOk (.seq ((items.toList.drop (sIx items.size 0 lo)).take (sIx items.size items.size hi - sIx items.size 0 lo)).toArray) := by
    show ((items.toList.drop (sIx items.size 0 lo)).take (sIx items.size items.size hi - sIx items.size 0 lo)).toArray.size ≤ sizeLine
    rw [List.size_toArray, List.length_take, List.length_drop, Array.length_toList]
    omega
  have hj : sIx items.size items.size hi ≤ items.size := sIx_le _ _ (Nat.le_refl _) hi
  obtain ⟨os, hos, hcs, hds⟩ := id hs
  have hTs : s.TypeIs (.ref sl) "slice" := ⟨os, hos, hcs⟩
  unfold getItem
  try with_reducible refine wpAny_holding ?_
  first | refine wpAny_bind (wpAny_pure ?_) | skip
  refine wpAny_bind (wpAny_sequenceKey ht.typeIs (by decide) ?_)
  refine wpAny_bind (wpAny_callSpecial?_slot (name := Str.ofString "__getitem__") ht.typeIs PyProof.Rows.slot_tuple_getitem
    (wpAny_call_entry PyProof.Rows.slot_tuple_getitem ht.typeIs entry_tuple_getitem ?_ (args_tuple_getitem _ _)))
  show wpAny _ _ (Builtin.Tuple.tupleItemsOf (.ref t) >>= _) _ _ s
  refine wpAny_bind (tupleItemsOf_ ht ?_)
  refine wpAny_bind (wpAny_typeOf hTs ?_)
  rw [if_pos (by decide)]
  refine wpAny_bind (sliceApplied_gen hs pl pu ?_)
  have hno : ¬ ((((sIx items.size 0 lo : Nat) : Int) == 0 && (1 : Int) == 1 && (sIx items.size items.size hi - sIx items.size 0 lo) == items.size) = true) := by
    intro q
    rw [Bool.and_eq_true, Bool.and_eq_true] at q
    have q1 : ((sIx items.size 0 lo : Nat) : Int) = 0 := eq_of_beq q.1.1
    have q2 : sIx items.size items.size hi - sIx items.size 0 lo = items.size := eq_of_beq q.2
    exact hw ⟨by omega, by omega⟩
  show wpAny _ _ (if (((sIx items.size 0 lo : Nat) : Int) == 0 && (1 : Int) == 1 && (sIx items.size items.size hi - sIx items.size 0 lo) == items.size) = true then _ else _) _ _ s
  rw [if_neg hno, pick_gen]
  first
    | exact wpAny_bind (m := Builtin.Tuple.tupleExact _) (wpAny_newObj_type (wpAny_pure ⟨_, rfl, wpAny_pure h⟩) htake)
    | exact wpAny_bind (m := Builtin.Tuple.tupleExact _) (wpAny_newObj_type (wpAny_bind (wpAny_pure (wpAny_pure ⟨_, rfl, wpAny_pure h⟩))) htake)
    | exact wpAny_bind (wpAny_bind (m := Builtin.Tuple.tupleExact _) (wpAny_newObj_type (wpAny_pure (wpAny_pure ⟨_, rfl, wpAny_pure h⟩)) htake))
    | exact wpAny_bind (wpAny_bind (m := Builtin.Tuple.tupleExact _) (wpAny_newObj_type (wpAny_pure ⟨_, rfl, wpAny_pure h⟩) htake))
end
end HT
namespace L2
open PySem PySem.Spec PyProof.Rows
abbrev TO := St → Hp → (Option Int → Hp → Prop) → Prop
def PO (X : Cx) (e : Option Expr) (t : TO) : Prop :=
  ∀ (pins : List (Addr × Obj)) (s : Shared) (σ : St) (H : Hp) (Q : Option Int → Hp → Prop), Inv X pins σ H s → t σ H Q →
    wpAny (model X.prog X.w) X.A (evalPart e X.env) (fun u s' => ∃ o H', Inv X pins σ H' s' ∧ IsPart u o ∧ Q o H') X.xe s
def tNoPart : TO := fun _ H Q => Q none H
def tPart (t : TE) : TO := fun σ H Q => t σ H fun x H1 => ∃ i, x = .int i ∧ Q (some i) H1
section
variable {X : Cx} {e : Expr} {te : TE} {lo hi : Option Expr} {tl th : TO} {pos p2 : Pos}
theorem po_none : PO X none tNoPart := by
  intro pins s σ H Q I h
  rw [evalPart_none]
  exact wpAny_pure ⟨none, H, I, .none, h⟩
theorem po_some (h : PE X e te) : PO X (some e) (tPart te) := by
  intro pins s σ H Q I hw
  rw [evalPart_some]
  refine thn (h pins s σ H _ I hw) fun u s1 ⟨x, H1, I1, r1, q1⟩ => ?_
  obtain ⟨i, rfl, q⟩ := q1
  obtain ⟨t, rfl⟩ := r1
  exact ⟨some i, H1, I1, .int i t, q⟩
def SlR (X : Cx) (r : V → Option Int → Option Int → Hp → VK → Prop) : Prop :=
  ∀ (pins : List (Addr × Obj)) (s : Shared) (σ : St) (H : Hp) (x : V) (v vl vu : Value) (lo hi : Option Int) (sl : Addr) (Q : VK), Inv X pins σ H s → RelV x v → s.heap.IsSliceOf sl vl vu .none → IsPart vl lo → IsPart vu hi → r x lo hi H Q →
    ∃ T id, typeLookup (.type T) "__getitem__" = pure (some (.builtin id)) ∧ s.TypeIs v T ∧ wpAny (model X.prog X.w) X.A (getItem v (.ref sl)) (EP X pins σ Q) X.xe s
theorem SlR.or {r r' : V → Option Int → Option Int → Hp → VK → Prop} (h : SlR X r) (h' : SlR X r') : SlR X (fun x lo hi H Q => r x lo hi H Q ∨ r' x lo hi H Q) := by
  intro pins s σ H x v vl vu lo hi sl Q I rx hs pl pu q
  rcases q with q | q
  · exact h pins s σ H x v vl vu lo hi sl Q I rx hs pl pu q
  · exact h' pins s σ H x v vl vu lo hi sl Q I rx hs pl pu q
def tSl (r : V → Option Int → Option Int → Hp → VK → Prop) (te : TE) (tl th : TO) : TE := fun σ H Q => te σ H fun x H1 => tl σ H1 fun l H2 => th σ H2 fun u H3 => r x l u H3 Q
theorem pe_slice {r : V → Option Int → Option Int → Hp → VK → Prop} (hr : SlR X r) (he : PE X e te) (hl : PO X lo tl) (hu : PO X hi th) : PE X (.Subscript e (.Slice lo hi none p2) pos) (tSl r te tl th) := .mk <| by
  intro pins s σ H Q I h
  refine Subscript_ (thn (he pins s σ H _ I h) fun v s1 ⟨x, H1, I1, r1, q1⟩ => ?_)
  refine wpAny_Slice (thn (hl pins s1 σ H1 _ I1 q1) fun vl s2 ⟨l, H2, I2, pl, q2⟩ => thn (hu pins s2 σ H2 _ I2 q2) fun vu s3 ⟨u, H3, I3, pu, q3⟩ => ?_)
  rw [evalPart_none]
  refine wpAny_pure ?_
  have I4 : Inv X pins σ H3 { s3 with heap := s3.heap.push { cls := .type "slice", data := .fields #[vl, vu, .none] } } := I3.kept (t' := s3.toks) fun b ob q => Heap.get?_push_of_some _ q
  obtain ⟨T, id, hT, ht, hg⟩ := hr pins { s3 with heap := s3.heap.push { cls := .type "slice", data := .fields #[vl, vu, .none] } } σ H3 x v vl vu l u s3.heap.objs.size Q I4 r1 (Heap.IsSliceOf.new ..) pl pu q3
  show wpAny (model X.prog X.w) X.A (subscriptTail e (.Slice lo hi none p2) v (.ref s3.heap.objs.size)) (EP X pins σ Q) X.xe { s3 with heap := s3.heap.push { cls := .type "slice", data := .fields #[vl, vu, .none] } }
  exact tail_any (ops := [.ref s3.heap.objs.size, v]) ht hT hg (by with_unfolding_all rfl)
def cutV (xs : List V) (lo hi : Option Int) : List V := (xs.drop (HT.sIx xs.length 0 lo)).take (HT.sIx xs.length xs.length hi - HT.sIx xs.length 0 lo)
theorem cutV_length (xs : List V) (lo hi : Option Int) : (cutV xs lo hi).length ≤ xs.length := by
  unfold cutV
  rw [List.length_take, List.length_drop]
  omega
def rSlT (K : PySem.W.Frag) : V → Option Int → Option Int → Hp → VK → Prop := fun x lo hi H Q => ∃ a xs, x = .ref a ∧ SqT K H a xs ∧
  ¬ (HT.sIx xs.length 0 lo = 0 ∧ HT.sIx xs.length xs.length hi = xs.length) ∧ ∀ p, H p = none → Q (.ref p) (upd H p (.tup (cutV xs lo hi)))
theorem sl_tup : SlR X (rSlT X.K) := by
  intro pins s σ H x v vl vu lo hi sl Q I rx hs pl pu h
  obtain ⟨a, xs, rfl, hx, hw, q⟩ := h
  cases rx
  obtain ⟨its, r, ht, hz⟩ := I.tuple hx
  have hlen : its.toArray.size = xs.length := by rw [List.size_toArray]; exact r.length.symm
  refine ⟨"tuple", _, PyProof.Rows.slot_tuple_getitem.lookup, ht.typeIs, ?_⟩
  refine HT.getItem_tuple_cut ht hs pl pu (by rw [hlen]; exact hw) ?_ (by rw [hlen]; exact hz)
  rw [hlen]
  refine ⟨.ref s.heap.objs.size, _, I.laid (t' := s.toks) (o := .tup (cutV xs lo hi)) (fun b ob q => Heap.get?_push_of_some _ q) (Nat.le_refl _) ?_, rfl, q _ (I.hok.fresh (Nat.le_refl _))⟩
  exact ⟨Nat.le_trans (cutV_length xs lo hi) hz, _, (r.drop (HT.sIx xs.length 0 lo)).take (HT.sIx xs.length xs.length hi - HT.sIx xs.length 0 lo), IsTup.new _ _⟩
def rCatT (K : PySem.W.Frag) : R2 := fun x y H Q => ∃ a b xs ys, x = .ref a ∧ y = .ref b ∧ SqT K H a xs ∧ SqT K H b ys ∧ xs ≠ [] ∧ xs.length + ys.length ≤ sizeLine ∧
  (ys = [] → Q (.ref a) H) ∧ (ys ≠ [] → ∀ p, H p = none → Q (.ref p) (upd H p (.tup (xs ++ ys))))
theorem Vals.nil_iff {xs : List V} {us : List Value} (r : Vals xs us) : us = [] ↔ xs = [] := by
  cases r with
  | nil => simp
  | cons _ _ => simp
theorem op_catT : OpR X (binaryOp .Add) (rCatT X.K) := by
  intro pins s σ H x y v u Q I rx ry h
  obtain ⟨a, b, xs, ys, rfl, rfl, ha, hb, hx, hz, q1, q2⟩ := h
  cases rx
  cases ry
  obtain ⟨its, r1, p1, _⟩ := I.tuple ha
  obtain ⟨its2, r2, p2, _⟩ := I.tuple hb
  refine HT.cat_tup p1 p2 (fun z => hx (r1.nil_iff.mp z)) (fun z => ⟨.ref a, H, I, rfl, q1 (r2.nil_iff.mp z)⟩) (fun z => ?_) (by rw [← r1.length, ← r2.length]; exact hz)
  refine ⟨.ref s.heap.objs.size, _, I.laid (t' := s.toks) (o := .tup (xs ++ ys)) (fun b ob q => Heap.get?_push_of_some _ q) (Nat.le_refl _) ?_, rfl, q2 (fun w => z (r2.nil_iff.mpr w)) _ (I.hok.fresh (Nat.le_refl _))⟩
  exact ⟨by rw [List.length_append]; exact hz, _, r1.append r2, IsTup.new _ _⟩
end
end L2
namespace L2
open PySem PySem.Spec PyProof.Rows
def ixN (n : Nat) (i : Int) : Option Nat := if 0 ≤ i then (if i < n then some i.toNat else none) else if -(n : Int) ≤ i then some (i + n).toNat else none
def atI {α : Type} (xs : List α) (i : Int) : Option α := (ixN xs.length i).bind fun j => xs[j]?
theorem ixN_seq {n : Nat} {i : Int} {j : Nat} (h : ixN n i = some j) : seqIndex? i n = some j ∧ j < n ∧ -(n : Int) ≤ i ∧ i < n := by
  unfold ixN at h
  by_cases h0 : 0 ≤ i
  · rw [if_pos h0] at h
    by_cases h1 : i < n
    · rw [if_pos h1] at h
      have e : i.toNat = j := Option.some.inj h
      exact ⟨by rw [seqIndex_of h0 h1, e], by omega, by omega, h1⟩
    · rw [if_neg h1] at h; cases h
  · rw [if_neg h0] at h
    by_cases h1 : -(n : Int) ≤ i
    · rw [if_pos h1] at h
      have e : (i + n).toNat = j := Option.some.inj h
      exact ⟨by rw [seqIndex_neg (by omega) h1, e], by omega, h1, by omega⟩
    · rw [if_neg h1] at h; cases h
theorem atI_get {α : Type} {xs : List α} {i : Int} {v : α} (h : atI xs i = some v) : ∃ j, seqIndex? i xs.length = some j ∧ xs[j]? = some v ∧ j < xs.length ∧ -(xs.length : Int) ≤ i ∧ i < xs.length := by
  unfold atI at h
  cases e : ixN xs.length i with
  | none => rw [e] at h; cases h
  | some j =>
    rw [e] at h
    obtain ⟨h1, h2, h3, h4⟩ := ixN_seq e
    exact ⟨j, h1, h, h2, h3, h4⟩
theorem atI_nat {α : Type} {xs : List α} {j : Nat} {v : α} (h : xs[j]? = some v) : atI xs (j : Int) = some v := by
  have hj : j < xs.length := (List.getElem?_eq_some_iff.mp h).1
  have e : ixN xs.length (j : Int) = some j := by
    unfold ixN
    rw [if_pos (by omega), if_pos (by omega)]; simp
  unfold atI; rw [e]; exact h
def PlainIx (b : Expr) : Prop := ∀ o i, subscripted b false o i = operate [o, i] (getItem o i)
def IxR (X : Cx) (r : R2) : Prop :=
  ∀ (value slice : Expr) (pins : List (Addr × Obj)) (s : Shared) (σ : St) (H : Hp) (x y : V) (v u : Value) (Q : VK), Inv X pins σ H s → RelV x v → RelV y u → r x y H Q →
    subscripted slice false v u = operate [v, u] (getItem v u) → wpAny (model X.prog X.w) X.A (subscriptTail value slice v u) (EP X pins σ Q) X.xe s
def MtR (X : Cx) (id : String) (r : V → List V → Hp → VK → Prop) : Prop :=
  ∀ (pins : List (Addr × Obj)) (s : Shared) (σ : St) (H : Hp) (x : V) (xs : List V) (v : Value) (us : List Value) (Q : VK), Inv X pins σ H s → RelV x v → Vals xs us → r x xs H Q →
    wpAny (model X.prog X.w) X.A (call (.builtin id) (v :: us)) (EP X pins σ Q) X.xe s
section
variable {X : Cx} {a b : Expr} {ta tb : TE} {pos : Pos}
theorem IxR.or {r r' : R2} (h : IxR X r) (h' : IxR X r') : IxR X (fun x y H Q => r x y H Q ∨ r' x y H Q) := by
  intro value slice pins s σ H x y v u Q I rx ry q hs
  rcases q with q | q
  · exact h value slice pins s σ H x y v u Q I rx ry q hs
  · exact h' value slice pins s σ H x y v u Q I rx ry q hs
theorem MtR.or {id : String} {r r' : V → List V → Hp → VK → Prop} (h : MtR X id r) (h' : MtR X id r') : MtR X id (fun x xs H Q => r x xs H Q ∨ r' x xs H Q) := by
  intro pins s σ H x xs v us Q I rx rs q
  rcases q with q | q
  · exact h pins s σ H x xs v us Q I rx rs q
  · exact h' pins s σ H x xs v us Q I rx rs q
theorem pe_ix {r : R2} (hr : IxR X r) (ha : PE X a ta) (hb : PE X b tb) (hs : PlainIx b) : PE X (.Subscript a b pos) (tOp r ta tb) := .mk <| by
  intro pins s σ H Q I h
  exact Subscript_ (binT ha hb I h fun v u s2 x y H2 I2 rx ry q => hr a b pins s2 σ H2 x y v u Q I2 rx ry q (hs _ _))
def rIxL (K : PySem.W.Frag) : R2 := fun x y H Q => ∃ p xs i v, x = .ref p ∧ y = .int i ∧ SqL K H p xs ∧ atI xs i = some v ∧ Q v H
def rIxT (K : PySem.W.Frag) : R2 := fun x y H Q => ∃ p xs i v, x = .ref p ∧ y = .int i ∧ SqT K H p xs ∧ atI xs i = some v ∧ Q v H
def rIxS : R2 := fun x y H Q => ∃ z i c, x = .str z ∧ y = .int i ∧ z.length ≤ sizeLine ∧ atI z.cps.toList i = some c ∧ Q (.str ⟨#[c]⟩) H
theorem ix_list : IxR X (rIxL X.K) := by
  intro value slice pins s σ H x y v u Q I rx ry h hs
  obtain ⟨p, xs, i, z, rfl, rfl, hq, he, q⟩ := h
  cases rx
  obtain ⟨t, rfl⟩ := ry
  obtain ⟨its, r, pl, hz⟩ := I.list hq
  obtain ⟨j, h1, h2, h3, h4, h5⟩ := atI_get he
  obtain ⟨w, ew, rw'⟩ := r.get h2
  have hl := r.length
  have hn := line63
  have fin : EP X pins σ Q w s := ⟨z, H, I, rw', q⟩
  by_cases h0 : 0 ≤ i
  · have hj : i.toNat = j := by
      rw [seqIndex_of h0 h5] at h1
      exact Option.some.inj h1
    exact item_listR pl.isList h0 (by omega) (by rw [hj]; simpa using ew) fin hs
  · have hj : (i + (its.toArray.size : Int)).toNat = j := by
      rw [seqIndex_neg (by omega) h4] at h1
      rw [List.size_toArray, ← hl]
      exact Option.some.inj h1
    exact subscriptTail_builtinR (x := w) pl.isList.typeIs slot_list_getitem.lookup
      (wpAny_getItem_list_neg (Q := fun r s' => r = w ∧ EP X pins σ Q r s') pl.isList (by omega) (by rw [List.size_toArray] <;> omega) (by omega) (by rw [hj]; simpa using ew) ⟨rfl, fin⟩) hs
theorem ix_tup : IxR X (rIxT X.K) := by
  intro value slice pins s σ H x y v u Q I rx ry h hs
  obtain ⟨p, xs, i, z, rfl, rfl, hq, he, q⟩ := h
  cases rx
  obtain ⟨t, rfl⟩ := ry
  obtain ⟨its, r, pl, hz⟩ := I.tuple hq
  obtain ⟨j, h1, h2, h3, h4, h5⟩ := atI_get he
  obtain ⟨w, ew, rw'⟩ := r.get h2
  have hl := r.length
  have hn := line63
  have fin : EP X pins σ Q w s := ⟨z, H, I, rw', q⟩
  exact subscriptTail_builtinR (x := w) pl.typeIs slot_tuple_getitem.lookup
    (getItem_tuple (j := j) (Q := fun r s' => r = w ∧ EP X pins σ Q r s') pl (by omega) (by omega) (by rw [List.size_toArray, ← hl]; exact h1) (by simpa using ew) ⟨rfl, fin⟩) hs
theorem ix_str : IxR X rIxS := by
  intro value slice pins s σ H x y v u Q I rx ry h hs
  obtain ⟨z, i, c, rfl, rfl, hz, he, q⟩ := h
  obtain ⟨t, rfl⟩ := rx
  obtain ⟨t', rfl⟩ := ry
  obtain ⟨j, h1, h2, h3, h4, h5⟩ := atI_get he
  have hl : z.cps.toList.length = z.length := by simp [Str.length]
  rw [hl] at h1 h4 h5
  have hn := line63
  exact tail_any (typeIs_str s z t) slot_str_getitem.lookup (getItem_str (c := c) (by
    have e1 : decide (i < -(2 ^ 63 : Int)) = false := decide_eq_false (by omega)
    have e2 : decide (i ≥ 2 ^ 63) = false := decide_eq_false (by omega)
    rw [e1, e2, Bool.or_false]) (by rw [h1]; simpa using h2) ⟨.str ⟨#[c]⟩, H, I.tok _, ⟨_, rfl⟩, q⟩) hs
def rIx (K : PySem.W.Frag) : R2 := fun x y H Q => rIxL K x y H Q ∨ rIxT K x y H Q ∨ rIxS x y H Q
theorem ix_seq : IxR X (rIx X.K) := ix_list.or (ix_tup.or ix_str)
theorem mapSeq_set (its : List Value) (n j : Nat) (u : Value) : Obj.mapSeq (·.setIfInBounds j u) { cls := .type "list", data := .seq its.toArray n } = { cls := .type "list", data := .seq (its.set j u).toArray n } := by
  simp [Obj.mapSeq]
theorem Inv.lst {pins : List (Addr × Obj)} {σ : St} {H : Hp} {s : Shared} {p : Addr} {xs : List V} (I : Inv X pins σ H s) (h : H p = some (.lst xs)) :
    ∃ (its : List Value) (n : Nat), Vals xs its ∧ s.heap.get? p = some { cls := .type "list", data := .seq its.toArray n } ∧ xs.length ≤ sizeLine := by
  obtain ⟨z, its, n, r, e⟩ := I.hok p _ h
  exact ⟨its, n, r, e, z⟩
theorem Inv.lstUpd {pins : List (Addr × Obj)} {σ : St} {H : Hp} {s : Shared} {p : Addr} {xs ys : List V} {its its' : List Value} {n n' : Nat} {f : Obj → Obj} (I : Inv X pins σ H s) (h : H p = some (.lst xs))
    (ho : s.heap.get? p = some { cls := .type "list", data := .seq its.toArray n }) (hf : f { cls := .type "list", data := .seq its.toArray n } = { cls := .type "list", data := .seq its'.toArray n' }) (r : Vals ys its') (hz : ys.length ≤ sizeLine) (t : Nat) :
    Inv X pins σ (upd H p (.lst ys)) { s with heap := s.heap.update p f, toks := t } := by
  have e : (s.heap.update p f).get? p = some { cls := .type "list", data := .seq its'.toArray n' } := by
    rw [Heap.get?_update_self f ho (by rw [hf] <;> rfl), hf]
  refine I.write (x := p) (e := p) (by rw [h]; trivial) (.inl rfl) (fun b u hb q => (Heap.get?_update_other _ _ (Ne.symm hb)).trans q) ⟨_, e⟩ ?_
  exact ⟨hz, its', n', r, e⟩
def rSetL : V → V → V → Hp → (Hp → Prop) → Prop := fun o i v H Q => ∃ p xs k j, o = .ref p ∧ i = .int k ∧ H p = some (.lst xs) ∧ ixN xs.length k = some j ∧ Q (upd H p (.lst (xs.set j v)))
theorem set_list : PSet X rSetL := by
  intro pins s σ H o i v ov iv u Q I ro ri rv h
  obtain ⟨p, xs, k, j, rfl, rfl, hp, hj, q⟩ := h
  cases ro
  obtain ⟨t, rfl⟩ := ri
  obtain ⟨its, n, r, ho, hz⟩ := I.lst hp
  obtain ⟨h1, h2, h3, h4⟩ := ixN_seq hj
  have hl := r.length
  have hn := line63
  have I' : Inv X pins σ (upd H p (.lst (xs.set j v))) { s with heap := s.heap.update p (Obj.mapSeq (·.setIfInBounds j u)) } :=
    I.lstUpd hp ho (mapSeq_set its n j u) (r.set rv j) (by rw [List.length_set]; exact hz) s.toks
  by_cases h0 : 0 ≤ k
  · have hk : k.toNat = j := by
      rw [seqIndex_of h0 h4] at h1
      exact Option.some.inj h1
    exact PySem.W.ki_setAt ho h0 (by omega) (by rw [List.size_toArray, ← hl]; exact h4) (by rw [hk]; exact ⟨_, I', q⟩)
  · have hk : (k + (its.toArray.size : Int)).toNat = j := by
      rw [seqIndex_neg (by omega) h3] at h1
      rw [List.size_toArray, ← hl]
      exact Option.some.inj h1
    exact PySem.W.ki_setBack ho (by omega) (by rw [List.size_toArray, ← hl]; exact h3) (by omega) (by rw [hk]; exact ⟨_, I', q⟩)
theorem slice_bounds (lo hi : Option Int) (n : Nat) : (sliceBounds lo hi none n).1 = ((HT.sIx n 0 lo : Nat) : Int) ∧ (sliceBounds lo hi none n).2.1 = ((HT.sIx n n hi : Nat) : Int) ∧ (sliceBounds lo hi none n).2.2 = 1 := by
  refine ⟨?_, ?_, rfl⟩
  · cases lo with
    | none => simp [sliceBounds, HT.sIx]
    | some i =>
      simp only [sliceBounds, HT.sIx, Option.getD_none, show (1 : Int) > 0 by decide, if_true]
      by_cases h : i < 0
      · simp only [h, if_true] <;> omega
      · simp only [h, if_false] <;> omega
  · cases hi with
    | none => simp [sliceBounds, HT.sIx]
    | some i =>
      simp only [sliceBounds, HT.sIx, Option.getD_none, show (1 : Int) > 0 by decide, if_true]
      by_cases h : i < 0
      · simp only [h, if_true] <;> omega
      · simp only [h, if_false] <;> omega
theorem slicePick_cut (its : List Value) (lo hi : Option Int) : slicePick its.toArray lo hi none = ((its.drop (HT.sIx its.length 0 lo)).take (HT.sIx its.length its.length hi - HT.sIx its.length 0 lo)).toArray := by
  obtain ⟨h1, h2, h3⟩ := slice_bounds lo hi its.toArray.size
  unfold slicePick
  rw [h1, h2, h3]
  simp only [sliceRange_one, pick_run, List.size_toArray] <;> rfl
def rSlL (K : PySem.W.Frag) : V → Option Int → Option Int → Hp → VK → Prop := fun x lo hi H Q => ∃ a xs, x = .ref a ∧ SqL K H a xs ∧ ∀ p, H p = none → Q (.ref p) (upd H p (.lst (cutV xs lo hi)))
theorem sl_list : SlR X (rSlL X.K) := by
  intro pins s σ H x v vl vu lo hi sl Q I rx hs pl pu h
  obtain ⟨a, xs, rfl, hx, q⟩ := h
  cases rx
  obtain ⟨its, r, ht, hz⟩ := I.list hx
  have hlen := r.length
  refine ⟨"list", _, slot_list_getitem.lookup, ht.isList.typeIs, ?_⟩
  refine wpAny_getItem_list_slice ht.isList hs pl pu .none (by simp) ?_ (by rw [List.size_toArray] <;> omega)
  rw [slicePick_cut, ← hlen]
  refine ⟨.ref s.heap.objs.size, _, I.laid (t' := s.toks) (o := .lst (cutV xs lo hi)) (fun b ob q => Heap.get?_push_of_some _ q) (Nat.le_refl _) ?_, rfl, q _ (I.hok.fresh (Nat.le_refl _))⟩
  exact ⟨Nat.le_trans (cutV_length xs lo hi) hz, _, 0, (r.drop (HT.sIx xs.length 0 lo)).take (HT.sIx xs.length xs.length hi - HT.sIx xs.length 0 lo), Heap.get?_push_size _ rfl⟩
theorem CallR.or {f : Value} {r r' : List V → Hp → VK → Prop} (h : CallR X f r) (h' : CallR X f r') : CallR X f (fun xs H Q => r xs H Q ∨ r' xs H Q) := by
  intro pins s σ H xs us Q I rs q
  rcases q with q | q
  · exact h pins s σ H xs us Q I rs q
  · exact h' pins s σ H xs us Q I rs q
theorem call_list_of : CallR X (.type "list") (fun xs H Q => ∃ p ys, xs = [.ref p] ∧ (SqL X.K H p ys ∨ SqT X.K H p ys) ∧ ∀ l, H l = none → Q (.ref l) (upd H l (.lst ys))) := by
  intro pins s σ H xs us Q I r h
  obtain ⟨p, ys, rfl, hq, q⟩ := h
  obtain ⟨u, rfl, rx⟩ := vals1 r
  cases rx
  have fin : ∀ (its : List Value), Vals ys its → ys.length ≤ sizeLine → ∀ (h' : Heap) (c' : Nat), (∀ b o', s.heap.get? b = some o' → h'.get? b = some o') →
      h'.get? s.heap.objs.size = some { cls := .type "list", dict := none, data := .seq its.toArray c', slots := #[] } → EP X pins σ Q (.ref s.heap.objs.size) { s with heap := h' } := fun its r' hz h' c' kp e =>
    ⟨.ref s.heap.objs.size, _, I.laid (t' := s.toks) kp (Nat.le_refl _) (show ObjOk X.prog X.w _ h' _ (.lst ys) from ⟨hz, its, c', r', e⟩), rfl, q _ (I.hok.fresh (Nat.le_refl _))⟩
  rcases hq with hq | hq
  · obtain ⟨its, r', pl, hz⟩ := I.list hq
    have hlen := r'.length
    obtain ⟨o, ho, hc, n, hd⟩ := pl.isList
    exact call_list_seq p (.inl rfl) ho hc hd (fun h' c' kp e => fin its r' hz h' c' kp e) (by simp only [List.size_toArray] <;> omega)
  · obtain ⟨its, r', pl, hz⟩ := I.tuple hq
    have hlen := r'.length
    obtain ⟨o, ho, hc, n, hd⟩ := pl
    exact call_list_seq p (.inr rfl) ho hc hd (fun h' c' kp e => fin its r' hz h' c' kp e) (by simp only [List.size_toArray] <;> omega)
theorem call_tuple_of : CallR X (.type "tuple") (fun xs H Q => ∃ p ys, xs = [.ref p] ∧ ((SqL X.K H p ys ∧ ∀ l, H l = none → Q (.ref l) (upd H l (.tup ys))) ∨ (SqT X.K H p ys ∧ Q (.ref p) H))) := by
  intro pins s σ H xs us Q I r h
  obtain ⟨p, ys, rfl, h⟩ := h
  obtain ⟨u, rfl, rx⟩ := vals1 r
  cases rx
  rcases h with ⟨hq, q⟩ | ⟨hq, q⟩
  · obtain ⟨its, r', pl, hz⟩ := I.list hq
    have hlen := r'.length
    refine call_tuple_list pl.isList (fun h' kp => ?_) (by simp only [List.size_toArray] <;> omega)
    have I1 : Inv X pins σ H { s with heap := h' } := I.kept (t' := s.toks) kp
    have I2 : Inv X pins σ (upd H h'.objs.size (.tup ys)) { s with heap := h'.push { cls := .type "tuple", data := .seq its.toArray } } :=
      I1.laid (t' := s.toks) (fun b o e => Heap.get?_push_of_some _ e) (Nat.le_refl _) (show ObjOk X.prog X.w _ _ _ (.tup ys) from ⟨hz, its, r', IsTup.new _ _⟩)
    exact ⟨.ref h'.objs.size, _, I2, rfl, q _ (I1.hok.fresh (Nat.le_refl _))⟩
  · obtain ⟨its, r', pl, hz⟩ := I.tuple hq
    exact call_tuple_same pl ⟨.ref p, H, I, rfl, q⟩
def tyV (K : PySem.W.Frag) (T : String) (x : V) (H : Hp) : Prop := match x with
  | .str _ => T = "str"
  | .int _ => T = "int"
  | .ref p => (T = "list" ∧ ∃ xs, SqL K H p xs) ∨ (T = "tuple" ∧ ∃ o, K.lookup p = some o ∧ o.cls = .type "tuple" ∧ o.dict = none) ∨
      (T = "dict" ∧ ((∃ kvs, H p = some (.dK kvs)) ∨ ∃ kvs, H p = some (.dT kvs))) ∨ (T = "set" ∧ ∃ S n, H p = some (.set S n))
  | _ => False
theorem tyV_is {pins : List (Addr × Obj)} {σ : St} {H : Hp} {s : Shared} {T : String} {x : V} {v : Value} (I : Inv X pins σ H s) (r : RelV x v) (ty : tyV X.K T x H) :
    s.TypeIs v T ∧ ∀ a, v = .ref a → ∃ ob, s.heap.get? a = some ob ∧ ob.dict = none := by
  cases x with
  | str z =>
    obtain ⟨t, rfl⟩ := r
    cases (show T = "str" from ty)
    exact ⟨typeIs_str s z t, fun _ e => nomatch e⟩
  | int i =>
    obtain ⟨t, rfl⟩ := r
    cases (show T = "int" from ty)
    exact ⟨typeIs_int s i t, fun _ e => nomatch e⟩
  | ref p =>
    cases r
    rcases ty with ⟨rfl, xs, hq⟩ | ⟨rfl, o, hk, hc, hd⟩ | ⟨rfl, hk⟩ | ⟨rfl, S, n, hk⟩
    · obtain ⟨its, _, pl, _⟩ := I.list hq
      refine ⟨pl.isList.typeIs, fun a e => ?_⟩
      cases e
      obtain ⟨o, n, e, c, hd, _⟩ := pl
      exact ⟨o, e, hd⟩
    · refine ⟨⟨o, I.kIn p o hk, hc⟩, fun a e => ?_⟩
      cases e
      exact ⟨o, I.kIn _ o hk, hd⟩
    · have z : ∃ o, s.heap.get? p = some o ∧ o.ExactDict := by
        rcases hk with ⟨kvs, hk⟩ | ⟨kvs, hk⟩
        · obtain ⟨_, _, _, _, o, _, _, e, ex, _⟩ := I.hok p _ hk
          exact ⟨o, e, ex⟩
        · obtain ⟨_, _, _, _, o, _, _, e, ex, _⟩ := I.hok p _ hk
          exact ⟨o, e, ex⟩
      obtain ⟨o, e, ex⟩ := z
      refine ⟨⟨o, e, ex.1⟩, fun a e2 => ?_⟩
      cases e2
      exact ⟨o, e, ex.2.1⟩
    · obtain ⟨o, _, _, _, e, ex, _⟩ := I.hok p _ hk
      refine ⟨⟨o, e, ex.1⟩, fun a e2 => ?_⟩
      cases e2
      exact ⟨o, e, ex.2.1⟩
  | _ => exact False.elim ty
def tBM0 (K : PySem.W.Frag) (T : String) (r : V → List V → Hp → VK → Prop) (to : TE) : TE := fun σ H Q => to σ H fun x H1 => tyV K T x H1 ∧ r x [] H1 Q
def tBM (K : PySem.W.Frag) (T : String) (r : V → List V → Hp → VK → Prop) (to : TE) (t : TA) : TE := fun σ H Q => to σ H fun x H1 => tyV K T x H1 ∧ t σ H1 fun xs H2 => r x xs H2 Q
variable {o e : Expr} {es : List Expr} {to : TE} {t : TA} {name : Str} {apos cpos : Pos} {T id : String} {r : V → List V → Hp → VK → Prop}
theorem pe_bm0 (pa : PlainAttrs T) (slot : Slot T name id) (hty : typeOf (.builtin id) = pure (.type "method_descriptor")) (hm : MtR X id r) (ho : PE X o to)
    (hbase : attributeBase o name X.env (eval o X.env) = eval o X.env := by rfl) (hline : (apos.endLine == cpos.line) = true := by rfl) : PE X (.Call (.Attribute o name apos) [] [] cpos) (tBM0 X.K T r to) := .mk <| by
  intro pins s σ H Q I h
  refine wpAny_Call_method0_late hbase hline (thn (ho pins s σ H _ I h) fun v s1 ⟨x, H1, I1, r1, ty, q1⟩ => ?_)
  obtain ⟨h1, h2⟩ := tyV_is I1 r1 ty
  exact ⟨T, id, pa, slot, hty, h1, h2, Calls.callWith_builtin rfl (PySem.evalArgs_none (hm pins s1 σ H1 x [] v [] Q I1 r1 .nil q1))⟩
theorem pe_bm (pa : PlainAttrs T) (slot : Slot T name id) (hty : typeOf (.builtin id) = pure (.type "method_descriptor")) (hm : MtR X id r) (ho : PE X o to) (ha : PA X (e :: es) t)
    (hbase : attributeBase o name X.env (eval o X.env) = eval o X.env := by rfl)
    (hfew : ((backTo cpos (starEach (e :: es) X.env)).all (fun x => !x.1) && (backToKw cpos (keywordEach [] X.env)).all (fun x => x.1.isSome)
      && decide ((e :: es).length + ([] : List Keyword).length + (if ([] : List Keyword).isEmpty then 0 else 1) < 30)) = true := by rfl)
    (hline : (apos.endLine == cpos.line) = true := by rfl) (hs : starEach (e :: es) X.env = (false, eval e X.env) :: starEach es X.env := by rfl) (hplain : (backTo cpos (starEach es X.env)).any (·.1) = false := by rfl) :
    PE X (.Call (.Attribute o name apos) (e :: es) [] cpos) (tBM X.K T r to t) := .mk <| by
  intro pins s σ H Q I h
  refine wpAny_Call_method_late hbase hfew hline rfl (thn (ho pins s σ H _ I h) fun v s1 ⟨x, H1, I1, r1, ty, q1⟩ => ?_)
  obtain ⟨h1, h2⟩ := tyV_is I1 r1 ty
  refine ⟨T, id, pa, slot, hty, h1, h2, ?_⟩
  have hA := ha cpos pins s1 σ H1 _ I1 q1
  rw [hs] at hA ⊢
  refine Calls.callWith_builtin (by show (false || (backTo cpos (starEach es X.env)).any (·.1)) = false; rw [hplain] <;> rfl) (Calls.evalArgs_plain ?_)
  exact thn hA fun us s2 ⟨vs, H2, I2, r2, q2⟩ => hm pins s2 σ H2 x vs v us Q I2 r1 r2 q2
end
end L2
namespace L2
open PySem PySem.Spec PyProof.Rows
def MtM (X : Cx) (id : String) (r : V → List V → Hp → VK → Prop) : Prop :=
  ∀ (pins : List (Addr × Obj)) (s : Shared) (σ : St) (H : Hp) (x : V) (xs : List V) (v : Value) (us : List Value) (Q : VK), Inv X pins σ H s → RelV x v → Vals xs us → r x xs H Q →
    wpAny (model X.prog X.w) X.A (call (.builtin id) (v :: us)) (EP X pins σ Q) X.xe s
theorem Vals.one : ∀ {x : V} {us : List Value}, Vals [x] us → ∃ u, us = [u] ∧ RelV x u
  | _, _, .cons r .nil => ⟨_, rfl, r⟩
theorem Vals.two : ∀ {x y : V} {us : List Value}, Vals [x, y] us → ∃ u v, us = [u, v] ∧ RelV x u ∧ RelV y v
  | _, _, _, .cons r (.cons q .nil) => ⟨_, _, rfl, r, q⟩
theorem Vals.zero : ∀ {us : List Value}, Vals [] us → us = []
  | _, .nil => rfl
theorem Vals.dropLast {xs : List V} {us : List Value} (h : Vals xs us) : Vals xs.dropLast us.dropLast := by
  induction h with
  | nil => exact .nil
  | cons r t ih =>
    cases t with
    | nil => exact .nil
    | cons q t' => exact .cons r ih
theorem Vals.eraseIdx : ∀ {xs : List V} {us : List Value} (i : Nat), Vals xs us → Vals (xs.eraseIdx i) (us.eraseIdx i)
  | _, _, _, .nil => .nil
  | _, _, 0, .cons _ t => t
  | _, _, i + 1, .cons r t => .cons r (Vals.eraseIdx i t)
theorem Vals.reverse {xs : List V} {us : List Value} (h : Vals xs us) : Vals xs.reverse us.reverse := by
  induction h with
  | nil => exact .nil
  | cons r t ih => rw [List.reverse_cons, List.reverse_cons]; exact Vals.append ih (.cons r .nil)
theorem Vals.rep {xs : List V} {us : List Value} (h : Vals xs us) : ∀ k : Nat, Vals (List.replicate k xs).flatten (List.replicate k us).flatten
  | 0 => .nil
  | k + 1 => by
    rw [List.replicate_succ, List.replicate_succ, List.flatten_cons, List.flatten_cons]
    exact Vals.append h (Vals.rep h k)
theorem foldl_rep (its : List Value) : ∀ (k : Nat) (acc : List Value),
    List.foldl (fun x1 x2 => x1 ++ x2) acc.toArray (List.replicate k its.toArray) = (acc ++ (List.replicate k its).flatten).toArray
  | 0, acc => by simp
  | k + 1, acc => by
    have e : acc.toArray ++ its.toArray = (acc ++ its).toArray := by simp
    have e2 : (acc ++ its) ++ (List.replicate k its).flatten = acc ++ (List.replicate (k + 1) its).flatten := by
      rw [List.replicate_succ, List.flatten_cons, List.append_assoc]
    rw [← e2, ← foldl_rep its k (acc ++ its), ← e, List.replicate_succ, List.foldl_cons]
section
variable {X : Cx} {pins : List (Addr × Obj)} {σ : St} {H : Hp} {s : Shared} {l b : Addr} {xs ys zs : List V}
theorem Inv.lset {its its' : List Value} {n : Nat} {f : Array Value → Array Value} {t' : Nat} (I : Inv X pins σ H s) (hH : H l = some (.lst xs))
    (e : s.heap.get? l = some { cls := .type "list", data := .seq its.toArray n }) (hf : f its.toArray = its'.toArray) (hv : Vals ys its') (hz : ys.length ≤ sizeLine) :
    Inv X pins σ (upd H l (.lst ys)) { s with heap := s.heap.update l (Obj.mapSeq f), toks := t' } := by
  have q := PySem.IsL.update e f
  rw [hf] at q
  refine I.write (x := l) (e := l) (by rw [hH]; exact trivial) (.inl rfl) (fun b' u hb hu => (Heap.get?_update_other s.heap (Obj.mapSeq f) (Ne.symm hb)).trans hu) ⟨_, q⟩ ?_
  exact ⟨hz, its', _, hv, q⟩
theorem Inv.lnew {its : List Value} {t' : Nat} (I : Inv X pins σ H s) (hv : Vals ys its) (hz : ys.length ≤ sizeLine) :
    Inv X pins σ (upd H s.heap.objs.size (.lst ys)) { s with heap := s.heap.push { cls := .type "list", data := .seq its.toArray }, toks := t' } :=
  I.laid (fun _ _ q => Heap.get?_push_of_some _ q) (Nat.le_refl _) ⟨hz, its, 0, hv, Heap.get?_push_size _ rfl⟩
theorem Inv.fresh (I : Inv X pins σ H s) : H s.heap.objs.size = none := I.hok.fresh (Nat.le_refl _)
theorem Inv.lstM (I : Inv X pins σ H s) (hH : H l = some (.lst xs)) : xs.length ≤ sizeLine ∧ ∃ (its : List Value) (n : Nat), Vals xs its ∧ xs.length = its.length ∧ s.heap.get? l = some { cls := .type "list", data := .seq its.toArray n } := by
  obtain ⟨z, its, n, r, e⟩ := I.hok l _ hH
  exact ⟨z, its, n, r, r.length, e⟩
theorem notLongL {n : Nat} (h : n ≤ sizeLine) : Builtin.List.listTooLong n = false := by
  unfold Builtin.List.listTooLong
  exact decide_eq_false (by omega)
end
section
variable {X : Cx}
def rAppend : V → List V → Hp → VK → Prop := fun x vs H Q => ∃ l xs y, x = .ref l ∧ vs = [y] ∧ H l = some (.lst xs) ∧ xs.length < sizeLine ∧ Q .non (upd H l (.lst (xs ++ [y])))
theorem mt_append : MtM X "list.append" rAppend := by
  intro pins s σ H x vs v us Q I rx rv h
  obtain ⟨l, xs, y, rfl, rfl, hH, hz, q⟩ := h
  cases rx
  obtain ⟨u, rfl, ru⟩ := rv.one
  obtain ⟨z, its, n, r, hl, e⟩ := I.lstM hH
  refine call_meets F.slot_list_append ⟨_, e, rfl⟩ F.entry_list_append (F.args_list_append_2 _ _) (PySem.list_append l its.toArray n u (by rw [List.size_toArray]; omega)) ⟨e, ?_⟩
  refine ⟨.non, _, I.lset (its' := its ++ [u]) hH e (by simp) (r.append (.cons ru .nil)) ?_, rfl, q⟩
  rw [List.length_append, List.length_singleton]
  omega
def rCat : R2 := fun x y H Q => ∃ l b xs zs, x = .ref l ∧ y = .ref b ∧ H l = some (.lst xs) ∧ H b = some (.lst zs) ∧ xs.length + zs.length ≤ sizeLine ∧ ∀ p, H p = none → Q (.ref p) (upd H p (.lst (xs ++ zs)))
theorem op_cat : OpR X (binaryOp .Add) rCat := by
  intro pins s σ H x y v u Q I rx ry h
  obtain ⟨l, b, xs, zs, rfl, rfl, hH, hB, hz, q⟩ := h
  cases rx
  cases ry
  obtain ⟨z, its, n, r, hl, e⟩ := I.lstM hH
  obtain ⟨z2, its2, n2, r2, hl2, e2⟩ := I.lstM hB
  refine PySem.P.add_list e e2 ?_ (by rw [List.size_toArray, List.size_toArray]; omega)
  have ea : its.toArray ++ its2.toArray = (its ++ its2).toArray := by simp
  rw [ea]
  exact ⟨.ref _, _, I.lnew (t' := s.toks) (r.append r2) (by rw [List.length_append]; omega), rfl, q _ I.fresh⟩
def rRep : R2 := fun x y H Q => ∃ l k xs, x = .ref l ∧ y = .int k ∧ H l = some (.lst xs) ∧ -(2 ^ 63) ≤ k ∧ k < 2 ^ 63 ∧ xs.length * k.toNat ≤ sizeLine ∧
  ∀ p, H p = none → Q (.ref p) (upd H p (.lst (List.replicate k.toNat xs).flatten))
theorem len_rep {α : Type} (xs : List α) (k : Nat) : (List.replicate k xs).flatten.length = k * xs.length := by
  induction k with
  | zero => simp
  | succ k ih => rw [List.replicate_succ, List.flatten_cons, List.length_append, ih, Nat.succ_mul, Nat.add_comm]
theorem op_rep : OpR X (binaryOp .Mult) rRep := by
  intro pins s σ H x y v u Q I rx ry h
  obtain ⟨l, k, xs, rfl, rfl, hH, h1, h2, hz, q⟩ := h
  cases rx
  obtain ⟨t, rfl⟩ := ry
  obtain ⟨z, its, n, r, hl, e⟩ := I.lstM hH
  have hlen : its.toArray.size * k.toNat ≤ sizeLine := by rw [List.size_toArray, ← hl]; exact hz
  have hcap : ¬ its.toArray.size * k.toNat > (2 ^ 63 - 1) / 8 := by
    have : (sizeLine : Nat) ≤ (2 ^ 63 - 1) / 8 := by decide
    omega
  have hfit : ¬ (!Builtin.List.listFitsIndex k) = true := by
    rw [fitsIndex_both h1 h2]
    exact Bool.false_ne_true
  have hlong : ¬ Builtin.List.listTooLong (its.toArray.size * k.toNat) = true := by
    rw [notLongL hlen]
    exact Bool.false_ne_true
  have hnew : List.foldl (fun x1 x2 => x1 ++ x2) #[] (List.replicate (if its.toArray.isEmpty = true then 0 else k.toNat) its.toArray) = (List.replicate k.toNat its).flatten.toArray := by
    have f0 : ∀ m : Nat, List.foldl (fun x1 x2 => x1 ++ x2) #[] (List.replicate m its.toArray) = (List.replicate m its).flatten.toArray := fun m => by
      have := foldl_rep its m []
      rw [List.nil_append] at this
      exact this
    rw [f0]
    cases its with
    | nil => simp
    | cons a r' => rw [if_neg (by simp)]
  refine wpAny_binaryOp_repeat_ref (T := "list") (U := "int") (by decide) ⟨_, e, rfl⟩ (fun s' => typeIs_int s' k t) noFill_list_mul F.fills_int_mul F.slot_int_rmul repeat_list F.slot_int_index.lookup
    (call_meets F.slot_int_rmul (typeIs_int s k t) F.entry_int_rmul (F.args_int_rmul_2 _ _) (int___rmul___int_list k t l its.toArray n)
      ⟨e, rfl, ⟨_, e, rfl⟩, call_meets F.slot_list_mul ⟨_, e, rfl⟩ F.entry_list_mul (F.args_list_mul_2 _ _) (AutoListH.list___mul___list_int_3 l its.toArray n k t hfit hcap hlong) ⟨e, ?_⟩⟩)
  rw [hnew]
  exact ⟨.ref _, _, I.lnew (t' := s.toks) (r.rep k.toNat) (by rw [len_rep, Nat.mul_comm]; exact hz), rfl, q _ I.fresh⟩
end
section
variable {prog : Program} {w : World} {A : Around} {E : Value → Shared → Prop} {s : Shared}
set_option maxRecDepth 100000 in
end
section
variable {X : Cx}
end
end L2
namespace L2
open PySem PySem.Spec PyProof.Rows
section
variable {κ : Type} [DecidableEq κ]
def valV (kvs : List (κ × V)) (k : κ) : Option V := (kvs.find? fun kv => decide (kv.1 = k)).map (·.2)
def putK (kvs : List (κ × V)) (k : κ) (v : V) : List (κ × V) :=
  if (kvs.any fun kv => decide (kv.1 = k)) = true then kvs.map (fun kv => if kv.1 = k then (kv.1, v) else kv) else kvs ++ [(k, v)]
def dropK (kvs : List (κ × V)) (k : κ) : List (κ × V) := kvs.filter fun kv => decide (kv.1 ≠ k)
theorem valV_pos {p : κ × V} {r : List (κ × V)} {k : κ} (e : p.1 = k) : valV (p :: r) k = some p.2 := by simp [valV, List.find?_cons, e]
theorem valV_neg {p : κ × V} {r : List (κ × V)} {k : κ} (e : ¬ p.1 = k) : valV (p :: r) k = valV r k := by simp [valV, List.find?_cons, e]
theorem valV_any (k : κ) : ∀ kvs : List (κ × V), (kvs.any fun kv => decide (kv.1 = k)) = (valV kvs k).isSome
  | [] => rfl
  | p :: r => by
    rw [List.any_cons]
    by_cases e : p.1 = k
    · simp only [valV_pos e, decide_eq_true e, Bool.true_or, Option.isSome_some]
    · rw [valV_neg e, decide_eq_false e, Bool.false_or]; exact valV_any k r
theorem RelO.isSome_eq {o : Option V} {u : Option Value} (r : RelO o u) : o.isSome = u.isSome := by
  cases o with
  | none => cases u with
    | none => rfl
    | some _ => exact (show False from r).elim
  | some _ => cases u with
    | none => exact (show False from r).elim
    | some _ => rfl
theorem RelO.getD {o : Option V} {u : Option Value} {d : V} {d' : Value} (r : RelO o u) (rd : RelV d d') : RelV (o.getD d) (u.getD d') := by
  cases o with
  | none => cases u with
    | none => exact rd
    | some _ => exact (show False from r).elim
  | some _ => cases u with
    | none => exact (show False from r).elim
    | some _ => exact r
theorem KV.val {kvs : List (κ × V)} {vs : List (κ × Value)} (r : KV kvs vs) (k : κ) : RelO (valV kvs k) (valueAt vs k) := by
  unfold KV at r
  induction r with
  | nil => exact True.intro
  | @cons p q ps qs h t ih =>
    obtain ⟨h1, h2⟩ := h
    by_cases e : p.1 = k
    · have e' : q.1 = k := h1.symm.trans e
      have b : valueAt (q :: qs) k = some q.2 := by simp [valueAt, List.find?_cons, e']
      rw [valV_pos e, b]; exact h2
    · have e' : ¬ q.1 = k := fun z => e (h1.trans z)
      have b : valueAt (q :: qs) k = valueAt qs k := by simp [valueAt, List.find?_cons, e']
      rw [valV_neg e, b]; exact ih
theorem KV.any {kvs : List (κ × V)} {vs : List (κ × Value)} (r : KV kvs vs) (k : κ) : (kvs.any fun kv => decide (kv.1 = k)) = vs.any fun kv => decide (kv.1 = k) := by
  unfold KV at r
  induction r with
  | nil => rfl
  | cons h t ih => rw [List.any_cons, List.any_cons, ih, h.1]
theorem KV.repl {kvs : List (κ × V)} {vs : List (κ × Value)} (r : KV kvs vs) (k : κ) {y : V} {u : Value} (ry : RelV y u) :
    KV (kvs.map fun kv => if kv.1 = k then (kv.1, y) else kv) (vs.map fun kv => if kv.1 = k then (kv.1, u) else kv) := by
  unfold KV at r ⊢
  induction r with
  | nil => exact .nil
  | @cons p q ps qs h t ih =>
    rw [List.map_cons, List.map_cons]
    refine .cons ?_ ih
    obtain ⟨h1, h2⟩ := h
    by_cases e : p.1 = k
    · rw [if_pos e, if_pos (h1.symm.trans e)]; exact ⟨h1, ry⟩
    · rw [if_neg e, if_neg (fun z => e (h1.trans z))]; exact ⟨h1, h2⟩
theorem KV.put {kvs : List (κ × V)} {vs : List (κ × Value)} (r : KV kvs vs) (k : κ) {y : V} {u : Value} (ry : RelV y u) : KV (putK kvs k y) (stored vs k u) := by
  unfold putK stored
  rw [r.any k]
  by_cases e : (vs.any fun kv => decide (kv.1 = k)) = true
  · rw [if_pos e, if_pos e]; exact r.repl k ry
  · rw [if_neg e, if_neg e]; exact Paired.snoc r ⟨rfl, ry⟩
theorem KV.drop {kvs : List (κ × V)} {vs : List (κ × Value)} (r : KV kvs vs) (k : κ) : KV (dropK kvs k) (without vs k) := by
  unfold KV at r ⊢
  unfold dropK without
  induction r with
  | nil => exact .nil
  | @cons p q ps qs h t ih =>
    obtain ⟨h1, h2⟩ := h
    rw [List.filter_cons, List.filter_cons]
    by_cases e : p.1 = k
    · have a : ¬ decide (p.1 ≠ k) = true := by simp [e]
      have b : ¬ decide (q.1 ≠ k) = true := by simp [h1.symm.trans e]
      rw [if_neg a, if_neg b]; exact ih
    · have e' : ¬ q.1 = k := fun z => e (h1.trans z)
      have a : decide (p.1 ≠ k) = true := by simp [e]
      have b : decide (q.1 ≠ k) = true := by simp [e']
      rw [if_pos a, if_pos b]; exact .cons ⟨h1, h2⟩ ih
theorem KV.keys {kvs : List (κ × V)} {vs : List (κ × Value)} (r : KV kvs vs) : kvs.map (·.1) = vs.map (·.1) := by
  unfold KV at r
  induction r with
  | nil => rfl
  | cons h t ih => rw [List.map_cons, List.map_cons, ih, h.1]
theorem KV.length {kvs : List (κ × V)} {vs : List (κ × Value)} (r : KV kvs vs) : kvs.length = vs.length := Paired.length r
end
abbrev KT (H : Hp) : List (List Key × V) → List (List Key × Addr × Value) → Prop := Paired fun p q => p.1 = q.1 ∧ H q.2.1 = some (.tup (p.1.map kV)) ∧ RelV p.2 q.2.2
theorem KT.val {H : Hp} {kvs : List (List Key × V)} {xs : List (List Key × Addr × Value)} (r : KT H kvs xs) (k : List Key) : RelO (valV kvs k) ((atKey xs k).map (·.2)) := by
  induction r with
  | nil => exact True.intro
  | @cons p q ps qs h t ih =>
    obtain ⟨h1, _, h2⟩ := h
    by_cases e : p.1 = k
    · have e' : q.1 = k := h1.symm.trans e
      have b : atKey (q :: qs) k = some q.2 := by simp [atKey, List.find?_cons, e']
      rw [valV_pos e, b]; exact h2
    · have e' : ¬ q.1 = k := fun z => e (h1.trans z)
      have b : atKey (q :: qs) k = atKey qs k := by simp [atKey, List.find?_cons, e']
      rw [valV_neg e, b]; exact ih
theorem KT.repl {H : Hp} {kvs : List (List Key × V)} {xs : List (List Key × Addr × Value)} (r : KT H kvs xs) (k : List Key) {y : V} {u : Value} (ry : RelV y u) :
    KT H (kvs.map fun kv => if kv.1 = k then (kv.1, y) else kv) (xs.map (putAt k u)) := by
  induction r with
  | nil => exact .nil
  | @cons p q ps qs h t ih =>
    rw [List.map_cons, List.map_cons]
    refine .cons ?_ ih
    obtain ⟨h1, h2, h3⟩ := h
    unfold putAt
    by_cases e : p.1 = k
    · rw [if_pos e, if_pos (h1.symm.trans e)]; exact ⟨h1, h2, ry⟩
    · rw [if_neg e, if_neg (fun z => e (h1.trans z))]; exact ⟨h1, h2, h3⟩
theorem KT.put {H : Hp} {kvs : List (List Key × V)} {xs : List (List Key × Addr × Value)} (r : KT H kvs xs) (k : List Key) {b : Addr} {y : V} {u : Value} (hb : H b = some (.tup (k.map kV))) (ry : RelV y u) :
    KT H (putK kvs k y) (storedH xs k b u) := by
  have e : (kvs.any fun kv => decide (kv.1 = k)) = (atKey xs k).isSome := by
    rw [valV_any, (r.val k).isSome_eq, Option.isSome_map]
  unfold putK storedH
  rw [e]
  by_cases q : (atKey xs k).isSome = true
  · rw [if_pos q, if_pos q]; exact r.repl k ry
  · rw [if_neg q, if_neg q]; exact Paired.snoc r ⟨rfl, hb, ry⟩
theorem KT.keeps {H H' : Hp} {kvs : List (List Key × V)} {xs : List (List Key × Addr × Value)} (r : KT H kvs xs) (ht : ∀ b ys, H b = some (.tup ys) → H' b = some (.tup ys)) : KT H' kvs xs :=
  Paired.mapP r fun _ _ z => ⟨z.1, ht _ _ z.2.1, z.2.2⟩
section
variable {P : Program} {w : World} {H : Hp} {h : Heap} {a : Addr}
end
def DGet (H : Hp) (a : Addr) (y : V) (r : Option V) : Prop :=
  (∃ kvs k, Rd H a (.dK kvs) ∧ y = kV k ∧ r = valV kvs k) ∨ ∃ kvs k b, Rd H a (.dT kvs) ∧ y = .ref b ∧ H b = some (.tup (k.map kV)) ∧ r = valV kvs k
def DPut (H : Hp) (a : Addr) (y v : V) (H' : Hp) : Prop :=
  (∃ kvs k, H a = some (.dK kvs) ∧ y = kV k ∧ kvs.length < sizeLine ∧ H' = upd H a (.dK (putK kvs k v))) ∨
  ∃ kvs k b, H a = some (.dT kvs) ∧ y = .ref b ∧ H b = some (.tup (k.map kV)) ∧ kvs.length < sizeLine ∧ H' = upd H a (.dT (putK kvs k v))
theorem DGet.k {H : Hp} {a : Addr} {kvs : List (Key × V)} {k : Key} (e : H a = some (.dK kvs)) : DGet H a (kV k) (valV kvs k) := .inl ⟨kvs, k, .inl e, rfl, rfl⟩
theorem DGet.t {H : Hp} {a b : Addr} {kvs : List (List Key × V)} {k : List Key} (e : H a = some (.dT kvs)) (eb : H b = some (.tup (k.map kV))) : DGet H a (.ref b) (valV kvs k) := .inr ⟨kvs, k, b, .inl e, rfl, eb, rfl⟩
theorem DPut.k {H : Hp} {a : Addr} {kvs : List (Key × V)} {k : Key} {v : V} (e : H a = some (.dK kvs)) (hl : kvs.length < sizeLine) : DPut H a (kV k) v (upd H a (.dK (putK kvs k v))) := .inl ⟨kvs, k, e, rfl, hl, rfl⟩
theorem DPut.t {H : Hp} {a b : Addr} {kvs : List (List Key × V)} {k : List Key} {v : V} (e : H a = some (.dT kvs)) (eb : H b = some (.tup (k.map kV))) (hl : kvs.length < sizeLine) :
    DPut H a (.ref b) v (upd H a (.dT (putK kvs k v))) := .inr ⟨kvs, k, b, e, rfl, eb, hl, rfl⟩
section
variable {X : Cx} {pins : List (Addr × Obj)} {σ : St} {H : Hp} {s : Shared} {a : Addr} {y v : V} {u r : Value} {o : Option V} {A : Around} {E : Value → Shared → Prop}
end
section
variable {X : Cx} {pins : List (Addr × Obj)} {σ : St} {H : Hp} {s : Shared} {a : Addr} {kvs : List (Key × V)} {k : Key} {u : Value} {A : Around} {E : Value → Shared → Prop}
end
section
variable {X : Cx} {o i e value : Expr} {pos pos' tpos : Pos} {td ty tv : TE}
end
section
variable {X : Cx} {pos : Pos}
end
def tPairs : List (TE × TE) → St → Hp → (List (V × V) → Hp → Prop) → Prop
  | [], _, H, Q => Q [] H
  | (tk, tv) :: r, σ, H, Q => tk σ H fun x H1 => tv σ H1 fun y H2 => tPairs r σ H2 fun ps H3 => Q ((x, y) :: ps) H3
structure M1 (X : Cx) (o : Expr) (m : Str) (apos : Pos) (e : Expr) (cpos : Pos) : Prop where
  base : attributeBase o m X.env (eval o X.env) = eval o X.env
  few : ((backTo cpos (starEach [e] X.env)).all (fun x => !x.1) && (backToKw cpos (keywordEach [] X.env)).all (fun x => x.1.isSome)
    && decide (([e] : List Expr).length + ([] : List Keyword).length + (if ([] : List Keyword).isEmpty then 0 else 1) < 30)) = true
  line : (apos.endLine == cpos.line) = true
  trees : backTo cpos (starEach [e] X.env) = [(false, eval e X.env)]
structure M2 (X : Cx) (o : Expr) (m : Str) (apos : Pos) (e f : Expr) (cpos : Pos) : Prop where
  base : attributeBase o m X.env (eval o X.env) = eval o X.env
  few : ((backTo cpos (starEach [e, f] X.env)).all (fun x => !x.1) && (backToKw cpos (keywordEach [] X.env)).all (fun x => x.1.isSome)
    && decide (([e, f] : List Expr).length + ([] : List Keyword).length + (if ([] : List Keyword).isEmpty then 0 else 1) < 30)) = true
  line : (apos.endLine == cpos.line) = true
  trees : backTo cpos (starEach [e, f] X.env) = [(false, eval e X.env), (false, eval f X.env)]
section
variable {X : Cx} {pins : List (Addr × Obj)} {σ : St} {H : Hp} {s : Shared} {a : Addr} {y d : V} {u r : Value} {o : Option V} {A : Around} {E : Value → Shared → Prop}
end
section
variable {X : Cx} {o e f : Expr} {apos cpos : Pos} {td ty tx : TE}
end
section
variable {X : Cx} {pins : List (Addr × Obj)} {σ : St} {H : Hp} {s : Shared} {a : Addr} {kvs : List (Key × V)} {A : Around} {E : Value → Shared → Prop}
end
section
variable {X : Cx} {pins : List (Addr × Obj)} {σ : St} {H : Hp} {s : Shared} {a : Addr} {y : V} {u : Value} {A : Around} {E : Value → Shared → Prop}
end
end L2
namespace Att
open PySem PySem.W PySem.Calls PyProof.Rows
theorem ints_of_wellAll {P : Params} {h : Heap} : ∀ (ns : List Int) (vs : List Value), WellAll P h vs (ns.map WData.int) → IntsAre vs ns := by
  intro ns
  induction ns with
  | nil =>
    intro vs w
    rw [List.map_nil] at w
    cases w
    exact .nil
  | cons n ns ih =>
    intro vs w
    rw [List.map_cons] at w
    cases w with
    | cons a b =>
      cases a
      exact .cons _ _ (ih _ b)
theorem script_of {l : OpenLaw} {n : Nat} (hn : l.most = some n) {P : Params} {h : Heap} {args : List WData} {vals : List Value}
    (hpre : l.row.toRowW.claim.pre args = true) (hwl : WellAll P h vals args) :
    ∃ a vs ns, vals = [Value.ref a] ∧ args = [WData.list (ns.map WData.int)] ∧ h.get? a = some { cls := .type "list", data := .seq vs.toArray } ∧ IntsAre vs ns ∧ ns.length ≤ n := by
  have hsh : WShape.hasAll [] args [.list .int] = true := (pre_splitW hpre).1
  have hc : l.pre.holds [] { args := args } = true := (pre_splitW hpre).2
  obtain ⟨d, r, rfl, h1, h2⟩ := hasAllW_cons hsh
  obtain rfl := hasAllW_nil h2
  obtain ⟨xs, rfl, h3⟩ := hasW_list h1
  obtain ⟨ns, rfl⟩ := items_int h3
  have hlen : ns.length ≤ n := by
    unfold OpenLaw.pre at hc
    have h4 : (WTm.not (.lt (.lit (.int (n : Int))) (.len (.arg 0)))).holds [] { args := [.list (ns.map .int)] } = true := by
      have h4 := (holds_andW hc).1
      rw [hn] at h4
      exact h4
    have h5 := condW_of h4 (w_not (w_lt w_lit (w_len_list (w_arg rfl))))
    rw [List.length_map] at h5
    refine Nat.le_of_not_lt fun q => ?_
    have q' : (n : Int) < ((ns.length : Nat) : Int) := by omega
    first
      | (rw [decide_eq_true q'] at h5; exact absurd h5 (by decide))
      | (simp at h5; omega)
  cases hwl with
  | cons w1 w2 =>
    cases w2
    cases w1 with
    | list ho hall => exact ⟨_, _, ns, rfl, rfl, ho, ints_of_wellAll ns _ hall, hlen⟩
theorem post_true (l : OpenLaw) (args : List WData) : l.row.toRowW.claim.post args (.bool true) args = true :=
  postW_of (r := l.row.toRowW) (X := (true == true))
    (show WShape.has [] (.bool true) .bool = true by first | rfl | decide | simp [WShape.has, WShape.arms, WShape.armsAll])
    (show (WTm.eq .res (.lit (.bool true))).value [] { args := args, res := some (.bool true), after := args } = some (.bool (true == true)) from w_eq_bool (w_res rfl) w_lit) rfl
theorem attach_call {l : OpenLaw} {n : Nat} {q : Program} {loose : List Str} {XP : (Str → Option Value) → Heap → Prop} {YP : World → Heap → Prop} {d : DefRec}
    (hn : l.most = some n) (hdf : d.params.defaults = [])
    (call : ∀ (w : World) (s₀ s₁ : Shared) (mg mb : Str → Option Value) (fa : Addr) (o : Obj) (pm cd doc : Value) (a : Addr) (vs : List Value) (ns : List Int),
      Ground q loose [] XP w s₀ mg mb s₁.heap → YP w s₁.heap →
      s₁.heap.get? fa = some o → o.data = .func (docDef d.name d.params d.body d.scope pm cd doc) → s₁.heap.CodeRec cd d.name → mg d.name = some (.ref fa) →
      s₁.heap.get? a = some { cls := .type "list", data := .seq vs.toArray } → IntsAre vs ns → ns.length ≤ n → s₁.gens = #[] →
      codeAny (model l.prog w) callerA (.call (.ref fa) ⟨[.ref a], []⟩) (fun r s' => r = .ok (.ret (.bool true)) ∧ OldK s₁.heap s'.heap ∧ s'.os = s₁.os ∧ AllBare s'.gens) s₁) :
    WalkO q loose XP YP l.row.toRowW d [] (fun f vs => PySem.call f vs) := by
  intro w s₀ s₁ mg mb G Y fa o pm cd doc dV kV ho hd hcd hD hmg hg args vals as hpre hlay hrd hwl hlo
  obtain rfl : dV = .none := Dflts.none hD hdf
  obtain rfl : kV = .none := Dflts.noKw hD
  obtain ⟨a, vs, ns, rfl, rfl, hobj, hints, hlen⟩ := script_of hn hpre hwl
  refine enter_call (codeAny_mono (call w s₀ s₁ mg mb fa o pm cd doc a vs ns G Y ho (fd_plain hd) hcd hmg hobj hints hlen hg) fun r s' hq => ?_)
  obtain ⟨rfl, h2, h3, h4⟩ := hq
  exact ⟨.inl ⟨.bool true, .bool true, [], rfl, fun _ => rfl, .bool true, post_true l _, fun _ => ⟨List.Pairwise.nil, fun _ hm => (nomatch hm)⟩⟩, h2, h3, h4⟩
section
variable {prog : Program} {w : World} {A : Around} {E : Value → Shared → Prop} {s : Shared} {K : Frag}
def ledger (h : Heap) (L d : Addr) : List (Addr × Obj) := (List.range h.objs.size).filterMap fun a => if a = L ∨ a = d then none else (h.get? a).map fun o => (a, o)
end
end Att
namespace L2
open PySem PySem.Spec PyProof.Rows
theorem vals_ints : ∀ {vs : List Value} {ns : List Int}, IntsAre vs ns → Vals (ns.map V.int) vs
  | _, _, .nil => .nil
  | _, _, .cons n t h => .cons ⟨t, rfl⟩ (vals_ints h)
def Only (_ : Hp) : Prop := True
end L2
namespace L2
open PySem PySem.Spec PyProof.Rows
abbrev KOf {K : PySem.W.Frag} {h : Heap} (_ : K.In h) : PySem.W.Frag := K
end L2
namespace L2
open PySem PySem.Spec PyProof.Rows
def defArgs (s : Stmt) : Arguments := match s with
  | .FunctionDef _ a _ _ _ _ _ _ _ _ => a
  | _ => { posonlyargs := [], args := [], vararg := none, kwonlyargs := [], kw_defaults := [], kwarg := none, defaults := [] }
def defBody (s : Stmt) : List Stmt := match s with
  | .FunctionDef _ _ b _ _ _ _ _ _ _ => b
  | _ => []
def defScope (s : Stmt) : Scope := match s with
  | .FunctionDef _ _ _ _ _ _ sc _ _ _ => sc
  | _ => { kind := .function, names := [], isGenerator := false, isCoroutine := false }
abbrev CX0 : CXT := fun _ _ _ _ _ _ => False
abbrev E0 : XK := fun _ _ _ => False
theorem pass0 {X : Cx} : Passes CX0 X E0 := fun _ _ _ _ _ _ _ h => h.elim
structure Fun (K : PySem.W.Frag) (x qual : Str) (st : Stmt) (f : Addr) (fd : FuncData) : Prop where
  ex : ∃ (oc : Value) (od : Option Addr) (kV doc pm : Value) (an : Option Addr) (cdv ct : Value) (osl : Array (Option Value)),
    fd = PySem.W.fnOf x qual (defArgs st) (defBody st) (defScope st) .none kV doc pm an cdv ct ∧ K.lookup f = some ⟨oc, od, .func fd, osl⟩ ∧ PySem.W.codeIn K cdv qual = true
  kp : PySem.W.keepIn K (.ref f) = true
section
variable {P : Program} {w : World} {K : PySem.W.Frag} {mg : Str → Option Value} {base : Heap}
theorem Fun.ok {x qual : Str} {st : Stmt} {f : Addr} {fd : FuncData} {N ps : List Str} {k : Nat} {sp : Sp} (F : Fun K x qual st f fd) (S : FnScope N ps (defScope st)) (len : ∀ vs H Q E, sp vs H Q E → vs.length = ps.length)
    (hbody : ∀ (cdv : Value) (A : Around) (outer : List Env) (s : Shared) (H : Hp) (vs : List V) (Q : VK) (E : XK), Room k (A.deeper (envOfC qual (defScope st) s.heap.objs.size f cdv)) → sp vs H Q E →
      ∃ t, PSs (cxOf CX0 P w K mg base N qual (defScope st) f cdv A outer s H E).nox (defBody st) t ∧ t { nx := fun _ H' => Q .non H', rt := Q } (start N vs) H) : FnOk P w K mg base CX0 (k + 1) f fd ps sp := by
  obtain ⟨oc, od, kV, doc, pm, an, cdv, ct, osl, rfl, lk, hcd⟩ := F.ex
  refine fn_of lk hcd S len fun A outer s H vs Q E hr hsp => ?_
  obtain ⟨t, h, q⟩ := hbody cdv A outer s H vs Q E hr hsp
  exact ⟨t, h.nox, q⟩
theorem Fun.binds {x qual : Str} {st : Stmt} {f : Addr} {fd : FuncData} {ps : List Str} (F : Fun K x qual st f fd)
    (h : ∀ (kV doc pm : Value) (an : Option Addr) (cdv ct : Value) (us : List Value), us.length = ps.length → bindArgs (PySem.W.fnOf x qual (defArgs st) (defBody st) (defScope st) .none kV doc pm an cdv ct) ⟨us, []⟩ = pure (ps.zip us)) : Binds K fd ps [] := by
  obtain ⟨oc, od, kV, doc, pm, an, cdv, ct, osl, rfl, lk, hcd⟩ := F.ex
  exact .all (h kV doc pm an cdv ct)
theorem fun_mk {x qual : Str} {st : Stmt} {f : Addr} {oc : Value} {od an : Option Addr} {osl : Array (Option Value)} {kV doc pm cdv ct : Value} (l : K.lookup f = some ⟨oc, od, .func (PySem.W.fnOf x qual (defArgs st) (defBody st) (defScope st) .none kV doc pm an cdv ct), osl⟩)
    (c : PySem.W.codeIn K cdv qual = true) (k : PySem.W.keepIn K (.ref f) = true) : Fun K x qual st f (PySem.W.fnOf x qual (defArgs st) (defBody st) (defScope st) .none kV doc pm an cdv ct) := ⟨⟨oc, od, kV, doc, pm, an, cdv, ct, osl, rfl, l, c⟩, k⟩
end
theorem small1000 {n : Nat} (h : n ≤ 1000) : n < sizeLine := Nat.lt_of_le_of_lt h (by decide)
section
variable {X : Cx}
theorem pv (i : Nat) {x : Str} {pos : Pos} (hN : X.N[i]? = some x := by rfl) (hv : Vis X.env.scope x := by first | exact Or.inl rfl | exact Or.inr (Or.inl rfl) | exact Or.inr (Or.inr rfl)) (hd : (x == ("__debug__" : Str)) = false := by decide)
    (hcd : (x == ("__classdict__" : Str)) = false := by decide) : PE X (.Name x pos) (tVar i) := pe_var hN hv hd hcd
end
theorem ite2 {c A B : Prop} [Decidable c] (h1 : c → A) (h2 : ¬ c → B) : if c then A else B := by
  by_cases h : c
  · rw [if_pos h]
    exact h1 h
  · rw [if_neg h]
    exact h2 h
def Same (H H' : Hp) : Prop := ∀ b o, H b = some o → H' b = some o
theorem Same.refl (H : Hp) : Same H H := fun _ _ h => h
theorem Same.trans {H H1 H2 : Hp} (a : Same H H1) (b : Same H1 H2) : Same H H2 := fun c o h => b c o (a c o h)
theorem Same.free {H H' : Hp} (e : Same H H') {l : Addr} (h : H' l = Option.none) : H l = Option.none := by
  cases q : H l with
  | none => rfl
  | some o =>
    rw [e l o q] at h
    cases h
theorem Same.seq {K : PySem.W.Frag} {H H' : Hp} {a : Addr} {xs : List V} (e : Same H H') (h : SqL K H a xs) : SqL K H' a xs := by
  rcases h with (h | ⟨o, h⟩) | h
  · exact .inl (.inl (e _ _ h))
  · exact .inl (.inr ⟨o, e _ _ h⟩)
  · exact .inr h
section
variable {κ : Type} [DecidableEq κ]
end
end L2
set_option Elab.async false
set_option linter.all false
set_option maxRecDepth 100000
set_option maxHeartbeats 1000000
namespace L2
open PySem PySem.Spec PyProof.Rows
section
variable {prog : Program} {w : World} {A : Around} {E : Value → Shared → Prop} {R : Result → Shared → Prop} {s : Shared}
def compTail (elt : Expr) (gens : List Comprehension) (scope : Scope) (pos : Pos) (d : Nat) (acc : Value) (env : Env) : Sem Unit :=
  match gens[d + 1]? with
  | some g' => do
    let x ← eval g'.iter env
    standAt g'.iter.pos
    let x ← if g'.is_async != 0 then foldedIterable g'.iter x else foldedSetIterable g'.iter env x
    let _ ← runOwn (.compStart (.ListComp elt gens scope pos) (d + 1) (← holding [x] (if g'.is_async != 0 then asyncIter x else pyIter x)) acc env) env
  | none => do let _ ← call (.builtin "list.append") [acc, ← eval elt env]
theorem compLoop_gen {elt target iter : Expr} {gens : List Comprehension} {ifs : List Expr} {scope : Scope} {pos : Pos} {d : Nat} {it acc : Value} {env : Env} (I : Nat → Shared → Prop)
    (hg : gens[d]? = some ⟨target, iter, ifs, 0⟩) (ha : ∀ g', gens[d + 1]? = some g' → g'.is_async = 0)
    (turn : ∀ n s, I n s → wpAny (model prog w) A (pyNext it) (fun r s₁ => match r with
      | none => R (.ok .next) s₁
      | some v => wpAny (model prog w) A (letOwnedTupleGo target it v) (fun _ s₁' => wpAny (model prog w) A (assign target env v) (fun _ s₂ =>
          wpAny (model prog w) A (forIn ifs true fun c r => if r = true then do let ok ← isTrue c env (eval c env); pure (ForInStep.yield ok) else pure (ForInStep.yield r)) (fun ok s₃ =>
            if ok = true then wpAny (model prog w) A (compTail elt gens scope pos d acc env) (fun _ s₅ => ∃ m, m < n ∧ I m s₅) (fun _ _ => False) s₃
            else ∃ m, m < n ∧ I m s₃) (fun _ _ => False) s₂) (fun _ _ => False) s₁') (fun _ _ => False) s₁) (fun _ _ => False) s)
    (n : Nat) (h : I n s) :
    codeAny (model prog w) A (.compLoop (.ListComp elt gens scope pos) d it acc env) R s := by
  refine codeAny_loop rfl I (fun n s hI => ?_) n h
  show wpAny _ A ((compTurn (.ListComp elt gens scope pos) d it acc env).onRaise (fun x => do noteFrame x env; theTreesLotGoes x)) _ _ s
  refine wpAny_noted ?_
  unfold compTurn
  simp only [hg]
  refine wpAny_bind (wpAny_standAt (wpAny_bind (wpAny_mono (turn n s hI) (fun r s₁ h₁ => ?_) fun _ _ x => x.elim)))
  cases r with
  | none => exact wpAny_pure h₁
  | some v =>
    refine wpAny_bind (wpAny_mono h₁ (fun _ s₁' h₁' => ?_) fun _ _ x => x.elim)
    refine wpAny_bind (wpAny_mono h₁' (fun _ s₂ h₂ => wpAny_bind (wpAny_mono h₂ (fun ok s₃ h₃ => ?_) fun _ _ x => x.elim)) fun _ _ x => x.elim)
    cases ok with
    | false => exact wpAny_pure ⟨rfl, h₃⟩
    | true =>
      have h₃' : wpAny (model prog w) A (compTail elt gens scope pos d acc env) (fun _ s₅ => ∃ m, m < n ∧ I m s₅) (fun _ _ => False) s₃ := h₃
      unfold compTail at h₃'
      rw [if_pos rfl]
      cases hd : gens[d + 1]? with
      | none =>
        rw [hd] at h₃'
        exact wpAny_bind (wpAny_mono h₃' (fun _ s₅ h₅ => wpAny_pure ⟨rfl, h₅⟩) fun _ _ x => x.elim)
      | some g' =>
        rw [hd] at h₃'
        have h0 := ha g' hd
        have e0 : (g'.is_async != 0) = false := by rw [h0]; rfl
        dsimp only at h₃' ⊢
        simp only [e0, Bool.false_eq_true, if_false] at h₃' ⊢
        intro Γ p hΓ
        have q := h₃' Γ p hΓ
        simp only [Sem.wp_bind'] at q ⊢
        refine Sem.wp_mono _ Γ _ (fun x p₁ s₄ q₁ => ?_) (fun _ _ _ z => z.elim) _ _ q
        refine Sem.wp_mono _ Γ _ (fun _ p₂ s₄ q₂ => ?_) (fun _ _ _ z => z.elim) _ _ q₁
        refine Sem.wp_mono _ Γ _ (fun x p₂ s₄ q₂ => ?_) (fun _ _ _ z => z.elim) _ _ q₂
        refine Sem.wp_mono _ Γ _ (fun x p₂ s₄ q₂ => ?_) (fun _ _ _ z => z.elim) _ _ q₂
        refine Sem.wp_mono _ Γ _ (fun x p₂ s₄ q₂ => ?_) (fun _ _ _ z => z.elim) _ _ q₂
        exact ⟨rfl, q₂⟩
end
end L2
set_option Elab.async false
set_option linter.all false
set_option maxRecDepth 100000
set_option maxHeartbeats 1000000
namespace L2
open PySem PySem.Spec PyProof.Rows
section
variable {prog : Program} {w : World} {A : Around} {E : Value → Shared → Prop} {R : Result → Shared → Prop} {s : Shared}
theorem compStart_gen {elt target iter : Expr} {gens : List Comprehension} {ifs : List Expr} {scope : Scope} {pos : Pos} {d : Nat} {it acc : Value} {env : Env}
    (hg : gens[d]? = some ⟨target, iter, ifs, 0⟩)
    (h0 : codeAny (model prog w) A (.compLoop (.ListComp elt gens scope pos) d it acc env) R s)
    (h : wpAny (model prog w) A (pyIter it) (fun it' s' => codeAny (model prog w) A (.compLoop (.ListComp elt gens scope pos) d it' acc env) R s') (fun _ _ => False) s) :
    codeAny (model prog w) A (.compStart (.ListComp elt gens scope pos) d it acc env) R s := by
  refine codeAny_of_tree ?_
  show wpAny _ _ ((compStart (.ListComp elt gens scope pos) d it acc env).onRaise (fun x => do noteFrame x env; standAt theWindowsPlace)) _ _ s
  refine wpAny_notedAt ?_
  unfold compStart
  have hcl : clausesOf (.ListComp elt gens scope pos) = gens := rfl
  simp only [hcl, hg, Option.elim]
  refine wpAny_ite ?_
  rw [if_neg (by decide)]
  refine wpAny_bind (wpAny_askSetting (wpAny_ite ?_))
  split
  · first
      | exact wpAny_bind (wpAny_pure (wpAny_pure (And.intro rfl h0)))
      | exact wpAny_pure (And.intro rfl h0)
  · exact wpAny_bind (wpAny_rule (wpAny_bind (wpAny_standAt (wpAny_bind (wpAny_mono h (fun it' s' h' => wpAny_pure (And.intro rfl h')) fun _ _ x => x.elim)))))
end
abbrev TL := Addr → St → Hp → (St → Hp → Prop) → Prop
def PL (X : Cx) (elt : Expr) (gens : List Comprehension) (scope : Scope) (pos : Pos) (d : Nat) (t : TL) : Prop :=
  ∀ (pins : List (Addr × Obj)) (s : Shared) (σ : St) (H : Hp) (acc : Addr) (K : St → Hp → Prop), Inv X pins σ H s → t acc σ H K →
    wpAny (model X.prog X.w) X.A (compTail elt gens scope pos d (.ref acc) X.env) (fun _ s' => ∃ σ' H', Inv X pins σ' H' s' ∧ K σ' H') (fun _ _ => False) s
def PTs (X : Cx) (ifs : List Expr) (t : TT) : Prop :=
  ∀ (pins : List (Addr × Obj)) (s : Shared) (σ : St) (H : Hp) (Q : Bool → Hp → Prop), Inv X pins σ H s → t σ H Q →
    wpAny (model X.prog X.w) X.A (forIn ifs true fun c r => if r = true then do let ok ← isTrue c X.env (eval c X.env); pure (ForInStep.yield ok) else pure (ForInStep.yield r)) (TP X pins σ Q) X.xe s
def tNoTest : TT := fun _ H Q => Q true H
def lLast (te : TE) : TL := fun acc σ H K => te σ H fun y H1 => ∃ xs, H1 acc = some (.lst xs) ∧ xs.length < sizeLine ∧ K σ (upd H1 acc (.lst (xs ++ [y])))
def lLoop (J : It) (g : TG) (tc : TT) (l : TL) : TL := fun acc σ H K => ∃ W : Nat → Nat → St → Hp → Prop, (∃ m, W 0 m σ H) ∧ ∀ i m σ H, W i m σ H →
  (J.stop i H ∧ K σ H) ∨ (J.go i H ∧ ∀ x H', J.yld i H x H' → g x σ H' fun σ2 H2 => tc σ2 H2 fun b H3 =>
    if b = true then l acc σ2 H3 (fun σ3 H4 => ∃ m', m' < m ∧ W (i + 1) m' σ3 H4) else ∃ m', m' < m ∧ W (i + 1) m' σ2 H3)
def lFor (wi : TI) (g : TG) (tc : TT) (l : TL) : TL := fun acc σ H K => wi σ H fun J H1 => lLoop J g tc l acc σ H1 K
section
variable {X : Cx} {elt : Expr} {gens : List Comprehension} {scope : Scope} {pos : Pos} {d : Nat} {te : TE} {l : TL} {tg iter : Expr} {ifs : List Expr} {wi : TI} {g : TG} {tc : TT}
theorem pts_nil : PTs X [] tNoTest := fun pins s σ H Q I h => wpAny_tests_nil ⟨H, I, h⟩
theorem pts_one {c : Expr} (hc : PT X c tc) : PTs X [c] tc := fun pins s σ H Q I h => wpAny_tests_one (hc pins s σ H Q I h)
theorem pl_last (hx : X.xe = fun _ _ => False) (hd : gens[d + 1]? = none) (he : PE X elt te) : PL X elt gens scope pos d (lLast te) := by
  intro pins s σ H acc K I h
  unfold compTail
  rw [hd]
  have he' := he pins s σ H _ I h
  rw [hx] at he'
  refine wpAny_bind (thn he' fun u s1 ⟨y, H1, I1, r1, xs, e1, z1, k1⟩ => ?_)
  have ha := mt_append pins s1 σ H1 (.ref acc) [y] (.ref acc) [u] (fun v H2 => v = .non ∧ H2 = upd H1 acc (.lst (xs ++ [y]))) I1 rfl (.cons r1 .nil) ⟨acc, xs, y, rfl, rfl, e1, z1, rfl, rfl⟩
  rw [hx] at ha
  refine wpAny_bind (thn ha fun v s2 ⟨v', H2, I2, r2, e2, e3⟩ => wpAny_pure ⟨σ, H2, I2, by rw [e3]; exact k1⟩)
theorem comp_loop (hx : X.xe = fun _ _ => False) (hc : X.calm = true) (hd : gens[d]? = some ⟨tg, iter, ifs, 0⟩) (ha : ∀ g', gens[d + 1]? = some g' → g'.is_async = 0) (hg : PG X tg g) (ht : PTs X ifs tc) (hl : PL X elt gens scope pos d l)
    {pins : List (Addr × Obj)} {s : Shared} {σ : St} {H : Hp} {acc it : Addr} {fp : List Addr} {tn : Nat → Heap → Prop} {J : It} {K : St → Hp → Prop} {R : Result → Shared → Prop} (I : Inv X pins σ H s) (T : Turn X.prog X.w X.K tg J fp it tn) (st : tn 0 s.heap) (f2 : ∀ b ∈ fp, FpOk X pins H b)
    (h : lLoop J g tc l acc σ H K) (hR : ∀ σ' H' s', Inv X pins σ' H' s' → K σ' H' → R (.ok .next) s') :
    codeAny (model X.prog X.w) X.A (.compLoop (.ListComp elt gens scope pos) d (.ref it) (.ref acc) X.env) R s := by
  obtain ⟨W, ⟨m0, w0⟩, turn⟩ := h
  have stat : ∀ {H' : Hp}, (∀ b ∈ fp, H' b = none) → ∀ b ∈ fp, FpOk X pins H' b := fun hn b hb => ⟨hn b hb, (f2 b hb).2⟩
  refine compLoop_gen (fun n s' => ∃ i σ' H', Inv X pins σ' H' s' ∧ tn i s'.heap ∧ (∀ b ∈ fp, H' b = none) ∧ W i n σ' H') hd ha ?_ m0 ⟨0, σ, H, I, st, fun b hb => (f2 b hb).1, w0⟩
  rintro n s3 ⟨i, σ3, H3, I3, st3, fr3, w3⟩
  rcases turn i n σ3 H3 w3 with ⟨stop, qn⟩ | ⟨go, step⟩
  · refine thn (T.done X rfl rfl rfl hc i pins s3 σ3 H3 _ I3 (stat fr3) st3 stop) fun r s4 ⟨hr, I4⟩ => ?_
    subst hr
    exact hR σ3 H3 s4 I4 qn
  · refine thn (T.item X rfl rfl rfl hc i pins s3 σ3 H3 _ I3 (stat fr3) st3 go) fun r s4 ⟨u, hr, h4⟩ => ?_
    subst hr
    refine thn h4 fun _ s5 ⟨x, H5, I5, r5, y5, st5, fr5⟩ => ?_
    have I5' := I5.pinned (stat fr5) (T.obj _ _ st5)
    have again : ∀ {σ7 : St} {H7 : Hp} {s7 : Shared} {m' : Nat}, Inv X (pins ++ pinsAt fp s5.heap) σ7 H7 s7 → m' < n → W (i + 1) m' σ7 H7 → ∃ m, m < n ∧ ∃ i σ' H', Inv X pins σ' H' s7 ∧ tn i s7.heap ∧ (∀ b ∈ fp, H' b = none) ∧ W i m σ' H' := fun {σ7 H7 s7 m'} I7 hm w7 => by
      refine ⟨m', hm, i + 1, σ7, H7, I7.unpinned, T.keep _ _ _ st5 fun b hb o e => (I7.pin (b, o) (List.mem_append_right _ (List.mem_append_right _ (mem_pinsAt hb e)))).1, fun b hb => ?_, w7⟩
      obtain ⟨o, e, d⟩ := T.obj _ _ st5 b hb
      exact (I7.pin (b, o) (List.mem_append_right _ (List.mem_append_right _ (mem_pinsAt hb e)))).2.1
    have hg' := hg _ s5 σ3 H5 x u _ I5' r5 (step x H5 y5)
    rw [hx] at hg'
    refine thn hg' fun _ s6 ⟨σ6, H6, I6, q6⟩ => ?_
    have ht' := ht _ s6 σ6 H6 _ I6 q6
    rw [hx] at ht'
    refine thn ht' fun ok s7 ⟨H7, I7, q7⟩ => ?_
    cases ok with
    | false =>
      rw [if_neg Bool.false_ne_true] at q7 ⊢
      obtain ⟨m', hm, w7⟩ := q7
      exact again I7 hm w7
    | true =>
      rw [if_pos rfl] at q7 ⊢
      refine thn (hl _ s7 σ6 H7 acc _ I7 q7) fun _ s8 ⟨σ8, H8, I8, m', hm, w8⟩ => ?_
      exact again I8 hm w8
theorem pl_for (hx : X.xe = fun _ _ => False) (hc : X.calm = true) (hd : gens[d + 1]? = some ⟨tg, iter, ifs, 0⟩) (ha : ∀ g', gens[d + 2]? = some g' → g'.is_async = 0) (hi : PI X tg iter wi) (hg : PG X tg g) (ht : PTs X ifs tc) (hl : PL X elt gens scope pos (d + 1) l)
    (hs : ∀ x, foldedSetIterable iter X.env x = pure x := by intro _; rfl) : PL X elt gens scope pos d (lFor wi g tc l) := by
  intro pins s σ H acc K I h
  unfold compTail
  rw [hd]
  dsimp only
  have e0 : ((0 : Int) != 0) = false := by decide
  simp only [show (((⟨tg, iter, ifs, 0⟩ : Comprehension).is_async != 0) = false) from rfl, Bool.false_eq_true, if_false]
  have hi' := hi pins s σ H _ I h
  rw [hx] at hi'
  refine wpAny_bind (thn hi' fun v s1 h1 => wpAny_bind (wpAny_standAt (wpAny_bind (wpAny_of_eq (hs v) ?_))))
  refine wpAny_bind (wpAny_holding (thn h1 fun itv s2 h2 => ?_))
  obtain ⟨it, fp, tn, J, H2, e, I2, T, st2, f2, q⟩ := h2
  subst e
  have loop : codeAny (model X.prog X.w) X.A (.compLoop (.ListComp elt gens scope pos) (d + 1) (.ref it) (.ref acc) X.env) (fun r s' => match r with | .ok f => wpAny (model X.prog X.w) X.A (pure () : Sem Unit) (fun _ s' => ∃ σ' H', Inv X pins σ' H' s' ∧ K σ' H') (fun _ _ => False) s' | .error e => cameBackBy (model X.prog X.w) X.A X.env (fun _ _ => False) e s') s2 :=
    comp_loop hx hc hd ha hg ht hl I2 T st2 f2 q fun σ' H' s' I' k' => wpAny_pure ⟨σ', H', I', k'⟩
  exact wpAny_bind (wpAny_runOwn (compStart_gen hd loop (T.self X.A 0 s2 _ _ st2 loop)))
end
end L2
set_option Elab.async false
set_option linter.all false
set_option maxRecDepth 100000
set_option maxHeartbeats 1000000
namespace L2
open PySem PySem.Spec PyProof.Rows
def clOf (env : Env) : List (Str × NameKind) → List (Str × Addr) → List (Str × Addr)
  | [], acc => acc
  | (n, k) :: r, acc => if k == .free then clOf env r ((n, (env.cells.lookup n).getD 0) :: acc) else clOf env r acc
theorem closure_eq {scope : Scope} {env : Env} (h : ∀ y ∈ scope.names, y.2 = .free → ∃ c, env.cells.lookup y.1 = some c) : closureFor scope env = pure (clOf env scope.names []) := by
  have gen : ∀ (names : List (Str × NameKind)) (acc : List (Str × Addr)), (∀ y ∈ names, y.2 = .free → ∃ c, env.cells.lookup y.1 = some c) →
      (forIn names acc fun (x : Str × NameKind) (r : List (Str × Addr)) => (if (x.2 == NameKind.free) = true then do let a ← cellOf env x.1; pure (ForInStep.yield ((x.1, a) :: r)) else pure (ForInStep.yield r) : Sem _)) = pure (clOf env names acc) := by
    intro names
    induction names with
    | nil => intro acc _; rfl
    | cons y r ih =>
      intro acc hy
      obtain ⟨n, k⟩ := y
      rw [List.forIn_cons]
      unfold clOf
      cases hk : k == NameKind.free with
      | true =>
        obtain ⟨c, hc⟩ := hy (n, k) (List.mem_cons_self ..) (by simpa using hk)
        simp only [hk, if_true, cellOf, hc, Option.getD_some]
        exact ih _ fun y hy' => hy y (List.mem_cons_of_mem _ hy')
      | false =>
        simp only [hk, Bool.false_eq_true, if_false]
        exact ih _ fun y hy' => hy y (List.mem_cons_of_mem _ hy')
  have := gen scope.names [] h
  unfold closureFor
  show ((forIn scope.names ([] : List (Str × Addr)) fun (x : Str × NameKind) (r : List (Str × Addr)) => (if (x.2 == NameKind.free) = true then do let a ← cellOf env x.1; pure (ForInStep.yield ((x.1, a) :: r)) else pure (ForInStep.yield r) : Sem _)) >>= fun z => pure z) = _
  rw [this]
  rfl
theorem mem_clOf {env : Env} : ∀ {names : List (Str × NameKind)} {acc : List (Str × Addr)} {n : Str} {c : Addr}, (n, c) ∈ clOf env names acc → (n, c) ∈ acc ∨ ((n, NameKind.free) ∈ names ∧ c = (env.cells.lookup n).getD 0)
  | [], _, _, _, h => .inl h
  | (m, k) :: r, acc, n, c, h => by
    unfold clOf at h
    split at h
    · rename_i hk
      rcases mem_clOf h with h | ⟨h1, h2⟩
      · rcases List.mem_cons.mp h with e | e
        · cases e
          have : k = .free := by simpa using hk
          subst this
          exact .inr ⟨List.mem_cons_self .., rfl⟩
        · exact .inl e
      · exact .inr ⟨List.mem_cons_of_mem _ h1, h2⟩
    · rcases mem_clOf h with h | ⟨h1, h2⟩
      · exact .inl h
      · exact .inr ⟨List.mem_cons_of_mem _ h1, h2⟩
theorem clOf_mem {env : Env} : ∀ {names : List (Str × NameKind)} {acc : List (Str × Addr)} {n : Str}, ((n, NameKind.free) ∈ names ∨ ∃ c, (n, c) ∈ acc) → ∃ c, (n, c) ∈ clOf env names acc
  | [], _, _, h => by
    rcases h with h | h
    · cases h
    · exact h
  | (m, k) :: r, acc, n, h => by
    unfold clOf
    split
    · rename_i hk
      apply clOf_mem
      rcases h with h | ⟨c, h⟩
      · rcases List.mem_cons.mp h with e | e
        · cases e; exact .inr ⟨_, List.mem_cons_self ..⟩
        · exact .inl e
      · exact .inr ⟨c, List.mem_cons_of_mem _ h⟩
    · rename_i hk
      apply clOf_mem
      rcases h with h | h
      · rcases List.mem_cons.mp h with e | e
        · cases e; simp at hk
        · exact .inl e
      · exact .inr h
theorem mem_cellsFrom : ∀ {names : List (Str × NameKind)} {h : Heap} {acc : List (Str × Addr)} {n : Str} {c : Addr}, (n, c) ∈ cellsFrom h.objs.size names acc →
    (n, c) ∈ acc ∨ ((n, NameKind.cell) ∈ names ∧ h.objs.size ≤ c ∧ (pushCells h names).IsCell c none)
  | [], _, _, _, _, m => .inl m
  | (x, k) :: r, h, acc, n, c, m => by
    unfold cellsFrom at m
    unfold pushCells
    split at m
    · rename_i hk
      rw [if_pos hk]
      have sz : (h.push { cls := .type "cell", data := .cell none }).objs.size = h.objs.size + 1 := Heap.size_push ..
      rw [← sz] at m
      rcases mem_cellsFrom m with m | ⟨m1, m2, m3⟩
      · rcases List.mem_cons.mp m with e | e
        · cases e
          have : k = .cell := by simpa using hk
          subst this
          exact .inr ⟨List.mem_cons_self .., Nat.le_refl _, ⟨_, pushCells_keeps _ _ _ _ (Heap.get?_push_size _ rfl), rfl⟩⟩
        · exact .inl e
      · exact .inr ⟨List.mem_cons_of_mem _ m1, by omega, m3⟩
    · rename_i hk
      rw [if_neg hk]
      rcases mem_cellsFrom m with m | ⟨m1, m2, m3⟩
      · exact .inl m
      · exact .inr ⟨List.mem_cons_of_mem _ m1, m2, m3⟩
theorem cellsFrom_mem : ∀ {names : List (Str × NameKind)} {k : Nat} {acc : List (Str × Addr)} {n : Str}, ((n, NameKind.cell) ∈ names ∨ ∃ c, (n, c) ∈ acc) → ∃ c, (n, c) ∈ cellsFrom k names acc
  | [], _, _, _, h => by
    rcases h with h | h
    · cases h
    · exact h
  | (m, k) :: r, j, acc, n, h => by
    unfold cellsFrom
    split
    · rename_i hk
      apply cellsFrom_mem
      rcases h with h | ⟨c, h⟩
      · rcases List.mem_cons.mp h with e | e
        · cases e; exact .inr ⟨_, List.mem_cons_self ..⟩
        · exact .inl e
      · exact .inr ⟨c, List.mem_cons_of_mem _ h⟩
    · rename_i hk
      apply cellsFrom_mem
      rcases h with h | h
      · rcases List.mem_cons.mp h with e | e
        · cases e; simp at hk
        · exact .inl e
      · exact .inr h
theorem cellsFrom_inj : ∀ {names : List (Str × NameKind)} {k : Nat} {acc : List (Str × Addr)}, (∀ n c, (n, c) ∈ acc → c < k) → (∀ n m c, (n, c) ∈ acc → (m, c) ∈ acc → n = m) →
    ∀ n m c, (n, c) ∈ cellsFrom k names acc → (m, c) ∈ cellsFrom k names acc → n = m
  | [], _, _, _, h2, n, m, c, a, b => h2 n m c a b
  | (x, kd) :: r, k, acc, h1, h2, n, m, c, a, b => by
    unfold cellsFrom at a b
    split at a
    · rename_i hk
      rw [if_pos hk] at b
      refine cellsFrom_inj (k := k + 1) ?_ ?_ n m c a b
      · intro n c h
        rcases List.mem_cons.mp h with e | e
        · cases e; exact Nat.lt_succ_self _
        · exact Nat.lt_succ_of_lt (h1 n c e)
      · intro n m c h h'
        rcases List.mem_cons.mp h with e | e <;> rcases List.mem_cons.mp h' with e' | e'
        · cases e; cases e'; rfl
        · cases e; exact absurd (h1 _ _ e') (Nat.lt_irrefl _)
        · cases e'; exact absurd (h1 _ _ e) (Nat.lt_irrefl _)
        · exact h2 n m c e e'
    · rename_i hk
      rw [if_neg hk] at b
      exact cellsFrom_inj h1 h2 n m c a b
theorem lookup_some_of_mem {α : Type} : ∀ {l : List (Str × α)} {n : Str}, (∃ c, (n, c) ∈ l) → ∃ c, l.lookup n = some c
  | [], _, ⟨_, h⟩ => by cases h
  | (k, v) :: r, n, ⟨c, h⟩ => by
    rw [List.lookup_cons]
    cases hb : n == k with
    | true => exact ⟨v, rfl⟩
    | false =>
      rcases List.mem_cons.mp h with e | e
      · cases e; simp at hb
      · exact lookup_some_of_mem ⟨c, e⟩
def blkOk (scope osc : Scope) (N : List Str) (src : List (Option Nat)) (ON : List Str) : Bool :=
  (scope.kind == .function) && (osc.kind == .function) && decide (src.length = N.length) &&
  (scope.names.all fun y => (scope.names.lookup y.1 == some y.2) && (if y.2 == .free then osc.names.lookup y.1 == some .cell else true)) &&
  ((N.zip src).all fun p => match p.2 with | none => true | some j => (ON[j]? == some p.1) && (scope.names.lookup p.1 == some .free))
def blkSt (src : List (Option Nat)) (σ : St) : St := src.map fun o => match o with | none => none | some j => (σ[j]?).join
def Cx.blk (X : Cx) (scope : Scope) (N : List Str) (cs : List (Str × Addr)) (C : Addr) (s : Shared) (H : Hp) (ex : List Addr) (pn : List (Addr × Obj)) : Cx :=
  { X with N := N, s₀ := s, H₀ := H, env := compEnvC scope cs C X.env, outer := X.stack, stack := X.stack, ex := ex, fn := fun x => decide (scope.names.lookup x = some .cell), pn := pn, xe := fun _ _ => False }
end L2
set_option Elab.async false
set_option linter.all false
set_option maxRecDepth 100000
set_option maxHeartbeats 1000000
namespace L2
open PySem PySem.Spec PyProof.Rows
section
variable {X : Cx} {pins : List (Addr × Obj)} {σ : St} {H : Hp} {s : Shared} {scope : Scope} {N : List Str} {src : List (Option Nat)}
theorem blk_facts {osc : Scope} {ON : List Str} (h : blkOk scope osc N src ON = true) : scope.kind = .function ∧ osc.kind = .function ∧ src.length = N.length ∧
    (∀ y ∈ scope.names, scope.names.lookup y.1 = some y.2) ∧ (∀ y ∈ scope.names, y.2 = .free → osc.names.lookup y.1 = some .cell) ∧
    (∀ (i : Nat) (x : Str) (j : Nat), N[i]? = some x → src[i]? = some (some j) → ON[j]? = some x ∧ scope.names.lookup x = some .free) := by
  unfold blkOk at h
  simp only [Bool.and_eq_true, decide_eq_true_eq, beq_iff_eq, List.all_eq_true] at h
  obtain ⟨⟨⟨⟨h1, h2⟩, h3⟩, h4⟩, h5⟩ := h
  refine ⟨h1, h2, h3, fun y hy => (h4 y hy).1, fun y hy e => ?_, fun i x j e1 e2 => ?_⟩
  · have := (h4 y hy).2
    rw [e] at this
    simpa using this
  · have hm : (x, some j) ∈ N.zip src := by
      apply List.mem_of_getElem? (i := i)
      rw [List.getElem?_zip_eq_some]
      exact ⟨e1, e2⟩
    have := h5 _ hm
    simpa using this
theorem relabel_lookup {env : Env} (hk : env.scope.kind = .function) : ∀ {names : List (Str × NameKind)} {x : Str} {k : NameKind}, names.lookup x = some k → (k = .free → env.kindOf x = some .cell) →
    (names.map fun (n, k) => if (k == NameKind.free && env.scope.kind == .function && env.kindOf n == some .cell) then (n, NameKind.cell) else (n, k)).lookup x = some (if k = .free then .cell else k)
  | [], _, _, h, _ => by simp at h
  | (n, k') :: r, x, k, h, hf => by
    have ih := @relabel_lookup env hk r x k
    show List.lookup x ((if (k' == NameKind.free && env.scope.kind == .function && env.kindOf n == some .cell) = true then (n, NameKind.cell) else (n, k')) :: _) = _
    cases hx : x == n with
    | true =>
      simp only [List.lookup_cons, hx] at h
      have e : x = n := by simpa using hx
      subst e
      cases h
      by_cases hfr : k' = .free
      · have := hf hfr
        subst hfr
        rw [if_pos (by rw [this, hk]; rfl)]
        simp [List.lookup_cons]
      · have hfr' : (k' == NameKind.free) = false := by simpa using hfr
        rw [if_neg (by rw [hfr']; simp), if_neg hfr]
        simp [List.lookup_cons]
    | false =>
      simp only [List.lookup_cons, hx] at h
      by_cases hc : (k' == NameKind.free && env.scope.kind == .function && env.kindOf n == some .cell) = true
      · rw [if_pos hc]; simp only [List.lookup_cons, hx]; exact ih h hf
      · rw [if_neg hc]; simp only [List.lookup_cons, hx]; exact ih h hf
theorem relabel_mem {env : Env} {names : List (Str × NameKind)} {x : Str} (h : (names.map fun (n, k) => if (k == NameKind.free && env.scope.kind == .function && env.kindOf n == some .cell) then (n, NameKind.cell) else (n, k)).lookup x = some .cell) :
    (x, NameKind.cell) ∈ names ∨ (x, NameKind.free) ∈ names := by
  have hm := mem_of_lookup h
  obtain ⟨⟨n, k⟩, hy, e⟩ := List.mem_map.mp hm
  dsimp only at e
  split at e
  · rename_i hc
    cases e
    simp only [Bool.and_eq_true, beq_iff_eq] at hc
    rw [hc.1.1] at hy
    exact .inr hy
  · cases e; exact .inl hy
theorem relabel_memF {env : Env} {names : List (Str × NameKind)} {x : Str} (hk : env.scope.kind = .function) (hfr : ∀ y ∈ names, y.2 = .free → env.kindOf y.1 = some .cell)
    (h : (names.map fun (n, k) => if (k == NameKind.free && env.scope.kind == .function && env.kindOf n == some .cell) then (n, NameKind.cell) else (n, k)).lookup x = some .free) : False := by
  have hm := mem_of_lookup h
  obtain ⟨⟨n, k⟩, hy, e⟩ := List.mem_map.mp hm
  dsimp only at e
  split at e
  · cases e
  · rename_i hc
    cases e
    have := hfr _ hy rfl
    exact hc (by rw [this, hk]; rfl)
theorem blk_start {fp : List Addr} (I : Inv X pins σ H s) (hb : blkOk scope X.env.scope N src X.N = true) (f2 : ∀ b ∈ fp, FpOk X pins H b) (fo : ∀ b ∈ fp, ∃ o, s.heap.get? b = some o) {t : Nat} :
    Inv (X.blk scope N (cellsFrom (s.heap.objs.size + 1) scope.names (clOf X.env scope.names [])) s.heap.objs.size s H fp (X.pn ++ pins)) [] (blkSt src σ) H { s with heap := pushCells (s.heap.push { cls := .type "dict", data := .dict #[] }) scope.names, toks := t } := by
  obtain ⟨hk, hok, hlen, hnd, hfr, hsrc⟩ := blk_facts hb
  have keep : ∀ b o, s.heap.get? b = some o → (pushCells (s.heap.push { cls := .type "dict", data := .dict #[] }) scope.names).get? b = some o := fun b o e => pushCells_keeps _ _ b o (Heap.get?_push_of_some _ e)
  have hfr' : ∀ y ∈ scope.names, y.2 = .free → X.env.kindOf y.1 = some .cell := hfr
  have sz : (s.heap.push { cls := .type "dict", data := .dict #[] }).objs.size = s.heap.objs.size + 1 := Heap.size_push ..
  have cell : ∀ n c, (n, c) ∈ cellsFrom (s.heap.objs.size + 1) scope.names (clOf X.env scope.names []) →
      (X.env.cells.lookup n = some c ∧ (n, NameKind.free) ∈ scope.names) ∨ ((n, NameKind.cell) ∈ scope.names ∧ s.heap.objs.size < c ∧ (pushCells (s.heap.push { cls := .type "dict", data := .dict #[] }) scope.names).IsCell c none) := by
    intro n c h
    rw [← sz] at h
    rcases mem_cellsFrom h with h | ⟨h1, h2, h3⟩
    · rcases mem_clOf h with h | ⟨h1, h2⟩
      · cases h
      · obtain ⟨c', hc'⟩ := I.ok.has n (.inl (hfr' _ h1 rfl))
        rw [hc'] at h2
        exact .inl ⟨by rw [hc', h2]; rfl, h1⟩
    · exact .inr ⟨h1, by rw [sz] at h2; exact h2, h3⟩
  have oldc : ∀ n c, X.env.cells.lookup n = some c → c < s.heap.objs.size := fun n c e => by
    obtain ⟨v, o, ho, _⟩ := I.cell n c e
    exact Heap.lt_size ho
  have hH : H s.heap.objs.size = none := I.hok.fresh (Nat.le_refl _)
  have ok : (X.blk scope N (cellsFrom (s.heap.objs.size + 1) scope.names (clOf X.env scope.names [])) s.heap.objs.size s H fp (X.pn ++ pins)).Ok := {
    mod := I.ok.mod
    kind := hk
    glob := I.ok.glob
    blt := I.ok.blt
    above := Nat.le_refl _
    inj := fun x y c a b => by
      refine cellsFrom_inj (k := s.heap.objs.size + 1) (acc := clOf X.env scope.names []) ?_ ?_ x y c (mem_of_lookup a) (mem_of_lookup b)
      · intro n c h
        rcases mem_clOf h with h | ⟨h1, h2⟩
        · cases h
        · obtain ⟨c', hc'⟩ := I.ok.has n (.inl (hfr' _ h1 rfl))
          rw [hc'] at h2
          rw [h2]
          exact Nat.lt_succ_of_lt (oldc n c' hc')
      · intro n m c h h'
        rcases mem_clOf h with h | ⟨h1, h2⟩
        · cases h
        · rcases mem_clOf h' with h' | ⟨h1', h2'⟩
          · cases h'
          · obtain ⟨c1, hc1⟩ := I.ok.has n (.inl (hfr' _ h1 rfl))
            obtain ⟨c2, hc2⟩ := I.ok.has m (.inl (hfr' _ h1' rfl))
            rw [hc1] at h2
            rw [hc2] at h2'
            have e1 : c = c1 := h2
            have e2 : c = c2 := h2'
            exact I.ok.inj n m c (by rw [e1]; exact hc1) (by rw [e2]; exact hc2)
    has := fun x h => by
      have hm : (x, NameKind.cell) ∈ scope.names ∨ (x, NameKind.free) ∈ scope.names := by
        rcases h with h | h
        · exact relabel_mem (env := X.env) h
        · exact (relabel_memF (env := X.env) hok hfr' h).elim
      have : ∃ c, (x, c) ∈ cellsFrom (s.heap.objs.size + 1) scope.names (clOf X.env scope.names []) := by
        rcases hm with hm | hm
        · exact cellsFrom_mem (.inl hm)
        · exact cellsFrom_mem (.inr (clOf_mem (.inl hm)))
      exact lookup_some_of_mem this
    cab := fun x c hf e => by
      have hf' : scope.names.lookup x = some .cell := of_decide_eq_true hf
      rcases cell x c (mem_of_lookup e) with ⟨_, h⟩ | ⟨_, h, _⟩
      · have := hnd _ h
        rw [hf'] at this
        cases this
      · exact Nat.le_of_lt h
    hd := I.ok.hd
    frames := I.ok.frames
    stk := .inl rfl
    exf := fun b hb => by
      obtain ⟨o, ho⟩ := fo b hb
      have hlt := Heap.lt_size ho
      refine ⟨Nat.ne_of_lt hlt, fun x c e => ?_⟩
      rcases cell x c (mem_of_lookup e) with ⟨h, _⟩ | ⟨_, h, _⟩
      · exact (f2 b hb).2.2.2.2.1 x c h
      · exact Nat.ne_of_gt (Nat.lt_trans hlt h)
    bs := I.bs
    bsz := Nat.le_trans I.ok.bsz I.sz
    noex := fun b o e hb => by
      rcases (f2 b hb).2.2.2.1 with h | h
      · exact I.ok.noex b o e h
      · exact absurd (Nat.lt_of_lt_of_le (Heap.lt_size e) (Nat.le_trans I.ok.bsz h)) (Nat.lt_irrefl _)
    exfs := fun b hb hm => by
      rcases List.mem_cons.mp (I.stkSub b hm) with h | h
      · exact (f2 b hb).2.1 h
      · exact (f2 b hb).2.2.1 h
    funs := I.stack
    frf := I.stkFree
    tt := I.ok.tt.mono I.base.tbls }
  refine ⟨ok, rfl, I.bare, Un.kept keep, ⟨fun _ => none, (Heap.Ns.new s.heap (.type "dict")).keeps (pushCells_keeps _ _), fun i x v e1 e2 e3 => ?_⟩, fun x c e => ?_, hH, fun x c e => ?_, fun p hp => ?_, I.hok.kept keep, ?_⟩
  · -- a captured name
    have e2' : (src.map fun o => match o with | none => none | some j => (σ[j]?).join)[i]? = some (some v) := e2
    rw [List.getElem?_map] at e2'
    cases hs : src[i]? with
    | none => rw [hs] at e2'; cases e2'
    | some o =>
      rw [hs] at e2'
      cases o with
      | none => cases e2'
      | some j =>
        have ej : (σ[j]?).join = some v := by simpa using e2'
        have ej' : σ[j]? = some (some v) := by
          cases hq : σ[j]? with
          | none => rw [hq] at ej; cases ej
          | some z => rw [hq] at ej; simpa using ej
        obtain ⟨n1, n2⟩ := hsrc i x j e1 hs
        have hfree : X.env.kindOf x = some .cell := hfr' (x, .free) (mem_of_lookup n2) rfl
        obtain ⟨m, hn, hl⟩ := I.loc
        obtain ⟨u, r, l⟩ := hl j x v n1 ej' (.inr (.inl hfree))
        refine ⟨u, r, .inr ⟨.inl ?_, ?_⟩⟩
        · have := relabel_lookup (env := X.env) hok n2 (fun _ => hfree)
          exact this
        · rcases l with ⟨h, _⟩ | ⟨_, c, hc, hcell⟩
          · rw [hfree] at h; cases h
          · have : ∃ c', (x, c') ∈ cellsFrom (s.heap.objs.size + 1) scope.names (clOf X.env scope.names []) := cellsFrom_mem (.inr (clOf_mem (.inl (mem_of_lookup n2))))
            obtain ⟨c', hc'⟩ := lookup_some_of_mem this
            refine ⟨c', hc', ?_⟩
            rcases cell x c' (mem_of_lookup hc') with ⟨h, _⟩ | ⟨h, _, _⟩
            · rw [hc] at h
              cases h
              obtain ⟨oc, ho, hd⟩ := hcell
              exact ⟨oc, keep _ _ ho, hd⟩
            · have := hnd _ h
              rw [n2] at this
              cases this
  · rcases cell x c (mem_of_lookup e) with ⟨h, _⟩ | ⟨_, _, h⟩
    · obtain ⟨v, o, ho, hd⟩ := I.cell x c h
      exact ⟨v, o, keep _ _ ho, hd⟩
    · exact ⟨_, h⟩
  · rcases cell x c (mem_of_lookup e) with ⟨h, _⟩ | ⟨_, h, _⟩
    · exact I.freeC x c h
    · exact I.hok.fresh (Nat.le_of_lt h)
  · rw [List.append_nil] at hp
    obtain ⟨e, n, ne, nf, d⟩ := I.pin p hp
    refine ⟨keep _ _ e, n, Nat.ne_of_lt (Heap.lt_size e), fun hm => ?_, d⟩
    rcases List.mem_cons.mp (I.stkSub _ hm) with h | h
    · exact ne h
    · exact nf h
  · show (src.map _).length = N.length
    rw [List.length_map]
    exact hlen
theorem blk_end {fp : List Addr} {cs : List (Str × Addr)} {C : Addr} {σ' : St} {H' : Hp} {s' : Shared} {pins' : List (Addr × Obj)} (I : Inv X pins σ H s) (f2 : ∀ b ∈ fp, FpOk X pins H b)
    (I' : Inv (X.blk scope N cs C s H fp (X.pn ++ pins)) pins' σ' H' s') : Inv X pins σ H' s' :=
  I.call' (ch := fp) I'.os I'.base I'.hok I'.bare fun b hb => ⟨(f2 b hb).2.2.2.1, (f2 b hb).2.1, (f2 b hb).2.2.2.2.1, (f2 b hb).2.2.2.2.2⟩
theorem blk_gone {C : Addr} {h' : Heap} (I : Inv X pins σ H s) (hC : H C = none) (hL : C ≠ X.env.locals) (h1 : X.s₀.heap.objs.size ≤ C) (h2 : ∀ x c, X.env.cells.lookup x = some c → c ≠ C) (h3 : ∀ p ∈ X.pn ++ pins, p.1 ≠ C)
    (hs : Heap.SameBut C s.heap h') : Inv X pins σ H { s with heap := h' } :=
  I.turned (t' := s.toks) (fun b o hb e => (hs.2 b hb).trans e) hC hL (.inr h1) h2 h3
end
end L2
set_option Elab.async false
set_option linter.all false
set_option maxRecDepth 100000
set_option maxHeartbeats 1000000
namespace L2
open PySem PySem.Spec PyProof.Rows
section
variable {M : Model} {A : Around} {E : Value → Shared → Prop} {s : Shared}
theorem wp_newBlock {scope : Scope} {globals : Addr} {cl : List (Str × Addr)} {qual : Str} {env : Env} {Q : Env → Shared → Prop}
    (hQ : Q (newEnv scope s.heap.objs.size globals (cellsFrom (s.heap.objs.size + 1) scope.names cl) qual none .none (some env) builtinsNs) { s with heap := pushCells (s.heap.push { cls := .type "dict", data := .dict #[] }) scope.names }) :
    wpAny M A (newFunctionEnv scope globals cl [] qual none .none (some env)) Q E s := by
  simp only [newFunctionEnv, Option.isSome_some, if_true]
  refine wpAny_bind (wpAny_alloc ?_)
  refine wpAny_bind (wpAny_layCells _ (fun name kind cells => by cases hkc : kind == NameKind.cell <;> simp [hkc]) _ _ _ _ ?_)
  rw [show ({ s with heap := s.heap.push { cls := .type "dict", data := .dict #[] } } : Shared).heap.objs.size = s.heap.objs.size + 1 from Heap.size_push ..]
  simp only [List.forIn_nil]
  exact wpAny_bind (wpAny_pure (wpAny_pure hQ))
end
section
variable {X : Cx} {elt tg iter : Expr} {ifs : List Expr} {rest : List Comprehension} {scope : Scope} {pos : Pos} {N : List Str} {src : List (Option Nat)} {wi : TI} {g : TG} {tc : TT} {l : TL}
def tComp (src : List (Option Nat)) (wi : TI) (g : TG) (tc : TT) (l : TL) : TE := fun σ H Q => wi σ H fun J H1 => ∀ acc, H1 acc = none → lLoop J g tc l acc (blkSt src σ) (upd H1 acc (.lst [])) fun _ H' => Q (.ref acc) H'
theorem comp_run {use : Option (Value → Sem Unit)} {pins : List (Addr × Obj)} {s : Shared} {σ : St} {H : Hp} {Q : Value → Shared → Prop} {Q' : VK} (hc : X.calm = true) (hb : blkOk scope X.env.scope N src X.N = true) (ha : ∀ g', rest[0]? = some g' → g'.is_async = 0)
    (hi : PI X tg iter wi)
    (hg : ∀ cs C s H ex pn, PG (X.blk scope N cs C s H ex pn) tg g) (ht : ∀ cs C s H ex pn, PTs (X.blk scope N cs C s H ex pn) ifs tc)
    (hl : ∀ cs C s H ex pn, PL (X.blk scope N cs C s H ex pn) elt (⟨tg, iter, ifs, 0⟩ :: rest) scope pos 0 l)
    (hs : ∀ x, foldedSetIterable iter X.env x = pure x) (I : Inv X pins σ H s) (h : tComp src wi g tc l σ H Q')
    (hQ : ∀ (acc C : Addr) (H' : Hp) (s' : Shared) (m : Str → Option Value), Inv X pins σ H' s' → Q' (.ref acc) H' → s'.heap.Ns C m → H' C = none → C ≠ X.env.locals → X.s₀.heap.objs.size ≤ C → (∀ x c, X.env.cells.lookup x = some c → c ≠ C) → (∀ p ∈ X.pn ++ pins, p.1 ≠ C) →
      compPost (model X.prog X.w) X.A X.xe use Q (.ref acc) C (.ok .next) s') :
    wpAny (model X.prog X.w) X.A (comprehension (.ListComp elt (⟨tg, iter, ifs, 0⟩ :: rest) scope pos) scope X.env (firstIterPos (⟨tg, iter, ifs, 0⟩ :: rest) pos) (newList []) false (firstIter (⟨tg, iter, ifs, 0⟩ :: rest) X.env) use) Q X.xe s := by
  obtain ⟨hk, hok, hlen, hnd, hfr, hsrc⟩ := blk_facts hb
  refine wpAny_comprehension_free (g := ⟨tg, iter, ifs, 0⟩) (gs := rest) rfl hs (closure_eq fun y hy e => I.ok.has y.1 (.inl (hfr y hy e))) hk (fun y hy e => by have := hnd y hy; rw [e] at this; exact this) ?_
  refine thn (hi pins s σ H _ I h) fun v s1 h1 => thn h1 fun itv s2 h2 => ?_
  obtain ⟨it, fp, tn, J, H2, e, I2, T, st2, f2, q⟩ := h2
  subst e
  have hfresh : H2 s2.heap.objs.size = none := I2.hok.fresh (Nat.le_refl _)
  refine wpAny_newObj_type (wp_newBlock ?_)
  dsimp only
  have old : ∀ b o, s2.heap.get? b = some o → (s2.heap.push { cls := .type "list", dict := none, data := .seq ([] : List Value).toArray }).get? b = some o := fun b o e => Heap.get?_push_of_some _ e
  have I3 : Inv X pins σ (upd H2 s2.heap.objs.size (.lst [])) { s2 with heap := s2.heap.push { cls := .type "list", dict := none, data := .seq ([] : List Value).toArray } } :=
    I2.lnew (its := []) (t' := s2.toks) .nil (by decide)
  have f3 : ∀ b ∈ fp, FpOk X pins (upd H2 s2.heap.objs.size (.lst [])) b := fun b hb => by
    obtain ⟨o, ho, _⟩ := T.obj _ _ st2 b hb
    exact ⟨by rw [upd_ne (Nat.ne_of_lt (Heap.lt_size ho))]; exact (f2 b hb).1, (f2 b hb).2⟩
  have fo3 : ∀ b ∈ fp, ∃ o, ({ s2 with heap := s2.heap.push { cls := .type "list", dict := none, data := .seq ([] : List Value).toArray } } : Shared).heap.get? b = some o := fun b hb => by
    obtain ⟨o, ho, _⟩ := T.obj _ _ st2 b hb
    exact ⟨o, old b o ho⟩
  generalize hs3 : ({ s2 with heap := s2.heap.push { cls := .type "list", dict := none, data := .seq ([] : List Value).toArray } } : Shared) = s3 at I3 fo3 ⊢
  have st3 : tn 0 s3.heap := by
    rw [← hs3]
    exact T.keep _ _ _ st2 fun b _ o e => old b o e
  have IB := blk_start (t := s3.toks) I3 hb f3 fo3
  have stB : tn 0 (pushCells (s3.heap.push { cls := .type "dict", data := .dict #[] }) scope.names) := T.keep _ _ _ st3 fun b _ o e => pushCells_keeps _ _ b o (Heap.get?_push_of_some _ e)
  have fB : ∀ b ∈ fp, FpOk (X.blk scope N (cellsFrom (s3.heap.objs.size + 1) scope.names (clOf X.env scope.names [])) s3.heap.objs.size s3 (upd H2 s2.heap.objs.size (.lst [])) fp (X.pn ++ pins)) [] (upd H2 s2.heap.objs.size (.lst [])) b := fun b hb => by
    obtain ⟨n0, n1, n2, n3, n4, n5⟩ := f3 b hb
    refine ⟨n0, (IB.ok.exf b hb).1, IB.ok.exfs b hb, .inl hb, (IB.ok.exf b hb).2, fun p hp => ?_⟩
    rw [List.append_nil] at hp
    exact n5 p hp
  have loop : codeAny (model X.prog X.w) X.A (.compLoop (.ListComp elt (⟨tg, iter, ifs, 0⟩ :: rest) scope pos) 0 (.ref it) (.ref s2.heap.objs.size) (compEnvC scope (cellsFrom (s3.heap.objs.size + 1) scope.names (clOf X.env scope.names [])) s3.heap.objs.size X.env))
      (compPost (model X.prog X.w) X.A X.xe use Q (.ref s2.heap.objs.size) s3.heap.objs.size) { s3 with heap := pushCells (s3.heap.push { cls := .type "dict", data := .dict #[] }) scope.names } := by
    refine comp_loop (X := X.blk scope N (cellsFrom (s3.heap.objs.size + 1) scope.names (clOf X.env scope.names [])) s3.heap.objs.size s3 (upd H2 s2.heap.objs.size (.lst [])) fp (X.pn ++ pins)) rfl hc rfl (by simpa using ha) (hg _ _ _ _ _ _) (ht _ _ _ _ _ _) (hl _ _ _ _ _ _) IB T stB fB (q _ hfresh) fun σ' H' s' I' k' => ?_
    obtain ⟨m, hn, _⟩ := I'.loc
    refine hQ _ _ H' s' m (blk_end I3 f3 I') k' hn I'.free ?_ I3.sz ?_ ?_
    · exact Nat.ne_of_gt I3.lt
    · intro x c e
      obtain ⟨v, o, ho, _⟩ := I3.cell x c e
      exact Nat.ne_of_lt (Heap.lt_size ho)
    · intro p hp
      exact Nat.ne_of_lt (Heap.lt_size (I3.pin p hp).1)
  subst hs3
  exact compStart_gen (d := 0) rfl loop (T.self X.A 0 _ _ _ stB loop)
theorem pe_comp (hc : X.calm = true) (hb : blkOk scope X.env.scope N src X.N = true) (ha : ∀ g', rest[0]? = some g' → g'.is_async = 0)
    (hi : PI X tg iter wi)
    (hg : ∀ cs C s H ex pn, PG (X.blk scope N cs C s H ex pn) tg g) (ht : ∀ cs C s H ex pn, PTs (X.blk scope N cs C s H ex pn) ifs tc)
    (hl : ∀ cs C s H ex pn, PL (X.blk scope N cs C s H ex pn) elt (⟨tg, iter, ifs, 0⟩ :: rest) scope pos 0 l)
    (hs : ∀ x, foldedSetIterable iter X.env x = pure x := by intro _; rfl) : PE X (.ListComp elt (⟨tg, iter, ifs, 0⟩ :: rest) scope pos) (tComp src wi g tc l) := .mk <| by
  intro pins s σ H Q I h
  rw [eval_ListComp]
  refine comp_run (use := none) hc hb ha hi hg ht hl hs I h fun acc C H' s' m I' q' hn hC hL h1 h2 h3 => ?_
  exact ⟨m, hn, fun h' hs' => ⟨.ref acc, H', blk_gone I' hC hL h1 h2 h3 hs', rfl, q'⟩⟩
theorem ps_setC {i : Nat} {x : Str} {pos' spos : Pos} (hN : X.N.Nodup) (hi0 : X.N[i]? = some x) (hx : Loc X.env.scope x) (hc : X.calm = true) (hb : blkOk scope X.env.scope N src X.N = true) (ha : ∀ g', rest[0]? = some g' → g'.is_async = 0)
    (hi : PI X tg iter wi)
    (hg : ∀ cs C s H ex pn, PG (X.blk scope N cs C s H ex pn) tg g) (ht : ∀ cs C s H ex pn, PTs (X.blk scope N cs C s H ex pn) ifs tc)
    (hl : ∀ cs C s H ex pn, PL (X.blk scope N cs C s H ex pn) elt (⟨tg, iter, ifs, 0⟩ :: rest) scope pos 0 l)
    (hs : ∀ x, foldedSetIterable iter X.env x = pure x := by intro _; rfl)
    (hsw : swapsWith (.ListComp elt (⟨tg, iter, ifs, 0⟩ :: rest) scope pos) (some (.Name x pos')) spos.line X.env = pure true := by rfl)
    (hf : X.fn x = true ∨ X.env.scope.names.lookup x = some .local := by first | exact .inl rfl | exact .inr rfl | assumption) :
    PS X (.Assign [.Name x pos'] (.ListComp elt (⟨tg, iter, ifs, 0⟩ :: rest) scope pos) spos) (tAsg (tComp src wi g tc l) (gName i)) := .mk <| by
  intro pins s σ H D I h
  rw [exec_Assign_Name_used _ _ _ _ hsw]
  refine wpAny_bind (wpAny_standAt (wpAny_bind ?_))
  show wpAny _ X.A (do let _ ← comprehension (.ListComp elt (⟨tg, iter, ifs, 0⟩ :: rest) scope pos) scope X.env (firstIterPos (⟨tg, iter, ifs, 0⟩ :: rest) pos) (newList []) false (firstIter (⟨tg, iter, ifs, 0⟩ :: rest) X.env) (some (assign (.Name x pos') X.env))) _ _ s
  refine wpAny_bind (wpAny_mono (comp_run (use := some (assign (.Name x pos') X.env)) (Q := fun _ s' => SP X pins D .next s') hc hb ha hi hg ht hl hs I h fun acc C H' s' m I' q' hn hC hL h1 h2 h3 => ?_) (fun _ s' hq => wpAny_pure (wpAny_pure hq)) fun _ _ e => e)
  show wpAny _ X.A (assign (.Name x pos') X.env (.ref acc)) _ _ _
  refine wpAny_assign_Name (store_ok2 (v := .ref acc) I' hN hi0 hx rfl (fun s'' I'' ⟨a, hsb, hwh⟩ => ?_) hf)
  have hne : C ≠ a := by
    rcases hwh with e | e
    · rw [e]; exact hL
    · exact fun z => h2 x a e z.symm
  exact ⟨m, hn.sameBut hsb hne, fun h' hs' => ⟨σ.set i (some (.ref acc)), H', blk_gone I'' hC hL h1 h2 h3 hs', q'⟩⟩
end
end L2
set_option Elab.async false
set_option linter.all false
set_option maxRecDepth 100000
set_option maxHeartbeats 1000000
namespace L2
open PySem PySem.Spec PyProof.Rows
section
variable {X : Cx}
def kinds : List String := ["NoneType", "bool", "int", "str", "list", "tuple", "dict"]
end
end L2
set_option Elab.async false
set_option linter.all false
set_option autoImplicit false
set_option maxRecDepth 100000
set_option maxHeartbeats 1000000
namespace L2
open PySem PySem.Spec PyProof.Rows
inductive D where
  | non | bl (b : Bool) | int (i : Int) | str (x : Str) | tup (ds : List D) | lst (ds : List D)
mutual
def Dat (H : Hp) : D → V → Prop
  | .non, v => v = .non
  | .bl b, v => v = .bl b
  | .int i, v => v = .int i
  | .str x, v => v = .str x
  | .tup ds, v => ∃ a xs, v = .ref a ∧ H a = some (.tup xs) ∧ Dats H ds xs
  | .lst ds, v => ∃ a xs, v = .ref a ∧ H a = some (.lst xs) ∧ Dats H ds xs
def Dats (H : Hp) : List D → List V → Prop
  | [], xs => xs = []
  | d :: ds, xs => ∃ x r, xs = x :: r ∧ Dat H d x ∧ Dats H ds r
end
mutual
def dep : D → Nat
  | .tup ds => deps ds + 1
  | .lst ds => deps ds + 1
  | _ => 0
def deps : List D → Nat
  | [] => 0
  | d :: ds => max (dep d) (deps ds)
end
mutual
def eqD : D → D → Bool
  | .non, .non => true
  | .bl a, .bl b => a == b
  | .bl a, .int b => (if a then 1 else 0) == b
  | .int a, .bl b => a == (if b then 1 else 0)
  | .int a, .int b => a == b
  | .str a, .str b => a == b
  | .tup a, .tup b => eqDs a b
  | .lst a, .lst b => eqDs a b
  | _, _ => false
def eqDs : List D → List D → Bool
  | [], [] => true
  | x :: xs, y :: ys => eqD x y && eqDs xs ys
  | _, _ => false
end
theorem deps_mem : ∀ {ds : List D} {d : D}, d ∈ ds → dep d ≤ deps ds
  | d :: ds, e, h => by
    unfold deps
    rcases List.mem_cons.mp h with rfl | h
    · exact Nat.le_max_left _ _
    · exact Nat.le_trans (deps_mem h) (Nat.le_max_right _ _)
theorem Dats.length : ∀ {H : Hp} {ds : List D} {xs : List V}, Dats H ds xs → xs.length = ds.length
  | H, [], xs, h => by
    have e : xs = [] := by simpa [Dats] using h
    rw [e]; rfl
  | H, d :: ds, xs, h => by
    obtain ⟨x, r, rfl, _, t⟩ : ∃ x r, xs = x :: r ∧ Dat H d x ∧ Dats H ds r := by simpa only [Dats] using h
    rw [List.length_cons, List.length_cons, Dats.length t]
theorem Dats.get : ∀ {H : Hp} {ds : List D} {xs : List V} {i : Nat} {d : D}, Dats H ds xs → ds[i]? = some d → ∃ x, xs[i]? = some x ∧ Dat H d x
  | H, [], xs, i, d, h, e => by simp at e
  | H, d' :: ds, xs, i, d, h, e => by
    obtain ⟨x, r, rfl, hx, t⟩ : ∃ x r, xs = x :: r ∧ Dat H d' x ∧ Dats H ds r := by simpa only [Dats] using h
    cases i with
    | zero => simp at e; subst e; exact ⟨x, rfl, hx⟩
    | succ i => simpa using Dats.get t (i := i) (by simpa using e)
theorem Dats.of_get : ∀ {H : Hp} {ds : List D} {xs : List V}, xs.length = ds.length → (∀ (i : Nat) (d : D) (x : V), ds[i]? = some d → xs[i]? = some x → Dat H d x) → Dats H ds xs
  | H, [], [], _, _ => by simp [Dats]
  | H, d :: ds, x :: xs, hl, h => by
    simp only [Dats]
    exact ⟨x, xs, rfl, h 0 d x rfl rfl, Dats.of_get (by simpa using hl) fun i d x e1 e2 => h (i + 1) d x (by simpa using e1) (by simpa using e2)⟩
  | H, [], _ :: _, hl, _ => by simp at hl
  | H, _ :: _, [], hl, _ => by simp at hl
theorem Dats.append : ∀ {H : Hp} {ds es : List D} {xs ys : List V}, Dats H ds xs → Dats H es ys → Dats H (ds ++ es) (xs ++ ys)
  | H, [], es, xs, ys, h, h' => by
    have e : xs = [] := by simpa [Dats] using h
    rw [e]; exact h'
  | H, d :: ds, es, xs, ys, h, h' => by
    obtain ⟨x, r, rfl, hx, t⟩ : ∃ x r, xs = x :: r ∧ Dat H d x ∧ Dats H ds r := by simpa only [Dats] using h
    show Dats H (d :: (ds ++ es)) (x :: (r ++ ys))
    simp only [Dats]
    exact ⟨x, r ++ ys, rfl, hx, Dats.append t h'⟩
theorem Dats.one {H : Hp} {d : D} {x : V} (h : Dat H d x) : Dats H [d] [x] := by
  simp only [Dats]
  exact ⟨x, [], rfl, h, rfl⟩
mutual
theorem Dat.same {H H' : Hp} (e : Same H H') : ∀ {d : D} {v : V}, Dat H d v → Dat H' d v
  | .non, v, h => by simpa only [Dat] using h
  | .bl b, v, h => by simpa only [Dat] using h
  | .int i, v, h => by simpa only [Dat] using h
  | .str x, v, h => by simpa only [Dat] using h
  | .tup ds, v, h => by
    simp only [Dat] at h ⊢
    obtain ⟨a, xs, rfl, h1, h2⟩ := h
    exact ⟨a, xs, rfl, e a _ h1, Dats.same e h2⟩
  | .lst ds, v, h => by
    simp only [Dat] at h ⊢
    obtain ⟨a, xs, rfl, h1, h2⟩ := h
    exact ⟨a, xs, rfl, e a _ h1, Dats.same e h2⟩
theorem Dats.same {H H' : Hp} (e : Same H H') : ∀ {ds : List D} {xs : List V}, Dats H ds xs → Dats H' ds xs
  | [], xs, h => by simpa only [Dats] using h
  | d :: ds, xs, h => by
    simp only [Dats] at h ⊢
    obtain ⟨x, r, rfl, h1, h2⟩ := h
    exact ⟨x, r, rfl, Dat.same e h1, Dats.same e h2⟩
end
mutual
theorem Dat.inj {H : Hp} : ∀ {d e : D} {v : V}, Dat H d v → Dat H e v → d = e
  | .non, e, v, h, h' => by
    simp only [Dat] at h; subst h
    cases e <;> simp only [Dat] at h' <;> first | rfl | (obtain ⟨_, _, h', _⟩ := h'; cases h'; done) | (cases h'; done)
  | .bl b, e, v, h, h' => by
    simp only [Dat] at h; subst h
    cases e <;> simp only [Dat] at h' <;> first | (obtain ⟨_, _, h', _⟩ := h'; cases h'; done) | (cases h'; rfl) | (cases h'; done)
  | .int i, e, v, h, h' => by
    simp only [Dat] at h; subst h
    cases e <;> simp only [Dat] at h' <;> first | (obtain ⟨_, _, h', _⟩ := h'; cases h'; done) | (cases h'; rfl) | (cases h'; done)
  | .str x, e, v, h, h' => by
    simp only [Dat] at h; subst h
    cases e <;> simp only [Dat] at h' <;> first | (obtain ⟨_, _, h', _⟩ := h'; cases h'; done) | (cases h'; rfl) | (cases h'; done)
  | .tup ds, e, v, h, h' => by
    simp only [Dat] at h
    obtain ⟨a, xs, rfl, h1, h2⟩ := h
    cases e with
    | tup es =>
      simp only [Dat] at h'
      obtain ⟨b, ys, e1, h3, h4⟩ := h'
      cases e1
      rw [h1] at h3; cases h3
      rw [Dats.inj h2 h4]
    | lst es =>
      simp only [Dat] at h'
      obtain ⟨b, ys, e1, h3, h4⟩ := h'
      cases e1
      rw [h1] at h3; cases h3
    | _ => simp only [Dat] at h'; cases h'
  | .lst ds, e, v, h, h' => by
    simp only [Dat] at h
    obtain ⟨a, xs, rfl, h1, h2⟩ := h
    cases e with
    | lst es =>
      simp only [Dat] at h'
      obtain ⟨b, ys, e1, h3, h4⟩ := h'
      cases e1
      rw [h1] at h3; cases h3
      rw [Dats.inj h2 h4]
    | tup es =>
      simp only [Dat] at h'
      obtain ⟨b, ys, e1, h3, h4⟩ := h'
      cases e1
      rw [h1] at h3; cases h3
    | _ => simp only [Dat] at h'; cases h'
theorem Dats.inj {H : Hp} : ∀ {ds es : List D} {xs : List V}, Dats H ds xs → Dats H es xs → ds = es
  | [], [], _, _, _ => rfl
  | [], e :: es, xs, h, h' => by
    simp only [Dats] at h h'
    obtain ⟨x, r, rfl, _⟩ := h'
    cases h
  | d :: ds, [], xs, h, h' => by
    simp only [Dats] at h h'
    obtain ⟨x, r, rfl, _⟩ := h
    cases h'
  | d :: ds, e :: es, xs, h, h' => by
    simp only [Dats] at h h'
    obtain ⟨x, r, rfl, h1, h2⟩ := h
    obtain ⟨x', r', e1, h3, h4⟩ := h'
    cases e1
    rw [Dat.inj h1 h3, Dats.inj h2 h4]
end
mutual
theorem eqD_refl : ∀ d : D, eqD d d = true
  | .non => by simp [eqD]
  | .bl b => by simp [eqD]
  | .int i => by simp [eqD]
  | .str x => by simp [eqD]
  | .tup ds => by simp only [eqD]; exact eqDs_refl ds
  | .lst ds => by simp only [eqD]; exact eqDs_refl ds
theorem eqDs_refl : ∀ ds : List D, eqDs ds ds = true
  | [] => by simp [eqDs]
  | d :: ds => by simp only [eqDs, eqD_refl d, eqDs_refl ds, Bool.and_self]
end
theorem eqDs_len : ∀ {ds es : List D}, ds.length ≠ es.length → eqDs ds es = false
  | [], [], h => absurd rfl h
  | [], _ :: _, _ => by simp [eqDs]
  | _ :: _, [], _ => by simp [eqDs]
  | d :: ds, e :: es, h => by
    simp only [eqDs, eqDs_len (ds := ds) (es := es) (by simpa using h), Bool.and_false]
theorem eqDs_range : ∀ {ds es : List D}, ds.length = es.length → (List.range ds.length).all (fun j => eqD (ds.getD j .non) (es.getD j .non)) = eqDs ds es
  | [], [], _ => by simp [eqDs]
  | [], _ :: _, h => by simp at h
  | _ :: _, [], h => by simp at h
  | d :: ds, e :: es, h => by
    have ih := eqDs_range (ds := ds) (es := es) (by simpa using h)
    rw [List.length_cons, List.range_succ_eq_map, List.all_cons, List.all_map]
    simp only [eqDs, ← ih]
    rfl
end L2
set_option Elab.async false
set_option linter.all false
set_option autoImplicit false
set_option maxRecDepth 100000
set_option maxHeartbeats 1000000
namespace L2
open PySem PySem.Spec PyProof.Rows
section
variable {X : Cx} {pins : List (Addr × Obj)} {σ : St} {H : Hp} {s : Shared}
theorem vals_at : ∀ {xs : List V} {us : List Value} {j : Nat} {x : V}, Vals xs us → xs[j]? = some x → ∀ (h : j < us.toArray.size), RelV x us.toArray[j] := fun {xs us j x} r e h => by
  obtain ⟨u, h1, h2⟩ := r.get e
  have : us[j]? = some us.toArray[j] := by
    rw [List.getElem?_eq_getElem (by simpa using h)]
    simp
  rw [h1] at this
  cases this
  exact h2
theorem tup_at (I : Inv X pins σ H s) {a : Addr} {xs : List V} (h : H a = some (.tup xs)) : ∃ its : List Value, Vals xs its ∧ s.heap.IsTuple a its.toArray := by
  obtain ⟨its, r, p, _⟩ := I.tuple (SqT.of (K := X.K) h)
  exact ⟨its, r, p⟩
theorem lst_at (I : Inv X pins σ H s) {a : Addr} {xs : List V} (h : H a = some (.lst xs)) : ∃ its : List Value, Vals xs its ∧ s.heap.IsList a its.toArray := by
  obtain ⟨its, r, p, _⟩ := I.list (SqL.of (K := X.K) h)
  exact ⟨its, r, p.isList⟩
theorem eqDs_min {ds es : List D} : ((List.range (min ds.length es.length)).all (fun j => eqD (ds.getD j .non) (es.getD j .non)) && ds.length == es.length) = eqDs ds es := by
  by_cases h : ds.length = es.length
  · rw [← eqDs_range h]
    have : min ds.length es.length = ds.length := by omega
    rw [this]
    simp [h]
  · rw [eqDs_len h]
    have : (ds.length == es.length) = false := by simpa using h
    rw [this, Bool.and_false]
theorem eqAt_D (I : Inv X pins σ H s) (n : Nat) : ∀ (d e : D) (x y : V) (v u : Value) (A : Around), dep d ≤ n → A.units + n < cLine → Dat H d x → Dat H e y → RelV x v → RelV y u →
    SeqAt.RcAt A s v u (eqD d e) ∧ SeqAt.EqAt A s v u (eqD d e) ∧ SeqAt.RcNeAt A s v u (!eqD d e) := by
  induction n with
  | zero =>
    intro d e x y v u A hd hu hx hy rx ry
    have hu' : A.units < cLine := by omega
    cases d with
    | tup ds => simp only [dep] at hd; omega
    | lst ds => simp only [dep] at hd; omega
    | non =>
      simp only [Dat] at hx; subst hx; cases rx
      cases e with
      | non => simp only [Dat] at hy; subst hy; cases ry; exact ⟨SeqAt.RcAt.none_none, SeqAt.EqAt.same _, SeqAt.RcNeAt.none_none⟩
      | bl b => simp only [Dat] at hy; subst hy; cases ry; exact ⟨SeqAt.RcAt.none_bool b, SeqAt.EqAt.none_bool b, SeqAt.RcNeAt.none_bool b⟩
      | int b => simp only [Dat] at hy; subst hy; obtain ⟨t, rfl⟩ := ry; exact ⟨SeqAt.RcAt.none_int b t, SeqAt.EqAt.none_int b t, SeqAt.RcNeAt.none_int b t⟩
      | str b => simp only [Dat] at hy; subst hy; obtain ⟨t, rfl⟩ := ry; exact ⟨SeqAt.RcAt.none_str b t, SeqAt.EqAt.none_str b t, SeqAt.RcNeAt.none_str b t⟩
      | tup es =>
        simp only [Dat] at hy; obtain ⟨b, ys, rfl, hb, _⟩ := hy; cases ry
        obtain ⟨its, _, p⟩ := tup_at I hb
        exact ⟨SeqAt.RcAt.none_tuple p hu', SeqAt.EqAt.none_tuple p hu', SeqAt.RcNeAt.none_tuple p hu'⟩
      | lst es =>
        simp only [Dat] at hy; obtain ⟨b, ys, rfl, hb, _⟩ := hy; cases ry
        obtain ⟨its, _, p⟩ := lst_at I hb
        exact ⟨SeqAt.RcAt.none_list p hu', SeqAt.EqAt.none_list p hu', SeqAt.RcNeAt.none_list p hu'⟩
    | bl a =>
      simp only [Dat] at hx; subst hx; cases rx
      cases e with
      | non => simp only [Dat] at hy; subst hy; cases ry; exact ⟨SeqAt.RcAt.bool_none a, SeqAt.EqAt.bool_none a, SeqAt.RcNeAt.bool_none a⟩
      | bl b => simp only [Dat] at hy; subst hy; cases ry; exact ⟨SeqAt.RcAt.bool_bool a b, SeqAt.EqAt.bool_bool a b, SeqAt.RcNeAt.bool_bool a b⟩
      | int b => simp only [Dat] at hy; subst hy; obtain ⟨t, rfl⟩ := ry; exact ⟨SeqAt.RcAt.bool_int a b t, SeqAt.EqAt.bool_int a b t, SeqAt.RcNeAt.bool_int a b t⟩
      | str b => simp only [Dat] at hy; subst hy; obtain ⟨t, rfl⟩ := ry; exact ⟨SeqAt.RcAt.bool_str a b t, SeqAt.EqAt.bool_str a b t, SeqAt.RcNeAt.bool_str a b t⟩
      | tup es =>
        simp only [Dat] at hy; obtain ⟨b, ys, rfl, hb, _⟩ := hy; cases ry
        obtain ⟨its, _, p⟩ := tup_at I hb
        exact ⟨SeqAt.RcAt.bool_tuple a p hu', SeqAt.EqAt.bool_tuple a p hu', SeqAt.RcNeAt.bool_tuple a p hu'⟩
      | lst es =>
        simp only [Dat] at hy; obtain ⟨b, ys, rfl, hb, _⟩ := hy; cases ry
        obtain ⟨its, _, p⟩ := lst_at I hb
        exact ⟨SeqAt.RcAt.bool_list a p hu', SeqAt.EqAt.bool_list a p hu', SeqAt.RcNeAt.bool_list a p hu'⟩
    | int a =>
      simp only [Dat] at hx; subst hx; obtain ⟨t', rfl⟩ := rx
      cases e with
      | non => simp only [Dat] at hy; subst hy; cases ry; exact ⟨SeqAt.RcAt.int_none a t', SeqAt.EqAt.int_none a t', SeqAt.RcNeAt.int_none a t'⟩
      | bl b => simp only [Dat] at hy; subst hy; cases ry; exact ⟨SeqAt.RcAt.int_bool a t' b, SeqAt.EqAt.int_bool a t' b, SeqAt.RcNeAt.int_bool a t' b⟩
      | int b => simp only [Dat] at hy; subst hy; obtain ⟨t, rfl⟩ := ry; exact ⟨SeqAt.RcAt.int_int a t' b t, SeqAt.EqAt.int_int a t' b t, SeqAt.RcNeAt.int_int a t' b t⟩
      | str b => simp only [Dat] at hy; subst hy; obtain ⟨t, rfl⟩ := ry; exact ⟨SeqAt.RcAt.int_str a t' b t, SeqAt.EqAt.int_str a t' b t, SeqAt.RcNeAt.int_str a t' b t⟩
      | tup es =>
        simp only [Dat] at hy; obtain ⟨b, ys, rfl, hb, _⟩ := hy; cases ry
        obtain ⟨its, _, p⟩ := tup_at I hb
        exact ⟨SeqAt.RcAt.int_tuple a t' p hu', SeqAt.EqAt.int_tuple a t' p hu', SeqAt.RcNeAt.int_tuple a t' p hu'⟩
      | lst es =>
        simp only [Dat] at hy; obtain ⟨b, ys, rfl, hb, _⟩ := hy; cases ry
        obtain ⟨its, _, p⟩ := lst_at I hb
        exact ⟨SeqAt.RcAt.int_list a t' p hu', SeqAt.EqAt.int_list a t' p hu', SeqAt.RcNeAt.int_list a t' p hu'⟩
    | str a =>
      simp only [Dat] at hx; subst hx; obtain ⟨t', rfl⟩ := rx
      cases e with
      | non => simp only [Dat] at hy; subst hy; cases ry; exact ⟨SeqAt.RcAt.str_none a t', SeqAt.EqAt.str_none a t', SeqAt.RcNeAt.str_none a t'⟩
      | bl b => simp only [Dat] at hy; subst hy; cases ry; exact ⟨SeqAt.RcAt.str_bool a t' b, SeqAt.EqAt.str_bool a t' b, SeqAt.RcNeAt.str_bool a t' b⟩
      | int b => simp only [Dat] at hy; subst hy; obtain ⟨t, rfl⟩ := ry; exact ⟨SeqAt.RcAt.str_int a t' b t, SeqAt.EqAt.str_int a t' b t, SeqAt.RcNeAt.str_int a t' b t⟩
      | str b => simp only [Dat] at hy; subst hy; obtain ⟨t, rfl⟩ := ry; exact ⟨SeqAt.RcAt.str_str a t' b t, SeqAt.EqAt.str_str a t' b t, SeqAt.RcNeAt.str_str a t' b t⟩
      | tup es =>
        simp only [Dat] at hy; obtain ⟨b, ys, rfl, hb, _⟩ := hy; cases ry
        obtain ⟨its, _, p⟩ := tup_at I hb
        exact ⟨SeqAt.RcAt.str_tuple a t' p hu', SeqAt.EqAt.str_tuple a t' p hu', SeqAt.RcNeAt.str_tuple a t' p hu'⟩
      | lst es =>
        simp only [Dat] at hy; obtain ⟨b, ys, rfl, hb, _⟩ := hy; cases ry
        obtain ⟨its, _, p⟩ := lst_at I hb
        exact ⟨SeqAt.RcAt.str_list a t' p hu', SeqAt.EqAt.str_list a t' p hu', SeqAt.RcNeAt.str_list a t' p hu'⟩
  | succ n ih =>
    intro d e x y v u A hd hu hx hy rx ry
    have hu' : A.units < cLine := by omega
    by_cases h0 : dep d ≤ n
    · exact ih d e x y v u A h0 (by omega) hx hy rx ry
    have hin : A.in1.units + n < cLine := by show A.units + 1 + n < cLine; omega
    have items : ∀ (ds es : List D) (xs ys : List V) (its its2 : List Value), deps ds ≤ n → Dats H ds xs → Dats H es ys → Vals xs its → Vals ys its2 →
        ∀ j (h1 : j < its.toArray.size) (h2 : j < its2.toArray.size), SeqAt.EqAt A.in1 s its.toArray[j] its2.toArray[j] (eqD (ds.getD j .non) (es.getD j .non)) := by
      intro ds es xs ys its its2 hdp hxs hys r1 r2 j h1 h2
      have l1 : j < ds.length := by rw [← hxs.length, r1.length]; simpa using h1
      have l2 : j < es.length := by rw [← hys.length, r2.length]; simpa using h2
      obtain ⟨x', ex, hx'⟩ := hxs.get (List.getElem?_eq_getElem l1)
      obtain ⟨y', ey, hy'⟩ := hys.get (List.getElem?_eq_getElem l2)
      have g1 : ds.getD j .non = ds[j] := by rw [List.getD_eq_getElem?_getD, List.getElem?_eq_getElem l1]; rfl
      have g2 : es.getD j .non = es[j] := by rw [List.getD_eq_getElem?_getD, List.getElem?_eq_getElem l2]; rfl
      rw [g1, g2]
      exact (ih ds[j] es[j] x' y' _ _ A.in1 (Nat.le_trans (deps_mem (List.getElem_mem l1)) hdp) hin hx' hy' (vals_at r1 ex h1) (vals_at r2 ey h2)).2.1
    cases d with
    | non => simp only [dep] at h0; omega
    | bl a => simp only [dep] at h0; omega
    | int a => simp only [dep] at h0; omega
    | str a => simp only [dep] at h0; omega
    | tup ds =>
      simp only [dep] at hd
      have hx0 := hx
      simp only [Dat] at hx; obtain ⟨a, xs, rfl, ha, hxs⟩ := hx; cases rx
      obtain ⟨its, r1, p⟩ := tup_at I ha
      cases e with
      | non => simp only [Dat] at hy; subst hy; cases ry; exact ⟨SeqAt.RcAt.tuple_none p hu', SeqAt.EqAt.tuple_none p hu', SeqAt.RcNeAt.tuple_none p hu'⟩
      | bl b => simp only [Dat] at hy; subst hy; cases ry; exact ⟨SeqAt.RcAt.tuple_bool b p hu', SeqAt.EqAt.tuple_bool b p hu', SeqAt.RcNeAt.tuple_bool b p hu'⟩
      | int b => simp only [Dat] at hy; subst hy; obtain ⟨t, rfl⟩ := ry; exact ⟨SeqAt.RcAt.tuple_int b t p hu', SeqAt.EqAt.tuple_int b t p hu', SeqAt.RcNeAt.tuple_int b t p hu'⟩
      | str b => simp only [Dat] at hy; subst hy; obtain ⟨t, rfl⟩ := ry; exact ⟨SeqAt.RcAt.tuple_str b t p hu', SeqAt.EqAt.tuple_str b t p hu', SeqAt.RcNeAt.tuple_str b t p hu'⟩
      | lst es =>
        simp only [Dat] at hy; obtain ⟨b, ys, rfl, hb, _⟩ := hy; cases ry
        obtain ⟨its2, _, p2⟩ := lst_at I hb
        exact ⟨SeqAt.RcAt.tuple_list p p2 hu', SeqAt.EqAt.tuple_list p p2 hu', SeqAt.RcNeAt.tuple_list p p2 hu'⟩
      | tup es =>
        have hy0 := hy
        simp only [Dat] at hy; obtain ⟨b, ys, rfl, hb, hys⟩ := hy; cases ry
        obtain ⟨its2, r2, p2⟩ := tup_at I hb
        have it := items ds es xs ys its its2 (by omega) hxs hys r1 r2
        have z1 : its.toArray.size = ds.length := by rw [← hxs.length, r1.length]; simp
        have z2 : its2.toArray.size = es.length := by rw [← hys.length, r2.length]; simp
        have e0 := eqDs_min (ds := ds) (es := es)
        have rc : SeqAt.RcAt A s (.ref a) (.ref b) (eqDs ds es) := by
          have := SeqAt.RcAt.tuples p p2 hu' it
          rw [z1, z2, e0] at this
          exact this
        have rn : SeqAt.RcNeAt A s (.ref a) (.ref b) (!eqDs ds es) := by
          have := SeqAt.RcNeAt.tuples p p2 hu' it
          rw [z1, z2, e0] at this
          exact this
        simp only [eqD]
        refine ⟨rc, ?_, rn⟩
        by_cases hab : a = b
        · subst hab
          have : D.tup ds = D.tup es := hx0.inj hy0
          cases this
          rw [eqDs_refl]
          exact SeqAt.EqAt.same _
        · exact .of_refs hab rc
    | lst ds =>
      simp only [dep] at hd
      have hx0 := hx
      simp only [Dat] at hx; obtain ⟨a, xs, rfl, ha, hxs⟩ := hx; cases rx
      obtain ⟨its, r1, p⟩ := lst_at I ha
      cases e with
      | non => simp only [Dat] at hy; subst hy; cases ry; exact ⟨SeqAt.RcAt.list_none p hu', SeqAt.EqAt.list_none p hu', SeqAt.RcNeAt.list_none p hu'⟩
      | bl b => simp only [Dat] at hy; subst hy; cases ry; exact ⟨SeqAt.RcAt.list_bool b p hu', SeqAt.EqAt.list_bool b p hu', SeqAt.RcNeAt.list_bool b p hu'⟩
      | int b => simp only [Dat] at hy; subst hy; obtain ⟨t, rfl⟩ := ry; exact ⟨SeqAt.RcAt.list_int b t p hu', SeqAt.EqAt.list_int b t p hu', SeqAt.RcNeAt.list_int b t p hu'⟩
      | str b => simp only [Dat] at hy; subst hy; obtain ⟨t, rfl⟩ := ry; exact ⟨SeqAt.RcAt.list_str b t p hu', SeqAt.EqAt.list_str b t p hu', SeqAt.RcNeAt.list_str b t p hu'⟩
      | tup es =>
        simp only [Dat] at hy; obtain ⟨b, ys, rfl, hb, _⟩ := hy; cases ry
        obtain ⟨its2, _, p2⟩ := tup_at I hb
        exact ⟨SeqAt.RcAt.list_tuple p p2 hu', SeqAt.EqAt.list_tuple p p2 hu', SeqAt.RcNeAt.list_tuple p p2 hu'⟩
      | lst es =>
        have hy0 := hy
        simp only [Dat] at hy; obtain ⟨b, ys, rfl, hb, hys⟩ := hy; cases ry
        obtain ⟨its2, r2, p2⟩ := lst_at I hb
        have it := items ds es xs ys its its2 (by omega) hxs hys r1 r2
        have z1 : its.toArray.size = ds.length := by rw [← hxs.length, r1.length]; simp
        have z2 : its2.toArray.size = es.length := by rw [← hys.length, r2.length]; simp
        have both : SeqAt.RcAt A s (.ref a) (.ref b) (eqDs ds es) ∧ SeqAt.RcNeAt A s (.ref a) (.ref b) (!eqDs ds es) := by
          by_cases hl : ds.length = es.length
          · have r := SeqAt.RcAt.lists p p2 (by rw [z1, z2]; exact hl) hu' it
            have q := SeqAt.RcNeAt.lists p p2 (by rw [z1, z2]; exact hl) hu' it
            rw [z1, eqDs_range hl] at r q
            exact ⟨r, q⟩
          · have hne : (its.toArray.size != its2.toArray.size) = true := by rw [z1, z2]; simpa using hl
            rw [eqDs_len hl]
            exact ⟨SeqAt.RcAt.lists_lengths p p2 hne hu', SeqAt.RcNeAt.lists_lengths p p2 hne hu'⟩
        simp only [eqD]
        refine ⟨both.1, ?_, both.2⟩
        by_cases hab : a = b
        · subst hab
          have : D.lst ds = D.lst es := hx0.inj hy0
          cases this
          rw [eqDs_refl]
          exact SeqAt.EqAt.same _
        · exact .of_refs hab both.1
def rEqD (neg : Bool) : R2 := fun x y H Q => ∃ d e, Dat H d x ∧ Dat H e y ∧ dep d ≤ 100 ∧ Q (.bl (if neg then !eqD d e else eqD d e)) H
theorem op_eqD (hu : X.A.units + 100 < cLine) : OpR X (compareOp .Eq) (rEqD false) := by
  intro pins s σ H x y v u Q I rx ry h
  obtain ⟨d, e, hx, hy, hd, q⟩ := h
  exact (eqAt_D I 100 d e x y v u X.A hd hu hx hy rx ry).1 X.prog X.w _ _ ⟨.bl _, H, I, rfl, q⟩
theorem op_neD (hu : X.A.units + 100 < cLine) : OpR X (compareOp .NotEq) (rEqD true) := by
  intro pins s σ H x y v u Q I rx ry h
  obtain ⟨d, e, hx, hy, hd, q⟩ := h
  exact (eqAt_D I 100 d e x y v u X.A hd hu hx hy rx ry).2.2 X.prog X.w _ _ ⟨.bl _, H, I, rfl, q⟩
end
end L2
set_option Elab.async false
set_option linter.all false
set_option autoImplicit false
set_option maxRecDepth 100000
set_option maxHeartbeats 1000000
namespace L2
open PySem PySem.Spec PyProof.Rows
theorem same_upd {H : Hp} {p : Addr} {o : HO} (h : H p = none) : Same H (upd H p o) := fun b u e => by
  rw [upd_ne (ne_of_none e h)]; exact e
theorem dats_ints (H : Hp) : ∀ ns : List Int, Dats H (ns.map D.int) (ns.map V.int)
  | [] => by simp [Dats]
  | n :: r => by
    simp only [List.map_cons, Dats]
    exact ⟨_, _, rfl, by simp [Dat], dats_ints H r⟩
theorem dats_ints_eq {H : Hp} : ∀ {ns : List Int} {xs : List V}, Dats H (ns.map D.int) xs → xs = ns.map V.int
  | [], xs, h => by simpa [Dats] using h
  | n :: r, xs, h => by
    simp only [List.map_cons, Dats] at h
    obtain ⟨x, t, rfl, h1, h2⟩ := h
    rw [dats_ints_eq h2]
    simp only [Dat] at h1
    rw [h1]; rfl
section
variable {X : Cx}
theorem mt_bitlen : MtR X "int.bit_length" (fun x xs H Q => ∃ i, x = .int i ∧ xs = [] ∧ Q (.int ((Builtin.Int.intBits i : Nat) : Int)) H) := by
  intro pins s σ H x xs v us Q I rx rv h
  obtain ⟨i, rfl, rfl, q⟩ := h
  obtain ⟨t, rfl⟩ := rx
  cases rv
  refine call_gives F.slot_int_bit_length (typeIs_int s i t) F.entry_int_bit_length (F.args_int_bit_length_1 _) (AutoIntG2.int_bit_length_int_0 i t) ?_
  exact ⟨.int _, H, I.tok _, ⟨_, rfl⟩, q⟩
end
end L2
set_option Elab.async false
set_option linter.all false
set_option autoImplicit false
set_option maxRecDepth 100000
set_option maxHeartbeats 1000000
namespace L2
open PySem PySem.Spec PyProof.Rows
section
variable {K : PySem.W.Frag} {g : TG} {tc : TT} {l : TL} {acc : Addr} {σ : St} {H : Hp} {R : St → Hp → Prop}
end
def But (p : Addr) (H H' : Hp) : Prop := ∀ b, b ≠ p → H' b = H b
theorem But.refl (p : Addr) (H : Hp) : But p H H := fun _ _ => rfl
theorem But.trans {p : Addr} {H H1 H2 : Hp} (a : But p H H1) (b : But p H1 H2) : But p H H2 := fun c hc => (b c hc).trans (a c hc)
theorem But.same {p : Addr} {H0 H H' : Hp} (hp : H0 p = none) (e : Same H0 H) (b : But p H H') : Same H0 H' := fun c o h => by
  rw [b c (ne_of_none h hp)]; exact e c o h
end L2
set_option Elab.async false
set_option linter.all false
set_option autoImplicit false
set_option maxRecDepth 100000
set_option maxHeartbeats 1000000
namespace L2
open PySem PySem.Spec PyProof.Rows
theorem cmul_mod {e k y : Int} (h : 0 < k) (h2 : k ≤ 2 ^ 64) : CMul (e % k) y := by
  have h1 := Int.emod_nonneg e (Int.ne_of_gt h)
  have h3 := Int.emod_lt_of_pos e h
  exact .inl ⟨by omega, by omega⟩
theorem cmul_l {x y : Int} (h : -(2 ^ 64) < x ∧ x < 2 ^ 64) : CMul x y := .inl h
theorem cmul_r {x y : Int} (h : -(2 ^ 64) < y ∧ y < 2 ^ 64) : CMul x y := .inr h
theorem len_lst {K : PySem.W.Frag} {H : Hp} {a : Addr} {xs : List V} (h : SqL K H a xs) : LenV K (.ref a) H xs.length := .inl ⟨xs, h, rfl⟩
end L2
set_option Elab.async false
set_option linter.all false
set_option autoImplicit false
set_option maxRecDepth 100000
set_option maxHeartbeats 1000000
namespace L2
open PySem PySem.Spec PyProof.Rows
section
variable {X : Cx} {tg a b l : Expr} {ta tb tl : TE} {pos : Pos}
theorem ix_seqK (K : PySem.W.Frag) (h : X.K = K) : IxR X (rIx K) := h ▸ ix_seq
theorem call_lenK (K : PySem.W.Frag) (h : X.K = K) : CallR X (.builtin "len") (fun xs H Q => ∃ x n, xs = [x] ∧ LenV K x H n ∧ Q (.int n) H) := h ▸ call_len
theorem pt_truthK (K : PySem.W.Frag) (h : X.K = K) (ha : PE X a ta) (he : ∀ whole, isTrue a X.env whole = (do let v ← whole; standAt a.pos; holding [v] (truthy v))) :
    PT X a (fun σ H Q => ta σ H fun x H' => ∃ k, TruV K x H' k ∧ Q k H') := h ▸ pt_truth ha he
theorem call_list_ofK (K : PySem.W.Frag) (h : X.K = K) : CallR X (.type "list") (fun xs H Q => ∃ p ys, xs = [.ref p] ∧ (SqL K H p ys ∨ SqT K H p ys) ∧ ∀ l, H l = none → Q (.ref l) (upd H l (.lst ys))) := h ▸ call_list_of
theorem call_tuple_ofK (K : PySem.W.Frag) (h : X.K = K) : CallR X (.type "tuple") (fun xs H Q => ∃ p ys, xs = [.ref p] ∧ ((SqL K H p ys ∧ ∀ l, H l = none → Q (.ref l) (upd H l (.tup ys))) ∨ (SqT K H p ys ∧ Q (.ref p) H))) := h ▸ call_tuple_of
end
end L2
set_option Elab.async false
set_option linter.all false
set_option autoImplicit false
set_option maxRecDepth 100000
set_option maxHeartbeats 1000000
namespace L2
open PySem PySem.Spec PyProof.Rows
def forW (J : It) (g : TG) (tb : TS) (D : Ends) (σ : St) (H : Hp) : Prop := ∃ W : Nat → Nat → St → Hp → Prop, (∃ m, W 0 m σ H) ∧ ∀ i m σ H, W i m σ H →
  (J.stop i H ∧ D.nx σ H) ∨ (J.go i H ∧ ∃ N : St → Hp → Prop, (∀ σ' H', N σ' H' → ∃ m', m' < m ∧ W (i + 1) m' σ' H') ∧ ∀ x H', J.yld i H x H' → g x σ H' fun σ2 H2 => tb { D with nx := N, ct := N, bk := D.nx } σ2 H2)
theorem tFor_eq (wi : TI) (g : TG) (tb : TS) (D : Ends) (σ : St) (H : Hp) : tFor wi g tb D σ H = wi σ H fun J H1 => forW J g tb D σ H1 := rfl
section
variable {K : PySem.W.Frag} {a : Addr} {xs : List V} {g : TG} {tb : TS} {D : Ends} {σ : St} {H : Hp}
end
end L2
set_option Elab.async false
set_option linter.all false
set_option autoImplicit false
set_option maxRecDepth 100000
set_option maxHeartbeats 1000000
namespace L2
open PySem PySem.Spec PyProof.Rows
def TSame (H H' : Hp) : Prop := ∀ b xs, H b = some (.tup xs) → H' b = some (.tup xs)
theorem TSame.refl (H : Hp) : TSame H H := fun _ _ h => h
theorem TSame.trans {H H1 H2 : Hp} (a : TSame H H1) (b : TSame H1 H2) : TSame H H2 := fun c xs h => b c xs (a c xs h)
theorem Same.t {H H' : Hp} (e : Same H H') : TSame H H' := fun b xs h => e b _ h
theorem tsame_upd {H : Hp} {a : Addr} {o : HO} {xs : List V} (h : H a = some (.lst xs)) : TSame H (upd H a o) := fun b ys e => by
  rw [upd_ne (by rintro rfl; rw [h] at e; cases e)]; exact e
mutual
def noL : D → Bool
  | .lst _ => false
  | .tup ds => noLs ds
  | _ => true
def noLs : List D → Bool
  | [] => true
  | d :: ds => noL d && noLs ds
end
mutual
theorem Dat.t {H H' : Hp} (e : TSame H H') : ∀ {d : D} {v : V}, noL d = true → Dat H d v → Dat H' d v
  | .non, v, _, h => by simpa only [Dat] using h
  | .bl b, v, _, h => by simpa only [Dat] using h
  | .int i, v, _, h => by simpa only [Dat] using h
  | .str x, v, _, h => by simpa only [Dat] using h
  | .tup ds, v, n, h => by
    simp only [Dat] at h ⊢
    simp only [noL] at n
    obtain ⟨a, xs, rfl, h1, h2⟩ := h
    exact ⟨a, xs, rfl, e a _ h1, Dats.t e n h2⟩
  | .lst ds, v, n, h => by simp [noL] at n
theorem Dats.t {H H' : Hp} (e : TSame H H') : ∀ {ds : List D} {xs : List V}, noLs ds = true → Dats H ds xs → Dats H' ds xs
  | [], xs, _, h => by simpa only [Dats] using h
  | d :: ds, xs, n, h => by
    simp only [Dats] at h ⊢
    simp only [noLs, Bool.and_eq_true] at n
    obtain ⟨x, r, rfl, h1, h2⟩ := h
    exact ⟨x, r, rfl, Dat.t e n.1 h1, Dats.t e n.2 h2⟩
end
theorem noLs_all : ∀ {ds : List D}, (∀ d ∈ ds, noL d = true) → noLs ds = true
  | [], _ => by simp [noLs]
  | d :: ds, h => by
    simp only [noLs, Bool.and_eq_true]
    exact ⟨h d (List.mem_cons_self ..), noLs_all fun e he => h e (List.mem_cons_of_mem _ he)⟩
end L2
namespace L2
end L2
namespace L2
open PySem
def Keep (p : Addr) (H H' : Hp) : Prop := ∀ b o, b ≠ p → H b = some o → H' b = some o
theorem Keep.refl (p : Addr) (H : Hp) : Keep p H H := fun _ _ _ h => h
theorem Keep.trans {p : Addr} {H H1 H2 : Hp} (a : Keep p H H1) (b : Keep p H1 H2) : Keep p H H2 := fun c o hc h => b c o hc (a c o hc h)
theorem But.keep {p : Addr} {H H' : Hp} (b : But p H H') : Keep p H H' := fun c o hc h => by rw [b c hc]; exact h
theorem Same.keep {p : Addr} {H H' : Hp} (b : Same H H') : Keep p H H' := fun c o _ h => b c o h
theorem Keep.same {p : Addr} {H0 H H' : Hp} (hp : H0 p = none) (e : Same H0 H) (b : Keep p H H') : Same H0 H' := fun c o h => b c o (ne_of_none h hp) (e c o h)
end L2
namespace L2
open PySem
theorem Room.u100 {k : Nat} {A : Around} (r : Room k A) : A.units + 100 < cLine := by have := r.un; omega
end L2
namespace L2
open PySem
theorem deps_le : ∀ {ds : List D} {n : Nat}, (∀ d ∈ ds, dep d ≤ n) → deps ds ≤ n
  | [], n, _ => by simp [deps]
  | d :: ds, n, h => by
    simp only [deps]
    exact Nat.max_le.mpr ⟨h d (List.mem_cons_self ..), deps_le fun e he => h e (List.mem_cons_of_mem _ he)⟩
theorem deps_ints (ns : List Int) : deps (ns.map D.int) = 0 := by
  have : deps (ns.map D.int) ≤ 0 := deps_le fun d hd => by
    obtain ⟨n, _, rfl⟩ := List.mem_map.mp hd
    simp [dep]
  omega
end L2
set_option Elab.async false
set_option linter.all false
set_option autoImplicit false
set_option maxRecDepth 100000
set_option maxHeartbeats 1000000
namespace L2
open PySem PySem.Spec PyProof.Rows
section
variable {X : Cx}
end
end L2
namespace L2
open PySem
theorem SqL.keep {K : PySem.W.Frag} {H H' : Hp} {p a : Addr} {kvs : List (Key × V)} {xs : List V} (hp : H p = some (.dK kvs)) (h : SqL K H a xs) (k : Keep p H H') : SqL K H' a xs := by
  rcases h with (h | ⟨o, h⟩) | h
  · exact .inl (.inl (k _ _ (ne_of h hp (by intro z; cases z)) h))
  · exact .inl (.inr ⟨o, k _ _ (ne_of h hp (by intro z; cases z)) h⟩)
  · exact .inr h
end L2
namespace L2
open PySem
theorem Dats.take {H : Hp} : ∀ {ds : List D} {xs : List V} (n : Nat), Dats H ds xs → Dats H (ds.take n) (xs.take n) := fun {ds xs} n h => by
  refine Dats.of_get (by rw [List.length_take, List.length_take, h.length]) fun i d x e1 e2 => ?_
  rw [List.getElem?_take] at e1 e2
  split at e1
  · rename_i hi
    rw [if_pos hi] at e2
    obtain ⟨x', h1, h2⟩ := h.get e1
    rw [e2] at h1; cases h1; exact h2
  · cases e1
theorem Dats.drop {H : Hp} : ∀ {ds : List D} {xs : List V} (n : Nat), Dats H ds xs → Dats H (ds.drop n) (xs.drop n) := fun {ds xs} n h => by
  refine Dats.of_get (by rw [List.length_drop, List.length_drop, h.length]) fun i d x e1 e2 => ?_
  rw [List.getElem?_drop] at e1 e2
  obtain ⟨x', h1, h2⟩ := h.get e1
  rw [e2] at h1; cases h1; exact h2
end L2
namespace L2
open PySem
theorem Dats.set {H : Hp} {ds : List D} {xs : List V} {d : D} {x : V} (i : Nat) (h : Dats H ds xs) (hd : Dat H d x) : Dats H (ds.set i d) (xs.set i x) := by
  refine Dats.of_get (by rw [List.length_set, List.length_set, h.length]) fun j d' x' e1 e2 => ?_
  rw [List.getElem?_set] at e1 e2
  by_cases hij : i = j
  · rw [if_pos hij] at e1 e2
    split at e1
    · rename_i hl
      rw [if_pos (by rw [h.length]; exact hl)] at e2
      cases e1; cases e2; exact hd
    · cases e1
  · rw [if_neg hij] at e1 e2
    obtain ⟨y, h1, h2⟩ := h.get e1
    rw [e2] at h1; cases h1; exact h2
end L2
set_option Elab.async false
set_option linter.all false
set_option autoImplicit false
set_option maxRecDepth 100000
set_option maxHeartbeats 1000000
namespace L2
open PySem PySem.Spec PyProof.Rows
section
variable {X : Cx} {e st : Expr} {te ts : TE} {pos p2 : Pos}
end
end L2
set_option Elab.async false
set_option linter.all false
set_option autoImplicit false
set_option maxRecDepth 100000
set_option maxHeartbeats 1000000
namespace L2
open PySem PySem.Spec PyProof.Rows
def LD (H : Hp) (l : Addr) (ds : List D) : Prop := noLs ds = true ∧ ∃ xs, H l = some (.lst xs) ∧ Dats H ds xs
theorem noLs_append {ds es : List D} : noLs (ds ++ es) = (noLs ds && noLs es) := by
  induction ds with
  | nil => simp [noLs]
  | cons d ds ih => simp [noLs, ih, Bool.and_assoc]
theorem LD.new {H : Hp} {q : Addr} : LD (upd H q (.lst [])) q [] := ⟨by simp [noLs], [], upd_same, by simp [Dats]⟩
theorem LD.one {H : Hp} {q : Addr} {d : D} {v : V} (hq : H q = none) (hn : noL d = true) (h : Dat H d v) : LD (upd H q (.lst [v])) q [d] := ⟨by simp [noLs, hn], [v], upd_same, Dats.one (h.same (same_upd hq))⟩
theorem LD.same {H H' : Hp} {l : Addr} {ds : List D} (h : LD H l ds) (s : Same H H') : LD H' l ds := by
  obtain ⟨n, xs, h1, h2⟩ := h
  exact ⟨n, xs, s _ _ h1, h2.same s⟩
theorem LD.t {H H' : Hp} {l : Addr} {ds : List D} (h : LD H l ds) (s : TSame H H') (e : H' l = H l) : LD H' l ds := by
  obtain ⟨n, xs, h1, h2⟩ := h
  exact ⟨n, xs, by rw [e]; exact h1, Dats.t s n h2⟩
theorem LD.over {H : Hp} {l m : Addr} {ds : List D} {o : HO} {ys : List V} (h : LD H l ds) (hm : H m = some (.lst ys)) (e : l ≠ m) : LD (upd H m o) l ds := h.t (tsame_upd hm) (upd_ne e)
theorem Dats.split {H : Hp} {ds es : List D} {xs : List V} (h : Dats H (ds ++ es) xs) : ∃ ys zs, xs = ys ++ zs ∧ Dats H ds ys ∧ Dats H es zs :=
  ⟨xs.take ds.length, xs.drop ds.length, (List.take_append_drop ..).symm, by simpa using Dats.take ds.length h, by simpa using Dats.drop ds.length h⟩
theorem LD.push {H : Hp} {l : Addr} {ds : List D} {d : D} {v : V} (h : LD H l ds) (hn : noL d = true) (hd : Dat H d v) (hl : ds.length ≤ 1000000) :
    ∃ xs, H l = some (.lst xs) ∧ xs.length < sizeLine ∧ LD (upd H l (.lst (xs ++ [v]))) l (ds ++ [d]) ∧ TSame H (upd H l (.lst (xs ++ [v]))) := by
  obtain ⟨n, xs, h1, h2⟩ := h
  have tS : TSame H (upd H l (.lst (xs ++ [v]))) := tsame_upd h1
  refine ⟨xs, h1, ?_, ⟨by rw [noLs_append]; simp [n, noLs, hn], _, upd_same, (Dats.t tS n h2).append (Dats.one (Dat.t tS hn hd))⟩, tS⟩
  have := h2.length
  exact Nat.lt_of_le_of_lt (by omega : xs.length ≤ 1000000) (by decide)
theorem LD.pop {H : Hp} {l : Addr} {ds : List D} {d : D} (h : LD H l (ds ++ [d])) :
    ∃ xs y, H l = some (.lst xs) ∧ xs[xs.length - 1]? = some y ∧ noL d = true ∧ Dat (upd H l (.lst xs.dropLast)) d y ∧ LD (upd H l (.lst xs.dropLast)) l ds ∧ TSame H (upd H l (.lst xs.dropLast)) := by
  obtain ⟨n, xs, h1, h2⟩ := h
  rw [noLs_append, Bool.and_eq_true] at n
  have nd : noL d = true := by simpa [noLs] using n.2
  have hxl : xs.length = ds.length + 1 := by rw [h2.length]; simp
  obtain ⟨y, hy, hdy⟩ := h2.get (i := ds.length) (d := d) (by simp)
  have tS : TSame H (upd H l (.lst xs.dropLast)) := tsame_upd h1
  have hdl : Dats H ds xs.dropLast := by
    have := Dats.take ds.length h2
    rw [List.dropLast_eq_take, hxl]
    simpa using this
  exact ⟨xs, y, h1, by rw [hxl]; exact hy, nd, Dat.t tS nd hdy, ⟨n.1, _, upd_same, Dats.t tS n.1 hdl⟩, tS⟩
theorem Dats.reverse {H : Hp} {ds : List D} {xs : List V} (h : Dats H ds xs) : Dats H ds.reverse xs.reverse := by
  refine Dats.of_get (by rw [List.length_reverse, List.length_reverse, h.length]) fun i d x e1 e2 => ?_
  have hl := h.length
  have hi : i < ds.length := by
    have := (List.getElem?_eq_some_iff.mp e1).1
    rwa [List.length_reverse] at this
  rw [List.getElem?_reverse hi] at e1
  rw [List.getElem?_reverse (by omega), hl] at e2
  obtain ⟨x', h1, h2⟩ := h.get e1
  rw [e2] at h1; cases h1; exact h2
inductive Tr where
  | lf (x : List D)
  | nd (x : List D) (l r : Tr)
namespace Tr
def d : Tr → D
  | .lf x => .tup x
  | .nd x l r => .tup (x ++ [l.d, r.d])
def size : Tr → Nat
  | .lf _ => 1
  | .nd _ l r => l.size + r.size + 1
def dp : Tr → Nat
  | .lf _ => 0
  | .nd _ l r => 1 + max l.dp r.dp
def post : Tr → List Tr
  | .lf x => [.lf x]
  | .nd x l r => l.post ++ r.post ++ [.nd x l r]
def pre : Tr → List Tr
  | .lf x => [.lf x]
  | .nd x l r => .nd x l r :: (r.pre ++ l.pre)
def ok (lw : Str) : Tr → Prop
  | .lf x => x[0]? = some (.str lw) ∧ noLs x = true
  | .nd x l r => (∃ w, x[0]? = some (.str w) ∧ w ≠ lw) ∧ noLs x = true ∧ l.ok lw ∧ r.ok lw
theorem ok.noL {lw : Str} : ∀ {t : Tr}, t.ok lw → noL t.d = true
  | .lf x, h => by simp only [d, L2.noL]; exact h.2
  | .nd x l r, h => by
    obtain ⟨_, h1, h2, h3⟩ := h
    simp only [d, L2.noL, noLs_append, Bool.and_eq_true]
    exact ⟨h1, by simp [noLs, ok.noL h2, ok.noL h3]⟩
theorem ok.post {lw : Str} : ∀ {t : Tr}, t.ok lw → ∀ u ∈ t.post, u.ok lw
  | .lf x, h, u, hu => by simp only [Tr.post, List.mem_singleton] at hu; subst hu; exact h
  | .nd x l r, h, u, hu => by
    simp only [Tr.post, List.mem_append, List.mem_singleton] at hu
    rcases hu with (hu | hu) | hu
    · exact ok.post h.2.2.1 u hu
    · exact ok.post h.2.2.2 u hu
    · subst hu; exact h
theorem ok.noLs {lw : Str} {ts : List Tr} (h : ∀ t ∈ ts, t.ok lw) : noLs (ts.map d) = true := noLs_all fun e he => by
  obtain ⟨t, ht, rfl⟩ := List.mem_map.mp he
  exact (h t ht).noL
end Tr
end L2
set_option Elab.async false
set_option linter.all false
set_option autoImplicit false
set_option maxRecDepth 100000
set_option maxHeartbeats 1000000
namespace L2
open PySem PySem.Spec PyProof.Rows
theorem Keep.t {p : Addr} {H H' : Hp} {zs : List V} (k : Keep p H H') (hp : H p = some (.lst zs)) : TSame H H' := fun b xs h => k b _ (ne_of h hp (by intro z; cases z)) h
theorem LD.keep {H H' : Hp} {l p : Addr} {ds : List D} {zs : List V} (h : LD H l ds) (k : Keep p H H') (hp : H p = some (.lst zs)) (ne : l ≠ p) : LD H' l ds := by
  obtain ⟨n, xs, h1, h2⟩ := h
  exact ⟨n, xs, k _ _ ne h1, Dats.t (k.t hp) n h2⟩
theorem LD.get {H : Hp} {l : Addr} {ds : List D} {i : Nat} {d : D} (h : LD H l ds) (e : ds[i]? = some d) : ∃ xs x, H l = some (.lst xs) ∧ xs[i]? = some x ∧ xs.length = ds.length ∧ noL d = true ∧ Dat H d x := by
  obtain ⟨n, xs, h1, h2⟩ := h
  obtain ⟨x, hx, hd⟩ := h2.get e
  refine ⟨xs, x, h1, hx, h2.length, ?_, hd⟩
  have m := List.mem_of_getElem? e
  clear h2 hx e
  induction ds with
  | nil => cases m
  | cons a ds ih =>
    simp only [noLs, Bool.and_eq_true] at n
    rcases List.mem_cons.mp m with rfl | m
    · exact n.1
    · exact ih n.2 m
theorem LD.len {K : PySem.W.Frag} {H : Hp} {l : Addr} {ds : List D} (h : LD H l ds) : LenV K (.ref l) H ds.length := by
  obtain ⟨n, xs, h1, h2⟩ := h
  rw [← h2.length]
  exact len_lst (SqL.of h1)
theorem LD.ne {H : Hp} {l p : Addr} {ds : List D} (h : LD H l ds) (hp : H p = none) : l ≠ p := by
  obtain ⟨_, xs, h1, _⟩ := h
  rintro rfl
  rw [h1] at hp; cases hp
section
variable {K : PySem.W.Frag} {a p : Addr} {ds : List D} {zs : List V} {g : TG} {tb : TS} {Dn : Ends} {σ : St} {H : Hp}
end
section
variable {K : PySem.W.Frag} {a acc : Addr} {ds : List D} {g : TG} {tc : TT} {l : TL} {σ : St} {H : Hp} {R : St → Hp → Prop} {zs : List V}
end
theorem LD.ext {H : Hp} {l : Addr} {ds es : List D} {zs : List V} (h : LD H l ds) (hn : noLs es = true) (hd : Dats H es zs) (hl : ds.length + es.length ≤ 1000000) :
    ∃ xs, H l = some (.lst xs) ∧ xs.length + zs.length ≤ sizeLine ∧ LD (upd H l (.lst (xs ++ zs))) l (ds ++ es) := by
  obtain ⟨n, xs, h1, h2⟩ := h
  have tS : TSame H (upd H l (.lst (xs ++ zs))) := tsame_upd h1
  refine ⟨xs, h1, ?_, by rw [noLs_append, n, hn]; rfl, _, upd_same, (Dats.t tS n h2).append (Dats.t tS hn hd)⟩
  have := h2.length
  have := hd.length
  exact Nat.le_trans (by omega : xs.length + zs.length ≤ 1000000) (by decide)
end L2
set_option Elab.async false
set_option linter.all false
set_option autoImplicit false
set_option maxRecDepth 100000
set_option maxHeartbeats 1000000
namespace L2
open PySem PySem.Spec PyProof.Rows
section
variable {X : Cx}
theorem vals_int_get : ∀ {ns : List Int} {its : List Value}, Vals (ns.map V.int) its → ∀ (i : Nat) (v : Value), its[i]? = some v → ∃ t, v = .int (ns.getD i 0) t
  | [], _, .nil, i, v, h => by simp at h
  | n :: ns, _, .cons r t, 0, v, h => by
    simp at h
    subst h
    obtain ⟨t', e⟩ := r
    exact ⟨t', by rw [e]; rfl⟩
  | n :: ns, _, .cons r t, i + 1, v, h => by
    obtain ⟨t', e⟩ := vals_int_get t i v (by simpa using h)
    exact ⟨t', by rw [e]; rfl⟩
theorem preSum_eq (ns : List Int) : ∀ j, j ≤ ns.length → preSum (fun i => ns.getD i 0) j = (ns.take j).sum
  | 0, _ => by simp [preSum]
  | j + 1, h => by
    have hj : j < ns.length := by omega
    have e : ns.getD j 0 = ns[j] := by
      rw [List.getD_eq_getElem?_getD, List.getElem?_eq_getElem hj]; rfl
    rw [preSum, preSum_eq ns j (by omega), e, List.take_succ, List.getElem?_eq_getElem hj, List.sum_append]
    simp
theorem call_sum (hc : X.calm = true) : CallR X (.builtin "sum") (fun xs H Q => ∃ (a : Addr) (ns : List Int), xs = [.ref a] ∧ SqL X.K H a (ns.map V.int) ∧ Q (.int ns.sum) H) := by
  intro pins s σ H xs us Q I r h
  obtain ⟨a, ns, rfl, hq, q⟩ := h
  obtain ⟨u, rfl, rx⟩ := vals1 r
  cases rx
  obtain ⟨its, rv, p, hz⟩ := I.list hq
  have hlt : a < s.heap.objs.size := by
    obtain ⟨o, ho, _⟩ := p.isList
    exact Heap.lt_size ho
  have hlen : its.length = ns.length := by rw [← rv.length, List.length_map]
  refine call_sum_walkG (wpAny_pyIter_list p.isList ?_)
  refine ⟨s.heap.objs.size, _, _, _, _, _, fun i => ns.getD i 0, rfl, Walks.list (A := X.A.in1) (I.ok.hd hc) _ a (Nat.ne_of_lt hlt) _, ⟨⟨_, Heap.get?_push_size _ rfl, rfl, rfl⟩, p.isList.push _⟩, ?_, ?_, fun h' tk t' hk => ?_⟩
  · intro b hb
    show b < (s.heap.push _).objs.size
    rw [Heap.size_push]
    simp only [List.mem_cons, List.not_mem_nil, or_false] at hb
    rcases hb with e | e
    · rw [e]; exact Nat.lt_succ_self _
    · rw [e]; exact Nat.lt_succ_of_lt hlt
  · intro i v hP
    exact vals_int_get rv i v (by simpa using hP)
  · refine ⟨.int ns.sum, H, I.kept (t' := tk) fun b o e => hk b o (fun hm => ?_) (Heap.get?_push_of_some _ e), ⟨t', ?_⟩, q⟩
    · have : b = s.heap.objs.size := by simpa using hm
      exact absurd (this ▸ Heap.lt_size e) (Nat.lt_irrefl _)
    · rw [List.size_toArray, hlen, preSum_eq ns _ (Nat.le_refl _), List.take_length]
theorem getItem_tuple_whole {prog : Program} {w : World} {A : Around} {E : Value → Shared → Prop} {s : Shared} {t sl : Addr} {items : Array Value} {vl vu : Value} {lo hi : Option Int} {Q : Value → Shared → Prop} (ht : IsTup s.heap t items) (hs : s.heap.IsSliceOf sl vl vu .none) (pl : IsPart vl lo) (pu : IsPart vu hi)
    (hw : HT.sIx items.size 0 lo = 0 ∧ HT.sIx items.size items.size hi = items.size) (h : Q (.ref t) s) : wpAny (model prog w) A (getItem (.ref t) (.ref sl)) Q E s := by
  obtain ⟨os, hos, hcs, hds⟩ := id hs
  have hTs : s.TypeIs (.ref sl) "slice" := ⟨os, hos, hcs⟩
  unfold getItem
  try with_reducible refine wpAny_holding ?_
  first | refine wpAny_bind (wpAny_pure ?_) | skip
  refine wpAny_bind (wpAny_sequenceKey ht.typeIs (by decide) ?_)
  refine wpAny_bind (wpAny_callSpecial?_slot (name := Str.ofString "__getitem__") ht.typeIs PyProof.Rows.slot_tuple_getitem
    (wpAny_call_entry PyProof.Rows.slot_tuple_getitem ht.typeIs PyProof.Rows.entry_tuple_getitem ?_ (PyProof.Rows.args_tuple_getitem _ _)))
  show wpAny _ _ (Builtin.Tuple.tupleItemsOf (.ref t) >>= _) _ _ s
  refine wpAny_bind (tupleItemsOf_ ht ?_)
  refine wpAny_bind (wpAny_typeOf hTs ?_)
  rw [if_pos (by decide)]
  refine wpAny_bind (HT.sliceApplied_gen hs pl pu ?_)
  have hyes : (((HT.sIx items.size 0 lo : Nat) : Int) == 0 && (1 : Int) == 1 && (HT.sIx items.size items.size hi - HT.sIx items.size 0 lo) == items.size) = true := by
    rw [hw.1, hw.2]; simp
  show wpAny _ _ (if (((HT.sIx items.size 0 lo : Nat) : Int) == 0 && (1 : Int) == 1 && (HT.sIx items.size items.size hi - HT.sIx items.size 0 lo) == items.size) = true then _ else _) _ _ s
  rw [if_pos hyes]
  unfold Builtin.Tuple.tupleIsExact
  refine wpAny_bind (wpAny_bind (wpAny_typeOf ht.typeIs (wpAny_pure ?_)))
  rw [if_pos (by decide)]
  exact wpAny_bind (wpAny_rule (wpAny_pure ⟨_, rfl, wpAny_pure h⟩))
def rSlTA (K : PySem.W.Frag) : V → Option Int → Option Int → Hp → VK → Prop := fun x lo hi H Q => ∃ a xs, x = .ref a ∧ SqT K H a xs ∧
  if HT.sIx xs.length 0 lo = 0 ∧ HT.sIx xs.length xs.length hi = xs.length then Q (.ref a) H else ∀ p, H p = none → Q (.ref p) (upd H p (.tup (cutV xs lo hi)))
theorem sl_tupA : SlR X (rSlTA X.K) := by
  intro pins s σ H x v vl vu lo hi sl Q I rx hs pl pu h
  obtain ⟨a, xs, rfl, hx, h⟩ := h
  by_cases hw : HT.sIx xs.length 0 lo = 0 ∧ HT.sIx xs.length xs.length hi = xs.length
  · rw [if_pos hw] at h
    cases rx
    obtain ⟨its, r, ht, hz⟩ := I.tuple hx
    have hlen : its.toArray.size = xs.length := by rw [List.size_toArray]; exact r.length.symm
    exact ⟨"tuple", _, PyProof.Rows.slot_tuple_getitem.lookup, ht.typeIs, getItem_tuple_whole ht hs pl pu (by rw [hlen]; exact hw) ⟨.ref a, H, I, rfl, h⟩⟩
  · rw [if_neg hw] at h
    exact sl_tup pins s σ H (.ref a) v vl vu lo hi sl Q I rx hs pl pu ⟨a, xs, rfl, hx, hw, h⟩
end
end L2
set_option Elab.async false
set_option linter.all false
set_option autoImplicit false
set_option maxRecDepth 100000
set_option maxHeartbeats 1000000
namespace L2
open PySem PySem.Spec PyProof.Rows
section
variable {K : PySem.W.Frag} {a : Addr} {ds : List D} {xs : List V} {g : TG} {tb : TS} {Dn : Ends} {σ : St} {H : Hp}
end
section
variable {K : PySem.W.Frag} {a acc : Addr} {ds : List D} {xs : List V} {g : TG} {tc : TT} {l : TL} {σ : St} {H : Hp} {R : St → Hp → Prop}
end
section
variable {X : Cx}
end
def wdD (w : List Int) : D := .tup (w.map D.int)
def csD (pl : Nat) (ys ns : List (List Int)) : D := .tup [.int pl, .tup (ys.map wdD), .tup (ns.map wdD)]
theorem Dat.cs {H : Hp} {pl : Nat} {ys ns : List (List Int)} {v : V} (h : Dat H (csD pl ys ns) v) : ∃ a ya na yv nv, v = .ref a ∧ H a = some (.tup [.int pl, .ref ya, .ref na]) ∧ H ya = some (.tup yv) ∧ Dats H (ys.map wdD) yv ∧ H na = some (.tup nv) ∧ Dats H (ns.map wdD) nv := by
  simp only [csD, Dat, Dats] at h
  obtain ⟨a, _, rfl, ha, _, _, rfl, rfl, _, _, rfl, ⟨ya, yv, rfl, hya, hyd⟩, _, _, rfl, ⟨na, nv, rfl, hna, hnd⟩, rfl⟩ := h
  exact ⟨a, ya, na, yv, nv, rfl, ha, hya, hyd, hna, hnd⟩
end L2
set_option Elab.async false
set_option linter.all false
set_option autoImplicit false
set_option maxRecDepth 100000
set_option maxHeartbeats 1000000
namespace L2
open PySem PySem.Spec PyProof.Rows
structure SN (n : Nat) (H : Hp) (S : Addr) (ad : Nat → Addr) (fs : Nat → List D) : Prop where
  s : H S = some (.lst ((List.range n).map fun i => .ref (ad i)))
  l : ∀ i, i < n → LD H (ad i) (fs i)
theorem SN.at {n : Nat} {ad : Nat → Addr} {k : Nat} (h : k < n) : atI ((List.range n).map fun i => V.ref (ad i)) (k : Int) = some (.ref (ad k)) := atI_nat (by rw [List.getElem?_map, List.getElem?_range h]; rfl)
theorem SN.same {n : Nat} {H H' : Hp} {S : Addr} {ad : Nat → Addr} {fs : Nat → List D} (h : SN n H S ad fs) (s : Same H H') : SN n H' S ad fs := ⟨s _ _ h.s, fun i hi => (h.l i hi).same s⟩
theorem SN.keep {n : Nat} {H H' : Hp} {S p : Addr} {ad : Nat → Addr} {fs : Nat → List D} (h : SN n H S ad fs) (k : Keep p H H') (t : TSame H H') (hS : S ≠ p) (ha : ∀ i, i < n → ad i ≠ p) : SN n H' S ad fs :=
  ⟨k _ _ hS h.s, fun i hi => by
    obtain ⟨m, xs, h1, h2⟩ := h.l i hi
    exact ⟨m, xs, k _ _ (ha i hi) h1, Dats.t t m h2⟩⟩
theorem SN.upd {n : Nat} {H : Hp} {S : Addr} {ad : Nat → Addr} {fs : Nat → List D} {k : Nat} {o : HO} {ds : List D} (h : SN n H S ad fs) (hk : k < n) (hl : LD (upd H (ad k) o) (ad k) ds) (hS : ∀ i, i < n → ad i ≠ S) (hi : ∀ i j, i < n → j < n → ad i = ad j → i = j) :
    SN n (upd H (ad k) o) S ad (fun i => if i = k then ds else fs i) := by
  refine ⟨by rw [upd_ne (hS k hk).symm]; exact h.s, fun i hin => ?_⟩
  by_cases e : i = k
  · subst e; rw [if_pos rfl]; exact hl
  · rw [if_neg e]
    obtain ⟨_, xs, h1, _⟩ := h.l k hk
    exact (h.l i hin).over h1 (fun z => e (hi i k hin hk z))
end L2
set_option Elab.async false
set_option linter.all false
set_option autoImplicit false
set_option maxRecDepth 100000
set_option maxHeartbeats 1000000
namespace L2
open PySem PySem.Spec PyProof.Rows
def StE (w : World) (e : DictEntry) (p : Str × V) : Prop := e.hash = PyData.keyHash w.params p.1 ∧ (∃ t, e.key = .str p.1 t) ∧ RelV p.2 e.val
def valS (kvs : List (Str × V)) (x : Str) : Option V := (kvs.find? fun p => decide (p.1 = x)).map (·.2)
theorem StE.find {P : Program} {w : World} : ∀ {es : List DictEntry} {kvs : List (Str × V)} {x : Str} {v : V}, Paired (StE w) es kvs → valS kvs x = some v → ∃ u, findBy (mixKind P w).is es.toArray (Sum.inr x) = some u ∧ RelV v u := by
  intro es
  induction es with
  | nil => intro kvs x v h hv; cases h; cases hv
  | cons e es ih =>
    intro kvs x v h hv
    cases h with
    | @cons _ p _ kvs r t =>
      obtain ⟨h1, ⟨tk, h2⟩, h3⟩ := r
      have hf : findBy (mixKind P w).is (e :: es).toArray (Sum.inr x) = if keyIs (Sum.inr x) e.key = true then some e.val else findBy (mixKind P w).is es.toArray (Sum.inr x) := by
        unfold findBy
        simp only [List.find?_toArray, List.find?_cons, mixKind_is]
        cases keyIs (Sum.inr x) e.key <;> simp
      by_cases hx : p.1 = x
      · have hk : keyIs (Sum.inr x) e.key = true := by rw [h2, ← hx]; exact keyIs_str _ _
        rw [hf, if_pos hk]
        unfold valS at hv
        rw [List.find?_cons_of_pos (by simp [hx])] at hv
        cases hv
        exact ⟨_, rfl, h3⟩
      · have hk : ¬ keyIs (Sum.inr x) e.key = true := by
          rw [h2]
          intro z
          rcases keyIs_shape z with ⟨i, t', e1, e2⟩ | ⟨y, t', e1, e2⟩
          · cases e2
          · injection e2 with e2 _
            injection e1 with e1
            exact hx (e2.trans e1.symm)
        rw [hf, if_neg hk]
        unfold valS at hv
        rw [List.find?_cons_of_neg (by simp [hx])] at hv
        exact ih t hv
theorem StE.keys {P : Program} {w : World} : ∀ {es : List DictEntry} {kvs : List (Str × V)}, Paired (StE w) es kvs → ∀ e ∈ es, ∃ k, (mixKind P w).is k e.key = true ∧ e.hash = (mixKind P w).hash k
  | _, _, .nil, e, h => by cases h
  | _, _, .cons (a := e0) (b := p) r t, e, h => by
    rcases List.mem_cons.mp h with rfl | h
    · obtain ⟨h1, ⟨tk, h2⟩, _⟩ := r
      exact ⟨Sum.inr p.1, by rw [h2]; exact mixKind_str _ _ _ _, h1⟩
    · exact StE.keys t e h
section
variable {X : Cx} {o i : Expr} {ty : TE} {pos : Pos} {a : Addr} {kvs : List (Str × V)}
end
end L2
set_option Elab.async false
set_option linter.all false
set_option autoImplicit false
set_option maxRecDepth 100000
set_option maxHeartbeats 1000000
namespace L2
open PySem PySem.Spec PyProof.Rows
open Classical in
noncomputable def eqF (H : Hp) (dx : D) (u : Value) : Bool := if h : ∃ d, ∃ x, RelV x u ∧ Dat H d x then eqD (Classical.choose h) dx else false
theorem eqF_eq {H : Hp} {dx d : D} {x : V} {u : Value} (r : RelV x u) (h : Dat H d x) : eqF H dx u = eqD d dx := by
  have hex : ∃ d, ∃ x, RelV x u ∧ Dat H d x := ⟨d, x, r, h⟩
  unfold eqF
  rw [dif_pos hex]
  obtain ⟨x', r', h'⟩ := Classical.choose_spec hex
  have : x' = x := r'.inj r
  subst this
  rw [Dat.inj h' h]
theorem any_eqF {H : Hp} {dx : D} : ∀ {ds : List D} {xs : List V} {its : List Value}, Dats H ds xs → Vals xs its → its.any (eqF H dx) = ds.any fun d => eqD d dx
  | [], xs, its, h, r => by
    simp only [Dats] at h; subst h; cases r; rfl
  | d :: ds, xs, its, h, r => by
    simp only [Dats] at h
    obtain ⟨x, xr, rfl, h1, h2⟩ := h
    cases r with
    | cons r1 r2 => rw [List.any_cons, List.any_cons, eqF_eq r1 h1, any_eqF h2 r2]
theorem mem_dats {H : Hp} : ∀ {ds : List D} {xs : List V} {its : List Value}, Dats H ds xs → Vals xs its → ∀ u ∈ its, ∃ d x, d ∈ ds ∧ RelV x u ∧ Dat H d x
  | [], xs, its, h, r, u, hu => by simp only [Dats] at h; subst h; cases r; cases hu
  | d :: ds, xs, its, h, r, u, hu => by
    simp only [Dats] at h
    obtain ⟨x, xr, rfl, h1, h2⟩ := h
    cases r with
    | cons r1 r2 =>
      rcases List.mem_cons.mp hu with rfl | hu
      · exact ⟨d, x, List.mem_cons_self .., r1, h1⟩
      · obtain ⟨d', x', m, q⟩ := mem_dats h2 r2 u hu
        exact ⟨d', x', List.mem_cons_of_mem _ m, q⟩
theorem dep_mem : ∀ {ds : List D} {d : D}, d ∈ ds → dep d ≤ deps ds
  | e :: ds, d, h => by
    simp only [deps]
    rcases List.mem_cons.mp h with rfl | h
    · omega
    · have := dep_mem h; omega
def inD (dx : D) (ds : List D) : Bool := ds.any fun d => eqD d dx
def rInD (neg : Bool) : R2 := fun x y H Q => ∃ dx ds, Dat H dx x ∧ (Dat H (.lst ds) y ∨ Dat H (.tup ds) y) ∧ deps ds ≤ 90 ∧ Q (.bl (if neg then !inD dx ds else inD dx ds)) H
section
variable {X : Cx}
theorem op_inD (hu : X.A.units + 100 < cLine) : OpR X (compareOp .In) (rInD false) := by
  intro pins s σ H x y v u Q I rx ry h
  obtain ⟨dx, ds, hx, hy, hdp, q⟩ := h
  have he : ∀ {xs : List V} {its : List Value}, Dats H ds xs → Vals xs its → ∀ w, w ∈ its.toArray → SeqAt.EqAt X.A.in1 s w v (eqF H dx w) := fun hd r w hw => by
    obtain ⟨d, z, hm, rz, hz⟩ := mem_dats hd r w (by simpa using hw)
    rw [eqF_eq rz hz]
    exact (eqAt_D I 90 d dx z x w v X.A.in1 (Nat.le_trans (dep_mem hm) hdp) (by show X.A.units + 1 + 90 < cLine; omega) hz hx rz rx).2.1
  rcases hy with hy | hy
  · simp only [Dat] at hy
    obtain ⟨a, xs, rfl, ha, hd⟩ := hy
    cases ry
    obtain ⟨its, r, pl, _⟩ := I.list (SqL.of ha)
    refine SeqAt.in_listAt (eqF H dx) pl.isList (he hd r) ⟨.bl _, H, I, rfl, ?_⟩
    rw [show its.toArray.any (eqF H dx) = its.any (eqF H dx) by simp, any_eqF hd r]
    exact q
  · simp only [Dat] at hy
    obtain ⟨a, xs, rfl, ha, hd⟩ := hy
    cases ry
    obtain ⟨its, r, pl, _⟩ := I.tuple (SqT.of ha)
    refine SeqAt.in_tupleAt (eqF H dx) pl (he hd r) ⟨.bl _, H, I, rfl, ?_⟩
    rw [show its.toArray.any (eqF H dx) = its.any (eqF H dx) by simp, any_eqF hd r]
    exact q
theorem op_notInD (hu : X.A.units + 100 < cLine) : OpR X (compareOp .NotIn) (rInD true) := by
  intro pins s σ H x y v u Q I rx ry h
  obtain ⟨dx, ds, hx, hy, hdp, q⟩ := h
  have he : ∀ {xs : List V} {its : List Value}, Dats H ds xs → Vals xs its → ∀ w, w ∈ its.toArray → SeqAt.EqAt X.A.in1 s w v (eqF H dx w) := fun hd r w hw => by
    obtain ⟨d, z, hm, rz, hz⟩ := mem_dats hd r w (by simpa using hw)
    rw [eqF_eq rz hz]
    exact (eqAt_D I 90 d dx z x w v X.A.in1 (Nat.le_trans (dep_mem hm) hdp) (by show X.A.units + 1 + 90 < cLine; omega) hz hx rz rx).2.1
  rcases hy with hy | hy
  · simp only [Dat] at hy
    obtain ⟨a, xs, rfl, ha, hd⟩ := hy
    cases ry
    obtain ⟨its, r, pl, _⟩ := I.list (SqL.of ha)
    refine SeqAt.notIn_listAt (eqF H dx) pl.isList (he hd r) ⟨.bl _, H, I, rfl, ?_⟩
    rw [show its.toArray.any (eqF H dx) = its.any (eqF H dx) by simp, any_eqF hd r]
    exact q
  · simp only [Dat] at hy
    obtain ⟨a, xs, rfl, ha, hd⟩ := hy
    cases ry
    obtain ⟨its, r, pl, _⟩ := I.tuple (SqT.of ha)
    refine SeqAt.notIn_tupleAt (eqF H dx) pl (he hd r) ⟨.bl _, H, I, rfl, ?_⟩
    rw [show its.toArray.any (eqF H dx) = its.any (eqF H dx) by simp, any_eqF hd r]
    exact q
theorem call_sumT (hc : X.calm = true) : CallR X (.builtin "sum") (fun xs H Q => ∃ (a : Addr) (ns : List Int), xs = [.ref a] ∧ SqT X.K H a (ns.map V.int) ∧ Q (.int ns.sum) H) := by
  intro pins s σ H xs us Q I r h
  obtain ⟨a, ns, rfl, hq, q⟩ := h
  obtain ⟨u, rfl, rx⟩ := vals1 r
  cases rx
  obtain ⟨its, rv, p, hz⟩ := I.tuple hq
  have hlt : a < s.heap.objs.size := by
    obtain ⟨o, ho, _⟩ := p
    exact Heap.lt_size ho
  have hlen : its.length = ns.length := by rw [← rv.length, List.length_map]
  have p' : s.heap.IsTuple a its.toArray := p
  refine call_sum_walkG (wpAny_pyIter_tuple p' ?_)
  refine ⟨s.heap.objs.size, _, _, _, _, _, fun i => ns.getD i 0, rfl, Walks.tuple (A := X.A.in1) (I.ok.hd hc) _ a (Nat.ne_of_lt hlt) _, ⟨⟨_, Heap.get?_push_size _ rfl, rfl, rfl⟩, p'.push _⟩, ?_, ?_, fun h' tk t' hk => ?_⟩
  · intro b hb
    show b < (s.heap.push _).objs.size
    rw [Heap.size_push]
    simp only [List.mem_cons, List.not_mem_nil, or_false] at hb
    rcases hb with e | e
    · rw [e]; exact Nat.lt_succ_self _
    · rw [e]; exact Nat.lt_succ_of_lt hlt
  · intro i v hP
    exact vals_int_get rv i v (by simpa using hP)
  · refine ⟨.int ns.sum, H, I.kept (t' := tk) fun b o e => hk b o (fun hm => ?_) (Heap.get?_push_of_some _ e), ⟨t', ?_⟩, q⟩
    · have : b = s.heap.objs.size := by simpa using hm
      exact absurd (this ▸ Heap.lt_size e) (Nat.lt_irrefl _)
    · rw [List.size_toArray, hlen, preSum_eq ns _ (Nat.le_refl _), List.take_length]
end
end L2
set_option Elab.async false
set_option linter.all false
set_option autoImplicit false
set_option maxRecDepth 100000
set_option maxHeartbeats 1000000
namespace L2
open PySem PySem.Spec PyProof.Rows
mutual
def pyD : D → PyData
  | .non => .none
  | .bl b => .bool b
  | .int i => .int i
  | .str x => .str x
  | .tup ds => .tuple (pyDs ds)
  | .lst ds => .list (pyDs ds)
def pyDs : List D → List PyData
  | [] => []
  | d :: ds => pyD d :: pyDs ds
end
def repD (d : D) : Str := (pyD d).shown
section
variable {X : Cx} {pins : List (Addr × Obj)} {σ : St} {H : Hp} {s : Shared}
mutual
theorem reads_of (I : Inv X pins σ H s) : ∀ {d : D} {v : V} {u : Value}, Dat H d v → RelV v u → ∃ as, Reads s.heap u (pyD d) as
  | .non, v, u, h, r => by
    simp only [Dat] at h; subst h; cases r
    exact ⟨_, .none⟩
  | .bl b, v, u, h, r => by
    simp only [Dat] at h; subst h; cases r
    exact ⟨_, .bool b⟩
  | .int i, v, u, h, r => by
    simp only [Dat] at h; subst h
    obtain ⟨t, rfl⟩ := r
    exact ⟨_, .int i t⟩
  | .str x, v, u, h, r => by
    simp only [Dat] at h; subst h
    obtain ⟨t, rfl⟩ := r
    exact ⟨_, .str x t⟩
  | .tup ds, v, u, h, r => by
    simp only [Dat] at h
    obtain ⟨a, xs, rfl, ha, hd⟩ := h
    cases r
    obtain ⟨its, rv, ⟨o, h1, h2, n, h3⟩, _⟩ := I.tuple (SqT.of ha)
    obtain ⟨as, hr⟩ := readsAll_of I hd rv
    exact ⟨_, .tuple h1 h2 h3 (by simpa using hr)⟩
  | .lst ds, v, u, h, r => by
    simp only [Dat] at h
    obtain ⟨a, xs, rfl, ha, hd⟩ := h
    cases r
    obtain ⟨its, rv, ⟨o, n, h1, h2, h3, h4⟩, _⟩ := I.list (SqL.of ha)
    obtain ⟨as, hr⟩ := readsAll_of I hd rv
    exact ⟨_, .list h1 h2 h4 (by simpa using hr)⟩
theorem readsAll_of (I : Inv X pins σ H s) : ∀ {ds : List D} {xs : List V} {us : List Value}, Dats H ds xs → Vals xs us → ∃ as, ReadsAll s.heap us (pyDs ds) as
  | [], xs, us, h, r => by
    simp only [Dats] at h; subst h; cases r
    exact ⟨_, .nil⟩
  | d :: ds, xs, us, h, r => by
    simp only [Dats] at h
    obtain ⟨x, xr, rfl, h1, h2⟩ := h
    cases r with
    | cons r1 r2 =>
      obtain ⟨as, a1⟩ := reads_of I h1 r1
      obtain ⟨bs, b1⟩ := readsAll_of I h2 r2
      exact ⟨_, .cons a1 b1⟩
end
end
mutual
def wt : D → Nat
  | .non => 4
  | .bl _ => 5
  | .int i => i.natAbs.log2 + 3
  | .str x => (reprText x).length
  | .tup ds => wts ds + 3
  | .lst ds => wts ds + 2
def wts : List D → Nat
  | [] => 0
  | d :: ds => wt d + 2 + wts ds
end
mutual
def fit : D → Bool
  | .int i => decide (i.natAbs.log2 < 1920)
  | .tup ds => fits ds
  | .lst ds => fits ds
  | _ => true
def fits : List D → Bool
  | [] => true
  | d :: ds => fit d && fits ds
end
mutual
theorem fit_show : ∀ {d : D}, fit d = true → (pyD d).showable = true
  | .non, h => rfl
  | .bl b, h => rfl
  | .int i, h => h
  | .str x, h => rfl
  | .tup ds, h => fits_show (ds := ds) (by simpa only [fit] using h)
  | .lst ds, h => fits_show (ds := ds) (by simpa only [fit] using h)
theorem fits_show : ∀ {ds : List D}, fits ds = true → PyData.showableAll (pyDs ds) = true
  | [], h => rfl
  | d :: ds, h => by
    simp only [fits, Bool.and_eq_true] at h
    simp only [pyDs, PyData.showableAll, Bool.and_eq_true]
    exact ⟨fit_show h.1, fits_show h.2⟩
end
mutual
theorem no_dict : ∀ (d : D), (pyD d).hasDict = false
  | .non => rfl
  | .bl b => rfl
  | .int i => rfl
  | .str x => rfl
  | .tup ds => no_dicts ds
  | .lst ds => no_dicts ds
theorem no_dicts : ∀ (ds : List D), PyData.hasDictAll (pyDs ds) = false
  | [] => rfl
  | d :: ds => by simp only [pyDs, PyData.hasDictAll, no_dict d, no_dicts ds, Bool.or_self]
end
mutual
theorem dep_py : ∀ (d : D), (pyD d).depth = dep d
  | .non => by simp [pyD, PyData.depth, dep]
  | .bl b => by simp [pyD, PyData.depth, dep]
  | .int i => by simp [pyD, PyData.depth, dep]
  | .str x => by simp [pyD, PyData.depth, dep]
  | .tup ds => by simp only [pyD, PyData.depth, dep, deps_py ds]
  | .lst ds => by simp only [pyD, PyData.depth, dep, deps_py ds]
theorem deps_py : ∀ (ds : List D), PyData.depthAll (pyDs ds) = deps ds
  | [] => by simp [pyDs, PyData.depthAll, deps]
  | d :: ds => by simp only [pyDs, PyData.depthAll, deps, dep_py d, deps_py ds]
end
theorem textFrom_le : ∀ (ts : List Str) (k : Nat) (acc : Str), (textFrom k acc ts).length ≤ acc.length + (ts.map fun t => t.length + 2).sum
  | [], k, acc => by simp [textFrom]
  | t :: ts, k, acc => by
    have ih := textFrom_le ts (k + 1) (acc ++ (if k > 0 then ", " else "" : String) ++ t)
    have e : (acc ++ (if k > 0 then ", " else "" : String) ++ t).length ≤ acc.length + 2 + t.length := by
      rw [strLen_append, strLen_append]
      have : (((if k > 0 then ", " else "" : String) : Str)).length ≤ 2 := by split <;> decide
      omega
    simp only [textFrom, List.map_cons, List.sum_cons]
    omega
theorem joinS_le : ∀ ts : List Str, (Str.join ", " ts).length ≤ (ts.map fun t => t.length + 2).sum
  | [] => by simp [Str.join]; decide
  | [x] => by
    show x.length ≤ _
    simp
  | x :: y :: r => by
    have ih := joinS_le (y :: r)
    show (x ++ ", " ++ Str.join ", " (y :: r)).length ≤ _
    rw [strLen_append, strLen_append]
    have e2 : ((", " : String) : Str).length = 2 := rfl
    simp only [List.map_cons, List.sum_cons] at ih ⊢
    omega
theorem int_len (i : Int) : ((toString i : String) : Str).length ≤ i.natAbs.log2 + 3 := by
  have h := int_text_length_le (a := i) (k := i.natAbs.log2 + 1) (Nat.succ_pos _) (Nat.lt_succ_self _)
  rw [show ((toString i : String) : Str).length = (toString i).length from PySem.ofString_length _]
  omega
mutual
theorem wt_le : ∀ (d : D), (pyD d).shown.length ≤ wt d
  | .non => by show (("None" : String) : Str).length ≤ 4; decide
  | .bl b => by cases b <;> (show (_ : Str).length ≤ 5) <;> decide
  | .int i => int_len i
  | .str x => Nat.le_refl _
  | .tup ds => by
    have h := wts_le ds
    show (tupleText (PyData.shownAll (pyDs ds))).length ≤ wts ds + 3
    unfold tupleText
    rw [strLen_append, strLen_append]
    have h1 := joinS_le (PyData.shownAll (pyDs ds))
    have h2 : (("(" : String) : Str).length = 1 := rfl
    have h3 : (((if (PyData.shownAll (pyDs ds)).length == 1 then ",)" else ")" : String)) : Str).length ≤ 2 := by split <;> decide
    omega
  | .lst ds => by
    have h := wts_le ds
    show (listText (PyData.shownAll (pyDs ds))).length ≤ wts ds + 2
    unfold listText
    rw [strLen_append]
    have h1 := textFrom_le (PyData.shownAll (pyDs ds)) 0 "["
    have h2 : (("[" : String) : Str).length = 1 := rfl
    have h3 : (("]" : String) : Str).length = 1 := rfl
    omega
theorem wts_le : ∀ (ds : List D), ((PyData.shownAll (pyDs ds)).map fun t => t.length + 2).sum ≤ wts ds
  | [] => by simp [pyDs, PyData.shownAll, wts]
  | d :: ds => by
    have h1 := wt_le d
    have h2 := wts_le ds
    simp only [pyDs, PyData.shownAll, List.map_cons, List.sum_cons, wts]
    omega
end
section
variable {X : Cx}
theorem call_reprD (hg : X.A.guards = some []) (hu : X.A.units + 100 < cLine) : CallR X (.builtin "repr") (fun xs H Q => ∃ (a : Addr) (d : D), xs = [.ref a] ∧ Dat H d (.ref a) ∧ dep d ≤ 90 ∧ fit d = true ∧ wt d ≤ 1000000 ∧ Q (.str (repD d)) H) := by
  intro pins s σ H xs us Q I r h
  obtain ⟨a, d, rfl, hd, hdp, hf, hw, q⟩ := h
  obtain ⟨u, rfl, rx⟩ := vals1 r
  have ru := rx
  cases rx
  obtain ⟨as, hr⟩ := reads_of I hd ru
  refine repr_of_reads' hr (fit_show hf) (fun z => by rw [no_dict] at z; cases z) hg (by rw [dep_py]; omega) (fun _ _ e => e) (fun h' t tk hk => ?_) (Nat.le_trans (wt_le d) (Nat.le_trans hw (by decide)))
  exact ⟨.str (repD d), H, I.kept (t' := tk) hk, ⟨t, rfl⟩, q⟩
end
end L2
set_option Elab.async false
set_option linter.all false
set_option autoImplicit false
set_option maxRecDepth 100000
set_option maxHeartbeats 1000000
namespace L2
open PySem PySem.Spec PyProof.Rows
section
variable {prog : Program} {w : World} {A : Around} {E : Value → Shared → Prop}
theorem drawL {it a : Addr} {vs : Array Value} (ha : a ≠ it) (n : Nat) : ∀ (i : Nat) (s : Shared) (Q : List Value → Shared → Prop), s.heap.IsListIter it a i → s.heap.IsList a vs → i + n ≤ vs.size →
    (∀ h', h'.IsListIter it a (i + n) → Heap.SameBut it s.heap h' → Q ((vs.toList.drop i).take n) { s with heap := h' }) → wpAny (model prog w) A (draw (.ref it) n) Q E s := by
  induction n with
  | zero =>
    intro i s Q st ls le q
    refine wpAny_pure ?_
    have := q s.heap st (Heap.SameBut.refl ..)
    simpa using this
  | succ n ih =>
    intro i s Q st ls le q
    have lt : i < vs.size := by omega
    refine wpAny_bind (m := pyNext (.ref it)) (wpAny_pyNext_list_item st ls (x := vs[i]) (by simp [lt]) fun h1 st1 sb1 => ?_)
    refine wpAny_bind (wpAny_holding (ih (i + 1) _ _ st1 (ls.extBut sb1.extBut ha) (by omega) fun h2 st2 sb2 => wpAny_pure ?_))
    have e1 : vs.toList.drop i = vs[i] :: vs.toList.drop (i + 1) := by simp [List.drop_eq_getElem_cons, lt]
    have q2 := q h2 (by rw [← Nat.add_assoc, Nat.add_right_comm]; exact st2) (sb1.trans sb2)
    rwa [e1, List.take_succ_cons] at q2
theorem unpackL {a : Addr} {vs : Array Value} {s : Shared} {Q : List Value → Shared → Prop} (hh : A.handled = none) (ls : s.heap.IsList a vs)
    (q : ∀ h', Heap.ExtBut s.heap.objs.size s.heap h' → Q vs.toList { s with heap := h' }) : wpAny (model prog w) A (unpackItems (.ref a) vs.size none) Q E s := by
  have ne : a ≠ s.heap.objs.size := by
    obtain ⟨o, ho, _⟩ := ls
    exact Nat.ne_of_lt (Heap.lt_size ho)
  unfold unpackItems notIterableAtAll
  refine wpAny_bind (wpAny_bind (wpAny_specialOf ls.typeIs PySem.F.slot_list_iter.lookup (wpAny_pure ?_)))
  simp only [Option.isNone_some, Bool.false_eq_true, if_false]
  refine wpAny_bind (wpAny_holding (wpAny_pyIter_list ls (wpAny_bind (wpAny_holding (drawL ne vs.size 0 _ _ ⟨_, Heap.get?_push_size _ rfl, rfl, rfl⟩ (ls.push _) (by omega) fun h1 st1 sb1 => ?_)))))
  have eall : List.take vs.size (List.drop 0 vs.toList) = vs.toList := by rw [List.drop_zero, List.take_of_length_le (by simp)]
  rw [eall, if_neg (by simp)]
  refine wpAny_bind (wpAny_holding (wpAny_pyNext_list_end hh st1 ((ls.push _).extBut sb1.extBut ne) (by simp) fun h2 eb => ?_))
  simp only [Option.isSome_none, Bool.false_eq_true, if_false]
  exact wpAny_pure (q h2 fun b o hb e => eb b o hb (sb1.extBut b o hb (Heap.get?_push_of_some _ e)))
end
section
variable {X : Cx} {pos : Pos}
def gLst (K : PySem.W.Frag) (n : Nat) (t : TGs) : TG := fun v σ H Q => ∃ a xs, v = .ref a ∧ SqL K H a xs ∧ xs.length = n ∧ t xs σ H Q
theorem pg_lst {es : List Expr} {k : Nat} {t : TGs} {n : Nat} (hc : X.calm = true) (h : PGs X es t)
    (hn : (assignEach es X.env).length = n := by rfl) (hst : (assignEach es X.env).findIdx? (·.1) = none := by rfl) : PG X (.Tuple es k pos) (gLst X.K n t) := by
  intro pins s σ H v u Q I r hw
  obtain ⟨a, xs, e1, hq, hl, hw⟩ := hw
  subst e1
  cases r
  obtain ⟨its, rv, ht, hz⟩ := I.list hq
  have hlen : (assignEach es X.env).length = its.toArray.size := by simp [hn, ← hl, rv.length]
  rw [assign_Tuple]
  refine wpAny_bind (wpAny_standAt ?_)
  unfold unpack
  rw [hlen, hst]
  refine wpAny_bind (wpAny_holding (unpackL (I.ok.hd hc) ht.isList fun h' hx => ?_))
  have I1 : Inv X pins σ H { s with heap := h' } := I.kept (t' := s.toks) fun b o e => hx b o (Nat.ne_of_lt (Heap.lt_size e)) e
  exact h pins _ σ H xs _ Q I1 (by simpa using rv) hw
end
end L2
set_option Elab.async false
set_option linter.all false
set_option autoImplicit false
set_option maxRecDepth 100000
set_option maxHeartbeats 1000000
namespace L2
open PySem PySem.Spec PyProof.Rows
section
variable {X : Cx}
theorem pa_consT {es fs x1 pos te t} (ha : PE X (.Tuple fs x1 pos) te) (hr : PA X es t) : PA X (.Tuple fs x1 pos :: es) (tCons te t) := pa_cons ha hr (by rfl)
theorem pa_consL {es fs pos te t} (ha : PE X (.List fs pos) te) (hr : PA X es t) : PA X (.List fs pos :: es) (tCons te t) := pa_cons ha hr (by rfl)
theorem pa_consC {es c j pos te t} (ha : PE X (.Constant c j pos) te) (hr : PA X es t) : PA X (.Constant c j pos :: es) (tCons te t) := pa_cons ha hr (by rfl)
end
end L2
set_option Elab.async false
set_option linter.all false
set_option autoImplicit false
set_option maxRecDepth 100000
set_option maxHeartbeats 1000000
namespace L2
open PySem PySem.Spec PySem.Calls PyProof.Rows
def Frz (H H' : Hp) : Prop := ∀ b o u, H b = some (.frz o u) → H' b = some (.frz o u)
theorem Frz.refl (H : Hp) : Frz H H := fun _ _ _ h => h
theorem Frz.trans {H H1 H2 : Hp} (a : Frz H H1) (b : Frz H1 H2) : Frz H H2 := fun c o u h => b c o u (a c o u h)
theorem Same.frz {H H' : Hp} (h : Same H H') : Frz H H' := fun b o u e => h b _ e
def LamAt (H : Hp) (f : Addr) (q : Str) (params : Arguments) (body : Expr) (scope : Scope) (clos : List (Str × Addr)) : Prop :=
  ∃ (pm : Value) (c : Addr) (ctv : Value) (oc : Obj) (vs : Array Value) (t : Tok) (u u' : HO), H f = some (.frz (PySem.W.kla_obj "<lambda>" q params body scope clos pm c ctv) u) ∧ H c = some (.frz oc u') ∧ oc.data = .fields vs ∧ vs[1]? = some (.str q t)
theorem LamAt.frz {H H' : Hp} {f : Addr} {q : Str} {params : Arguments} {body : Expr} {scope : Scope} {clos : List (Str × Addr)} (x : LamAt H f q params body scope clos) (k : Frz H H') : LamAt H' f q params body scope clos :=
  let ⟨pm, c, ctv, oc, vs, t, u, u', h1, h2, r⟩ := x; ⟨pm, c, ctv, oc, vs, t, u, u', k _ _ _ h1, k _ _ _ h2, r⟩
def hdIn (K : PySem.W.Frag) (c P : Addr) : Bool := match K.lookup c with
  | some o => (o.cls == .type "code") && c != P && (match o.data with
    | .fields vs => (vs[11]? == some (.ref P)) && (match vs.getD 18 .none, vs.getD 7 .none, vs.getD 9 .none, vs.getD 10 .none with
      | .str _ _, .int _ _, .bool _, .int _ _ => true
      | _, _, _, _ => false)
    | _ => false)
  | none => false
theorem codeHd_of {K : PySem.W.Frag} {h : Heap} {c P : Addr} (X : K.In h) (e : hdIn K c P = true) : PySem.W.CodeHd h c P := by
  unfold hdIn at e
  cases q : K.lookup c with
  | none => rw [q] at e; cases e
  | some o =>
    rw [q] at e
    simp only [Bool.and_eq_true] at e
    obtain ⟨⟨e1, e2⟩, e3⟩ := e
    cases d : o.data with
    | fields vs =>
      rw [d] at e3
      simp only [Bool.and_eq_true] at e3
      obtain ⟨e4, e5⟩ := e3
      have e4' : vs[11]? = some (.ref P) := eq_of_beq e4
      split at e5
      · rename_i f tf g tg b x tt h18 h7 h9 h10
        refine ⟨o, vs, f, tf, g, tg, b, x, tt, X _ _ q, eq_of_beq e1, d, e4', ?_, h18, h7, h9, h10, by simpa using e2⟩
        simp [Array.getD_eq_getD_getElem?, e4']
      · cases e5
    | _ => rw [d] at e3; cases e3
theorem among_snoc {pos : Pos} {a b : Int} {c cv : Value} (l : List Value) (h : TriplesOk l) (e : codeAmong pos (l ++ [rawInt a, rawInt b, c]) = some cv) : codeAmong pos l = some cv ∨ cv = c := by
  fun_induction TriplesOk l with
  | case1 =>
    simp only [List.nil_append, rawInt, codeAmong] at e
    split at e
    · exact .inr (Option.some.inj e).symm
    · cases e
  | case2 a' t b' u x rest ih =>
    simp only [List.cons_append, codeAmong] at e ⊢
    split at e
    · rename_i hc
      rw [if_pos hc]
      exact .inl e
    · rename_i hc
      rw [if_neg hc]
      exact ih h e
  | case3 l h1 h2 => exact h.elim
section
variable {P : Program} {w : World} {H H' : Hp} {h h' : Heap} {p : Addr} {ps : Array Value}
theorem Un.lam {fs : List Addr} (hok : HOk P w H h) (hP : H p = some (.tbl ps)) (k : ∀ b o, b ≠ p → h.get? b = some o → h'.get? b = some o) (hp' : ∃ o, h'.get? p = some o) (same : ∀ b, b < h.objs.size → H' b = H b) : Un fs [] H H' h h' := by
  have ne : ∀ b, H b = none → b ≠ p := fun b n z => by rw [z, hP] at n; cases n
  refine ⟨fun b o q n _ _ => k b o (ne b n) q, fun b o q n _ _ => ⟨o.slots, k b o (ne b n) q⟩, fun b o q n _ => (same b (Heap.lt_size q)).trans n, fun b o q _ => ?_, fun b xs q => (same b (hok.lt q)).trans q, fun b o u q => (same b (hok.lt q)).trans q, fun b xs q => ⟨#[], ?_⟩⟩
  · by_cases hb : b = p
    · rw [hb]; exact hp'
    · exact ⟨o, k b o hb q⟩
  · rw [(same b (hok.lt q)).trans q]; simp
theorem HOk.lam (hok : HOk P w H h) (hP : H p = some (.tbl ps)) (k : ∀ b o, b ≠ p → h.get? b = some o → h'.get? b = some o) (same : ∀ b, b < h.objs.size → H' b = H b)
    (newP : ObjOk P w H' h' p (.tbl ps)) (new : ∀ b u, h.objs.size ≤ b → H' b = some u → ObjOk P w H' h' b u) : HOk P w H' h' := fun b u e => by
  rcases Nat.lt_or_ge b h.objs.size with hb | hb
  · rw [same b hb] at e
    by_cases hp : b = p
    · subst hp
      rw [hP] at e; cases e
      exact newP
    · refine (hok b u e).stay (fun c v hc q => k c v ?_ q) (fun c q => (same c (hok.lt q)).trans q) (fun c xs q => (same c (hok.lt q)).trans q) fun c o u q => (same c (hok.lt q)).trans q
      rcases hc with rfl | hc
      · exact hp
      · rintro rfl
        rw [hP] at hc; cases hc
  · exact new b u hb e
end
def tLam (q : Str) (args : Arguments) (body : Expr) (scope : Scope) (clos : List (Str × Addr)) : TE := fun _ H Q => ∀ f H', Same H H' → H f = none → LamAt H' f q args body scope clos → Q (.ref f) H'
section
variable {X : Cx} {args : Arguments} {body : Expr} {scope : Scope} {pos : Pos} {x : Str} {c p : Addr} {clos : List (Str × Addr)}
theorem pe_lam (hcode : X.env.code = .ref c) (hq : X.env.qual = x ++ ".<locals>.") (hm : (x, c, p) ∈ tabL X.K) (hh : hdIn X.K c p = true) (hcl : closureFor scope X.env = pure clos) (hdef : defaultsOf args X.env = ([], []) := by rfl) :
    PE X (.Lambda args body scope pos) (tLam (x ++ ".<locals>." ++ "<lambda>") args body scope clos) := .mk <| by
  intro pins s σ H Q I h
  refine PySem.W.kla_eval hdef ?_
  rw [hq]
  obtain ⟨ps, eP, z0⟩ := (I.ok.tt.mono I.base.tbls) _ hm
  obtain ⟨qs, hP, tr, codes⟩ := I.hok _ _ eP
  dsimp only at eP z0 hP
  have C : PySem.W.CodeHd s.heap c p := (codeHd_of I.ok.mod.kin hh).keeps I.bk
  have hg : s.heap.Ns mainGlobals X.mg := I.ok.mod.glob.keeps I.bk
  obtain ⟨bm, ob, b1, b2, b3, b4, b5, b6⟩ := I.ok.mod.bm
  have hgP : mainGlobals ≠ p := fun q => by
    obtain ⟨o, es, ep, e, hd, _⟩ := hg
    rw [q, hP] at e; cases e; cases hd
  have hbP : bm ≠ p := fun q => by
    have e := I.bk _ _ b3
    rw [q, hP] at e; cases e; cases b4
  have hbG : bm ≠ mainGlobals := fun q => by
    obtain ⟨o, es, ep, e, hd, _⟩ := I.ok.mod.glob
    rw [q, e] at b3; cases b3; rw [hd] at b6; cases b6
  have hB : s.heap.BuiltinsAt X.mg p := ⟨bm, ob, b1, b2, hbG, hbP, I.bk _ _ b3, b4, b5, b6⟩
  have hps : p < s.heap.objs.size := Heap.lt_size hP
  cases e : codeAmong pos qs.toList with
  | none =>
    refine PySem.W.kla_makeFunction (mg := X.mg) hcl I.ok.glob hg hcode C hP tr e hgP hB fun c' ctv h' tk hx hge hlt hrec htb => ?_
    obtain ⟨c₂, oc, vs, t, e2, hoc, hd, hv⟩ := hrec
    cases e2
    have hps' : p < h'.objs.size := Heap.lt_size htb
    let H' : Hp := upd (upd H c' (.frz oc (.own p))) h'.objs.size (.frz (PySem.W.kla_obj "<lambda>" (x ++ ".<locals>." ++ "<lambda>") args body scope clos ((X.mg "__name__").getD .none) c' ctv) (.own h'.objs.size))
    have ef : H' h'.objs.size = some (.frz (PySem.W.kla_obj "<lambda>" (x ++ ".<locals>." ++ "<lambda>") args body scope clos ((X.mg "__name__").getD .none) c' ctv) (.own h'.objs.size)) := upd_same
    have ec : H' c' = some (.frz oc (.own p)) := (upd_ne (Nat.ne_of_lt hlt)).trans upd_same
    have same : ∀ b, b < s.heap.objs.size → H' b = H b := fun b hb => by
      have h1 : b ≠ h'.objs.size := Nat.ne_of_lt (Nat.lt_trans (Nat.lt_of_lt_of_le hb hge) hlt)
      have h2 : b ≠ c' := Nat.ne_of_lt (Nat.lt_of_lt_of_le hb hge)
      exact (upd_ne h1).trans (upd_ne h2)
    have k : ∀ b o, b ≠ p → s.heap.get? b = some o → (h'.push (PySem.W.kla_obj "<lambda>" (x ++ ".<locals>." ++ "<lambda>") args body scope clos ((X.mg "__name__").getD .none) c' ctv)).get? b = some o := fun b o n q => Heap.get?_push_of_some _ (hx b o n q)
    have htb' := Heap.get?_push_of_some (PySem.W.kla_obj "<lambda>" (x ++ ".<locals>." ++ "<lambda>") args body scope clos ((X.mg "__name__").getD .none) c' ctv) htb
    refine ⟨.ref h'.objs.size, H', I.un (Un.lam I.hok eP k ⟨_, htb'⟩ same) (I.hok.lam eP k same ⟨_, htb', ?_, ?_⟩ ?_), rfl, h _ _ (fun b o q => (same b (I.hok.lt q)).trans q) (I.hok.fresh (Nat.le_trans hge (Nat.le_of_lt hlt))) ⟨_, c', ctv, oc, vs, t, _, _, ef, ec, hd, hv⟩⟩
    · rw [Array.toList_append]
      exact TriplesOk_snoc _ _ _ _ tr
    · intro pos' cv q
      rw [Array.toList_append] at q
      rcases among_snoc _ tr q with q | rfl
      · obtain ⟨c1, o1, v1, t1, q1, a1, a2, a3, a4, a5⟩ := codes pos' cv q
        exact ⟨c1, o1, v1, t1, q1, a1, (same c1 (I.hok.lt a2)).trans a2, a3, a4, a5⟩
      · exact ⟨c', oc, vs, t, _, rfl, ec, hd, hv, z0⟩
    · intro b u hb q
      by_cases hbf : b = h'.objs.size
      · subst hbf
        rw [ef] at q; cases q
        exact ⟨Heap.get?_push_size _ rfl, _, Heap.get?_push_size _ rfl⟩
      · have q' : upd H c' (.frz oc (.own p)) b = some u := (upd_ne hbf).symm.trans q
        by_cases hbc : b = c'
        · subst hbc
          rw [upd_same] at q'; cases q'
          exact ⟨Heap.get?_push_of_some _ hoc, _, Heap.get?_push_of_some _ hoc⟩
        · rw [upd_ne hbc, I.hok.fresh hb] at q'; cases q'
  | some cv =>
    obtain ⟨c', oc, vs, t, q, rfl, ec, hd, hv, hq0⟩ := codes pos cv e
    have hqq : q = x ++ ".<locals>." ++ "<lambda>" := by
      rw [hq0] at z0
      injection z0 with z0
      injection z0
    subst hqq
    refine PySem.W.kla_makeFunctionHit (mg := X.mg) hcl I.ok.glob hg hcode C hP tr e hB fun ctv h' tk hk hsz => ?_
    have hne : ∀ b u, H b = some u → b ≠ h'.objs.size := fun b u q z => absurd (Nat.lt_of_lt_of_le (I.hok.lt q) hsz) (by rw [z]; exact Nat.lt_irrefl _)
    refine ⟨.ref h'.objs.size, upd H h'.objs.size (.frz (PySem.W.kla_obj "<lambda>" (x ++ ".<locals>." ++ "<lambda>") args body scope clos ((X.mg "__name__").getD .none) c' ctv) (.own h'.objs.size)), I.laid (fun b u q => Heap.get?_push_of_some _ (hk b u q)) hsz ?_, rfl, h _ _ (fun b o q => (upd_ne (hne b o q)).trans q) (I.hok.fresh hsz) ⟨_, c', ctv, oc, vs, t, _, _, upd_same, (upd_ne (hne _ _ ec)).trans ec, hd, hv⟩⟩
    exact ⟨Heap.get?_push_size _ rfl, _, Heap.get?_push_size _ rfl⟩
end
end L2
set_option Elab.async false
set_option linter.all false
set_option autoImplicit false
set_option maxRecDepth 100000
set_option maxHeartbeats 1000000
namespace L2
open PySem PySem.Spec PySem.Calls PyProof.Rows
structure Clo (P : Program) (w : World) (K : PySem.W.Frag) (mg : Str → Option Value) (base : Heap) (H₀ : Hp) (k : Nat) (f : Addr) (n : Nat) (sp : Sp) : Prop where
  fn : (∃ (oc : Value) (od : Option Addr) (fd : FuncData) (sl : Array (Option Value)) (u : HO), H₀ f = some (.frz ⟨oc, od, .func fd, sl⟩ u)) ∨ ∃ (oc : Value) (od : Option Addr) (fd : FuncData) (sl : Array (Option Value)), K.lookup f = some ⟨oc, od, .func fd, sl⟩
  len : ∀ vs H Q E, sp vs H Q E → vs.length = n
  run : ∀ (A : Around) (outer : List Env) (s : Shared) (H : Hp) (us : List Value) (vs : List V) (Q : VK) (E : XK), Room k A → Env0 P w K mg base A outer s H → Frz H₀ H → Vals vs us → sp vs H Q E →
    codeAny (model P w) A (.call (.ref f) ⟨us, []⟩) (CR CX0 outer P w H s Q E) s
theorem Clo.mono {P : Program} {w : World} {K : PySem.W.Frag} {mg : Str → Option Value} {base : Heap} {H₀ H₁ : Hp} {j k : Nat} {f : Addr} {n : Nat} {sp : Sp} (C : Clo P w K mg base H₀ j f n sp) (h : Frz H₀ H₁) (hk : j ≤ k) : Clo P w K mg base H₁ k f n sp :=
  ⟨C.fn.imp (fun ⟨oc, od, fd, sl, u, e⟩ => ⟨oc, od, fd, sl, u, h _ _ _ e⟩) id, C.len, fun A outer s H us vs Q E hr he hf hv hs => C.run A outer s H us vs Q E (hr.mono hk) he (h.trans hf) hv hs⟩
theorem Clo.imp {P : Program} {w : World} {K : PySem.W.Frag} {mg : Str → Option Value} {base : Heap} {H₀ : Hp} {k : Nat} {f : Addr} {n : Nat} {sp sp' : Sp} (C : Clo P w K mg base H₀ k f n sp) (h : ∀ vs H Q E, sp' vs H Q E → sp vs H Q E) : Clo P w K mg base H₀ k f n sp' :=
  ⟨C.fn, fun vs H Q E q => C.len vs H Q E (h _ _ _ _ q), fun A outer s H us vs Q E hr he hf hv hs => C.run A outer s H us vs Q E hr he hf hv (h _ _ _ _ hs)⟩
section
variable {X : Cx} {k n i : Nat} {x : Str} {p pos : Pos} {e : Expr} {es : List Expr} {t : TA}
end
theorem Mod.mono {K : PySem.W.Frag} {mg : Str → Option Value} {b b' : Heap} (m : Mod K mg b) (k : ∀ a o, b.get? a = some o → b'.get? a = some o) : Mod K mg b' :=
  ⟨m.kin.keeps k, m.glob.keeps k, let ⟨mb, h1, h2⟩ := m.blt; ⟨mb, h1.keeps k, h2⟩, m.nolimit.keeps k, let ⟨bm, ob, h1, h2, h3, r⟩ := m.bm; ⟨bm, ob, h1, h2, k _ _ h3, r⟩⟩
def CellB (X : Cx) (σ : St) (b : Heap) : Prop := ∀ (i : Nat) (x : Str) (v : V), X.N[i]? = some x → σ[i]? = some (some v) → X.env.scope.names.lookup x = some .cell → X.fn x = true → ∃ c u, X.env.cells.lookup x = some c ∧ b.IsCell c (some u) ∧ RelV v u
theorem frames_grow {h b b' : Heap} : ∀ {l : List Env}, h.FunFrames b l → (∀ a ∈ frs l, b'.get? a = none) → h.FunFrames b' l
  | [], _, _ => trivial
  | env :: r, x, k => by
    obtain ⟨hk, ⟨L, o, hf, hn, ho, hd⟩, hr⟩ := x
    have hL : L ∈ frs (env :: r) := by unfold frs; rw [List.filterMap_cons, hf]; exact List.mem_cons_self
    refine ⟨hk, ⟨L, o, hf, k L hL, ho, hd⟩, frames_grow hr fun a ha => k a ?_⟩
    unfold frs at ha ⊢
    rw [List.filterMap_cons, hf]
    exact List.mem_cons_of_mem _ ha
theorem Inv.grow {X : Cx} {pins : List (Addr × Obj)} {σ : St} {H : Hp} {s : Shared} (I : Inv X pins σ H s) :
    ∃ b', (∀ a o, X.base.get? a = some o → b'.get? a = some o) ∧ Env0 X.prog X.w X.K X.mg b' X.A X.stack s H ∧ CellB X σ b' := by
  have keep : ∀ a o, s.heap.get? a = some o → H a = none → a ∉ frs X.stack → (PySem.W.hideAll s.heap (trk s.heap H ++ frs X.stack)).get? a = some o := fun a o e n hf => PySem.W.hideAll_get _ e fun hm => by
    rcases List.mem_append.mp hm with z | z
    · have q : (H a).isSome = true := (List.mem_filter.mp z).2
      rw [n] at q; simp at q
    · exact hf z
  have sub : ∀ a o, X.base.get? a = some o → (PySem.W.hideAll s.heap (trk s.heap H ++ frs X.stack)).get? a = some o := fun a o e => keep a o (I.bs a o e).1 (I.bs a o e).2 fun hm => by
    have := (I.stack.mem hm).1
    rw [e] at this; cases this
  have e0 := I.env0
  refine ⟨PySem.W.hideAll s.heap (trk s.heap H ++ frs X.stack), sub, ⟨e0.frames, e0.mod.mono sub, fun a o e => ⟨PySem.W.of_hideAll _ e, ?_⟩, Nat.le_of_eq (PySem.W.hideAll_size _ _), frames_grow e0.funs fun a ha => PySem.W.hideAll_none _ (List.mem_append_right _ ha), e0.frf, e0.tt, e0.hok, e0.bare⟩, ?_⟩
  · cases q : H a with
    | none => rfl
    | some u =>
      have hm : a ∈ trk s.heap H := List.mem_filter.mpr ⟨List.mem_range.mpr (I.hok.lt q), by simp [q]⟩
      rw [PySem.W.hideAll_none _ (List.mem_append_left _ hm)] at e; cases e
  · intro i x v h1 h2 h3 h4
    obtain ⟨m, hn, hl⟩ := I.loc
    obtain ⟨u, r, l⟩ := hl i x v h1 h2 (.inr (.inl h3))
    rcases l with ⟨k, _⟩ | ⟨_, c, hc, o, ho, hd⟩
    · have k' : X.env.scope.names.lookup x = some .local := k
      rw [h3] at k'; cases k'
    · refine ⟨c, u, hc, ⟨o, keep c o ho (I.freeC x c hc) fun hm => ?_, hd⟩, r⟩
      rcases List.mem_cons.mp (I.stkSub c hm) with z | z
      · exact I.cne x c hc z
      · obtain ⟨_, o', ho', _⟩ := I.ok.funs.mem z
        exact absurd (Nat.lt_of_lt_of_le (Heap.lt_size ho') (I.ok.cab x c h4 hc)) (Nat.lt_irrefl _)
def tCallC (X : Cx) (spf : Heap → Sp) (t : TA) : TE := fun σ H Q => t σ H fun vs H1 => ∀ b', (∀ a o, X.base.get? a = some o → b'.get? a = some o) → CellB X σ b' → spf b' vs H1 Q E0
section
variable {X : Cx} {k : Nat} {f : Addr} {fd : FuncData} {ps : List Str} {x : Str} {p pos : Pos} {e : Expr} {es : List Expr} {t : TA} {spf : Heap → Sp}
theorem pe_callC (F : ∀ b', FnOk X.prog X.w X.K X.mg b' CX0 k f fd ps (spf b')) (hr : Room k X.A) (hg : Gl X x) (hm : X.mg x = some (.ref f)) (hk : PySem.W.keepIn X.K (.ref f) = true) (hb : Binds X.K fd ps [])
    (ha : PA X (e :: es) t) (hdb : (x == ("__debug__" : Str)) = false := by decide) (he : starEach (e :: es) X.env = (false, eval e X.env) :: starEach es X.env := by rfl) (hpl : (backTo pos (starEach es X.env)).any (·.1) = false := by rfl) :
    PE X (.Call (.Name x p) (e :: es) [] pos) (tCallC X spf t) := .mk <| by
  intro pins s σ H Q I h
  refine wpAny_Call_Name_kw (ld_glob I hg hm ?_ hdb)
  refine PySem.W.callWith_K (h₀ := X.base) I.ok.mod.kin hk (thn (ha pos pins s σ H _ I h) fun us s1 ⟨vs, H1, I1, r, q⟩ => ⟨I1.kIn, ?_⟩) he hpl
  obtain ⟨b', sub, e0, cb⟩ := I1.grow
  have q := q b' sub cb
  have hl : (us ++ []).length = ps.length := by rw [List.append_nil, ← r.length]; exact (F b').len _ _ _ _ q
  have hbb := hb s1 us I1.kIn hl
  rw [List.append_nil] at hbb
  refine wpAny_call (codeAny_mono ((F b').run X.A X.stack s1 H1 ⟨us, []⟩ us vs Q E0 hr e0 hbb r q) fun r s' hq => ?_)
  cases r with
  | error e => exact False.elim hq
  | ok fl =>
    cases fl with
    | ret u => exact I1.after hq
    | next => exact False.elim hq
    | brk => exact False.elim hq
    | cont => exact False.elim hq
end
def cxLam (P : Program) (w : World) (K : PySem.W.Frag) (mg : Str → Option Value) (base : Heap) (N : List Str) (qual : Str) (scope : Scope) (f : Addr) (cd : Value) (cl : List (Str × Addr)) (A : Around) (outer : List Env) (s : Shared) (H : Hp) : Cx where
  prog := P
  w := w
  K := K
  mg := mg
  base := base
  A := A.deeper (PySem.W.envX qual scope s.heap.objs.size f cd cl)
  N := N
  s₀ := s
  H₀ := H
  env := PySem.W.envX qual scope s.heap.objs.size f cd cl
  outer := outer
  stack := PySem.W.envX qual scope s.heap.objs.size f cd cl :: outer
  ex := []
  calm := true
  fn := fun _ => false
  pn := []
  xe := fun _ _ => False
structure LamScope (ps cs : List Str) (sc : Scope) : Prop where
  kind : sc.kind = .function
  co : sc.isCoroutine = false
  gen : sc.isGenerator = false
  nd : (ps ++ cs).Nodup
  par : ∀ x ∈ ps, sc.names.lookup x = some .local
  free : ∀ x ∈ cs, sc.names.lookup x = some .free
  has : ∀ y ∈ sc.names, y.2 ≠ .cell ∧ (y.2 = .free → y.1 ∈ cs)
def CapOk (b : Heap) (cl : List (Str × Addr)) (cs : List Str) (caps : List V) : Prop := caps.length = cs.length ∧ (∀ x c, cl.lookup x = some c → x ∈ cs) ∧ (∀ x y c, cl.lookup x = some c → cl.lookup y = some c → x = y) ∧
  ∀ (j : Nat) (x : Str) (v : V), cs[j]? = some x → caps[j]? = some v → ∃ c u, cl.lookup x = some c ∧ b.IsCell c (some u) ∧ RelV v u
theorem zip_rev_lookup {α : Type} : ∀ {ps : List Str} {us : List α} {i : Nat} {x : Str} {u : α}, ps.Nodup → ps[i]? = some x → us[i]? = some u → (ps.zip us).reverse.lookup x = some u := by
  intro ps
  induction ps with
  | nil => intro us i x u _ h; simp at h
  | cons p ps ih =>
    intro us i x u nd h1 h2
    cases us with
    | nil => simp at h2
    | cons w us =>
      obtain ⟨n1, n2⟩ := List.nodup_cons.mp nd
      rw [List.zip_cons_cons, List.reverse_cons, List.lookup_append]
      cases i with
      | zero =>
        simp at h1 h2
        subst h1 h2
        have : (ps.zip us).reverse.lookup p = none := by
          rw [List.lookup_eq_none_iff]
          intro q hq
          rw [List.mem_reverse] at hq
          have := (List.of_mem_zip (a := q.1) (b := q.2) hq).1
          simp only [beq_eq_false_iff_ne, ne_eq, bne_iff_ne]
          intro z
          exact n1 (z ▸ this)
        rw [this]
        simp [List.lookup]
      | succ i =>
        rw [ih n2 (by simpa using h1) (by simpa using h2)]
        rfl
structure FunT (K : PySem.W.Frag) (x qual : Str) (st : Stmt) (f : Addr) (fd : FuncData) (c p : Addr) : Prop where
  ex : ∃ (oc : Value) (od : Option Addr) (kV doc pm : Value) (an : Option Addr) (ct : Value) (osl : Array (Option Value)),
    fd = PySem.W.fnOf x qual (defArgs st) (defBody st) (defScope st) .none kV doc pm an (.ref c) ct ∧ K.lookup f = some ⟨oc, od, .func fd, osl⟩ ∧ PySem.W.codeIn K (.ref c) qual = true
  tab : (x, c, p) ∈ tabL K
  hd : hdIn K c p = true
theorem FunT.ok {P : Program} {w : World} {K : PySem.W.Frag} {mg : Str → Option Value} {base : Heap} {x qual : Str} {st : Stmt} {f c p : Addr} {fd : FuncData} {N ps : List Str} {k : Nat} {sp : Sp} (F : FunT K x qual st f fd c p) (S : FnScope N ps (defScope st)) (len : ∀ vs H Q E, sp vs H Q E → vs.length = ps.length)
    (hbody : ∀ (A : Around) (outer : List Env) (s : Shared) (H : Hp) (vs : List V) (Q : VK) (E : XK), Room k (A.deeper (envOfC qual (defScope st) s.heap.objs.size f (.ref c))) → sp vs H Q E →
      ∃ t, PSs (cxOf CX0 P w K mg base N qual (defScope st) f (.ref c) A outer s H E).nox (defBody st) t ∧ t { nx := fun _ H' => Q .non H', rt := Q } (start N vs) H) : FnOk P w K mg base CX0 (k + 1) f fd ps sp := by
  obtain ⟨oc, od, kV, doc, pm, an, ct, osl, rfl, lk, hcd⟩ := F.ex
  refine fn_of lk hcd S len fun A outer s H vs Q E hr hsp => ?_
  obtain ⟨t, h, q⟩ := hbody A outer s H vs Q E hr hsp
  exact ⟨t, h.nox, q⟩
theorem funT_mk {K : PySem.W.Frag} {x qual : Str} {st : Stmt} {f c p : Addr} {oc : Value} {od an : Option Addr} {osl : Array (Option Value)} {kV doc pm cdv ct : Value} (l : K.lookup f = some ⟨oc, od, .func (PySem.W.fnOf x qual (defArgs st) (defBody st) (defScope st) .none kV doc pm an cdv ct), osl⟩)
    (hc : PySem.W.codeIn K cdv qual = true) (e : cdv = .ref c) (t : (tabL K).contains (x, c, p) = true) (h : hdIn K c p = true) : FunT K x qual st f (PySem.W.fnOf x qual (defArgs st) (defBody st) (defScope st) .none kV doc pm an cdv ct) c p := by
  subst e
  exact ⟨⟨oc, od, kV, doc, pm, an, ct, osl, rfl, l, hc⟩, by simpa using t, h⟩
end L2
set_option Elab.async false
set_option linter.all false
set_option autoImplicit false
set_option maxRecDepth 100000
set_option maxHeartbeats 1000000
namespace L2
open PySem PySem.Spec PySem.Calls PyProof.Rows
def ndB : List Nat → Bool
  | [] => true
  | a :: r => !(r.contains a) && ndB r
theorem find_nd {α : Type} (f : α → Nat) : ∀ {l : List α} {q : α}, ndB (l.map f) = true → q ∈ l → l.find? (fun t => f t == f q) = some q
  | [], _, _, m => nomatch m
  | a :: r, q, h, m => by
    rw [List.map_cons, ndB, Bool.and_eq_true] at h
    obtain ⟨h1, h2⟩ := h
    rcases List.mem_cons.mp m with e | m
    · subst e
      rw [List.find?_cons_of_pos (by simp)]
    · have ne : (f a == f q) = false := by
        cases z : f a == f q with
        | false => rfl
        | true =>
          have z' : f a = f q := eq_of_beq z
          have : (r.map f).contains (f a) = true := by
            rw [z']
            simpa using ⟨q, m, rfl⟩
          rw [this] at h1
          cases h1
      rw [List.find?_cons_of_neg (by rw [ne]; simp)]
      exact find_nd f h2 m
def tabH (K : PySem.W.Frag) (b : Addr) : Option HO := ((tabL K).find? fun t => t.2.2 == b).map fun t => HO.tbl #[.str (t.1 ++ ".<locals>." ++ "<lambda>") 0]
theorem tabH_mem {K : PySem.W.Frag} {b : Addr} {o : HO} (e : tabH K b = some o) : ∃ t ∈ tabL K, t.2.2 = b ∧ o = HO.tbl #[.str (t.1 ++ ".<locals>." ++ "<lambda>") 0] := by
  unfold tabH at e
  cases q : (tabL K).find? (fun t => t.2.2 == b) with
  | none => rw [q] at e; cases e
  | some t =>
    rw [q] at e
    cases e
    have := List.find?_some q
    exact ⟨t, List.mem_of_find?_eq_some q, eq_of_beq this, rfl⟩
def tabsOk (K : PySem.W.Frag) (names : List Str) : Bool := PySem.W.noTabs K && ndB ((tabL K).map fun t => t.2.2) && (tabL K).all fun t => names.contains t.1
theorem tabL_in {K : PySem.W.Frag} {t : Str × Addr × Addr} (h : t ∈ tabL K) : PySem.W.tabIn K t.1 = some t.2 := by
  unfold tabL at h
  split at h
  · obtain ⟨e, _, q⟩ := List.mem_filterMap.mp h
    split at q
    · rename_i x tk hx
      cases z : PySem.W.tabIn K x with
      | none => rw [z] at q; cases q
      | some r => rw [z] at q; cases q; exact z
    · cases q
  · cases h
theorem law_callT {P : Program} {w : World} {K : PySem.W.Frag} {mg mb : Str → Option Value} {CX : CXT} {k : Nat} {fa a : Addr} {fd : FuncData} {x : Str} {sp : Sp} {s₁ : Shared} {vs : List Value} {ns : List Int}
    (KX : K.In s₁.heap) (hns : s₁.heap.Ns mainGlobals mg) (hb : s₁.heap.Ns builtinsNs mb) (hbb : ∀ x : Str, x ≠ "__name__" → mb x = bootBuiltins x) (hlim : s₁.heap.NoLimit) (hg : s₁.gens = #[])
    (hbm : ∃ bm ob, mg "__builtins__" = some (.ref bm) ∧ bm ≠ builtinsNs ∧ s₁.heap.get? bm = some ob ∧ ob.cls = .type "module" ∧ ob.dict = some builtinsNs ∧ ob.data = .plain)
    (hT : ∀ t ∈ tabL K, PySem.W.CodeHd s₁.heap t.2.1 t.2.2 ∧ s₁.heap.get? t.2.2 = some (PySem.W.tabObj #[])) (nt : PySem.W.noTabs K = true) (nd : ndB ((tabL K).map fun t => t.2.2) = true)
    (ha : s₁.heap.get? a = some { cls := .type "list", data := .seq vs.toArray }) (hi : IntsAre vs ns) (hl : ns.length ≤ sizeLine) (hr : Room k callerA)
    (F : ∀ base : Heap, FnOk P w K mg base CX k fa fd [x] sp) (hbind : ∀ (s : Shared) (u : Value), BindsTo s fd ⟨[u], []⟩ [(x, u)])
    (hsp : ∀ H : Hp, SqL K H a (ns.map V.int) → sp [.ref a] H (fun v _ => v = .bl true) fun _ _ _ => False)
    (hCX : ∀ H e s', CX [] H s₁ (fun _ _ _ => False) e s' → False) :
    codeAny (model P w) callerA (.call (.ref fa) ⟨[.ref a], []⟩) (fun r s' => r = .ok (.ret (.bool true)) ∧ OldK s₁.heap s'.heap ∧ s'.os = s₁.os ∧ AllBare s'.gens) s₁ := by
  have rv := vals_ints hi
  have lenV := hi.length
  have tabNot : ∀ b o, K.lookup b = some o → tabH K b = none := fun b o e => by
    cases q : tabH K b with
    | none => rfl
    | some u =>
      obtain ⟨t, ht, rfl, _⟩ := tabH_mem q
      have e1 := (hT t ht).2
      rw [KX _ _ e] at e1
      cases e1
      have h2 := List.all_eq_true.mp nt _ (PySem.W.mem_of_lookupK e)
      exact absurd (show false = true from h2) Bool.false_ne_true
  have tabA : tabH K a = none := by
    cases q : tabH K a with
    | none => rfl
    | some u =>
      obtain ⟨t, ht, e, _⟩ := tabH_mem q
      have e1 := (hT t ht).2
      rw [e, ha] at e1
      cases e1
  have core : ∀ H : Hp, (∀ b, b ≠ a → H b = tabH K b) → (H a = none ∨ (K.lookup a = none ∧ H a = some (.frz { cls := .type "list", data := .seq vs.toArray } (.lst (ns.map V.int))))) → SqL K H a (ns.map V.int) →
      codeAny (model P w) callerA (.call (.ref fa) ⟨[.ref a], []⟩) (fun r s' => r = .ok (.ret (.bool true)) ∧ OldK s₁.heap s'.heap ∧ s'.os = s₁.os ∧ AllBare s'.gens) s₁ := by
    intro H hH hA hS
    have what : ∀ b u, H b = some u → (b = a ∧ K.lookup a = none ∧ u = .frz { cls := .type "list", data := .seq vs.toArray } (.lst (ns.map V.int))) ∨ ∃ t ∈ tabL K, t.2.2 = b ∧ u = HO.tbl #[.str (t.1 ++ ".<locals>." ++ "<lambda>") 0] := fun b u e => by
      by_cases hb : b = a
      · subst hb
        rcases hA with z | ⟨z1, z2⟩
        · rw [z] at e; cases e
        · rw [z2] at e; cases e
          exact .inl ⟨rfl, z1, rfl⟩
      · rw [hH b hb] at e
        exact .inr (tabH_mem e)
    have hok : HOk P w H s₁.heap := fun b u e => by
      rcases what b u e with ⟨rfl, _, rfl⟩ | ⟨t, ht, rfl, rfl⟩
      · exact ⟨ha, by rw [List.length_map]; exact hl, vs, _, rv, ha⟩
      · exact ⟨#[], (hT t ht).2, trivial, fun pos cv q => by cases q⟩
    have tt : TabT K H := fun t ht => by
      refine ⟨#[.str (t.1 ++ ".<locals>." ++ "<lambda>") 0], ?_, rfl⟩
      have ne : t.2.2 ≠ a := fun z => by
        have e1 := (hT t ht).2
        rw [z, ha] at e1
        cases e1
      rw [hH _ ne]
      unfold tabH
      rw [find_nd (fun t : Str × Addr × Addr => t.2.2) nd ht]
      rfl
    have base_of : ∀ {b : Addr} {o : Obj}, s₁.heap.get? b = some o → H b = none → (hidT s₁.heap H).get? b = some o := fun e n => hidT_get e n
    have freeB : ∀ {b : Addr} {o : Obj}, s₁.heap.get? b = some o → o.cls ≠ .none → o.cls ≠ .type "list" → H b = none := fun {b o} e c1 c2 => by
      cases q : H b with
      | none => rfl
      | some u =>
        rcases what b u q with ⟨rfl, _, _⟩ | ⟨t, ht, rfl, _⟩
        · rw [ha] at e; cases e; exact absurd rfl c2
        · rw [(hT t ht).2] at e; cases e; exact absurd rfl c1
    have noD : ∀ {b : Addr} {o : Obj} {es : Array DictEntry} {ep : Nat}, s₁.heap.get? b = some o → o.data = .dict es ep → H b = none := fun {b o es ep} e d => by
      cases q : H b with
      | none => rfl
      | some u =>
        rcases what b u q with ⟨rfl, _, _⟩ | ⟨t, ht, rfl, _⟩
        · rw [ha] at e; cases e; cases d
        · rw [(hT t ht).2] at e; cases e; cases d
    have nsK : ∀ {b : Addr} {m : Str → Option Value}, s₁.heap.Ns b m → (hidT s₁.heap H).Ns b m := fun {b m} ⟨o, es, ep, e, d, r⟩ => ⟨o, es, ep, base_of e (noD e d), d, r⟩
    have hKb : K.In (hidT s₁.heap H) := fun b o e => base_of (KX b o e) (by
      cases q : H b with
      | none => rfl
      | some u =>
        by_cases hb : b = a
        · subst hb
          rcases hA with z | ⟨z1, _⟩
          · rw [z] at q; cases q
          · rw [e] at z1; cases z1
        · rw [hH b hb, tabNot b o e] at q; cases q)
    have hM : Mod K mg (hidT s₁.heap H) := ⟨hKb, nsK hns, ⟨mb, nsK hb, hbb⟩, let ⟨mc, h1, h2⟩ := hlim; ⟨mc, nsK h1, h2⟩,
      let ⟨bm, ob, b1, b2, b3, b4, b5, b6⟩ := hbm; ⟨bm, ob, b1, b2, base_of b3 (freeB b3 (by rw [b4]; nofun) (by rw [b4]; decide)), b4, b5, b6⟩⟩
    have e0 : Env0 P w K mg (hidT s₁.heap H) callerA [] s₁ H := ⟨rfl, hM, fun b o e => of_hidT e, Nat.le_of_eq (hidT_size _ _), trivial, fun b hb => absurd (show b ∈ ([] : List Addr) from hb) (by simp), tt, hok, .of_eq hg⟩
    refine codeAny_mono ((F _).run callerA [] s₁ H ⟨[.ref a], []⟩ [.ref a] [.ref a] _ _ hr e0 (hbind s₁ (.ref a)) (.cons rfl .nil) (hsp H hS)) fun r s' h => ?_
    cases r with
    | error e => exact (hCX H e s' h).elim
    | ok fl =>
      cases fl with
      | next => exact False.elim h
      | brk => exact False.elim h
      | cont => exact False.elim h
      | ret u =>
        obtain ⟨v, H', os, bare, un, hok', r', q⟩ := h
        have q' : v = .bl true := q
        subst q'
        obtain rfl : u = Value.bool true := r'
        refine ⟨rfl, ⟨fun b o e => ?_, fun b o e => un.there b o e (by simp)⟩, os, bare⟩
        cases q : H b with
        | none => exact .inl (un.keep b o e q (by intro z; exact absurd (show b ∈ ([] : List Addr) from z) (by simp)) (by simp))
        | some u =>
          rcases what b u q with ⟨rfl, _, rfl⟩ | ⟨t, ht, rfl, rfl⟩
          · have z2 := un.frzs _ _ _ q
            obtain ⟨e1, _⟩ := hok _ _ q
            obtain ⟨e2, _⟩ := hok' _ _ z2
            rw [e] at e1; cases e1
            exact .inl e2
          · obtain ⟨more, z2⟩ := un.tbls _ _ q
            obtain ⟨qs, e2, _⟩ := hok' _ _ z2
            have e1 := (hT t ht).2
            rw [e] at e1
            obtain rfl := Option.some.inj e1
            exact .inr (.inl ⟨((hT t ht).1.tab (hT t ht).2).isCodeTable, rfl, #[], qs, rfl, by rw [Array.empty_append]; exact e2⟩)
  cases hk : K.lookup a with
  | some o =>
    have e := KX a o hk
    rw [ha] at e
    cases e
    exact core (fun b => tabH K b) (fun _ _ => rfl) (.inl tabA) (.inr ⟨_, vs.toArray, _, hk, rfl, rfl, rfl, by rw [List.size_toArray, lenV]; exact hl, by simpa using rv⟩)
  | none =>
    refine core (fun b => if b = a then some (.frz { cls := .type "list", data := .seq vs.toArray } (.lst (ns.map V.int))) else tabH K b) (fun b hb => if_neg hb) (.inr ⟨hk, if_pos rfl⟩) (.inl (.inr ⟨_, if_pos rfl⟩))
theorem walk_ofT {l : PySem.W.OpenLaw} {n k : Nat} {q : Program} {loose : List Str} {XP : (Str → Option Value) → Heap → Prop} {YP : World → Heap → Prop} {d : DefRec} {K : Params → PySem.W.Frag} {CX : CXT} {sp : PySem.W.Frag → Sp} {x : Str}
    (hn : l.most = some n) (hn2 : n ≤ sizeLine) (hdf : d.params.defaults = []) (hr : Room k callerA)
    (hY : ∀ (w : World) (h : Heap), YP w h → (K w.params).In h)
    (tabs : ∀ w : World, tabsOk (K w.params) ((recsOf q).map (·.name)) = true)
    (F : ∀ (w : World) (mg : Str → Option Value) (fa : Addr) (h : Heap), (K w.params).In h → h.Ns mainGlobals mg → mg d.name = some (.ref fa) →
      ∃ fd : FuncData, (∀ (s : Shared) (u : Value), BindsTo s fd ⟨[u], []⟩ [(x, u)]) ∧ ∀ base : Heap, FnOk l.prog w (K w.params) mg base CX k fa fd [x] (sp (K w.params)))
    (hsp : ∀ (K : PySem.W.Frag) (H : Hp) (a : Addr) (ns : List Int), ns.length ≤ n → Only H → SqL K H a (ns.map V.int) → sp K [.ref a] H (fun v _ => v = .bl true) fun _ _ _ => False)
    (hCX : ∀ (H : Hp) (s : Shared) (e : Value) (s' : Shared), CX [] H s (fun _ _ _ => False) e s' → False) :
    PySem.W.WalkO q loose XP YP l.row.toRowW d [] (fun f vs => PySem.call f vs) := by
  refine Att.attach_call hn hdf fun w s₀ s₁ mg mb fa o pm cd doc a vs ns G Y ho hd hcd hmg hobj hints hlen hg => ?_
  have KX := hY w _ Y
  have tb := tabs w
  unfold tabsOk at tb
  rw [Bool.and_eq_true, Bool.and_eq_true] at tb
  obtain ⟨⟨t1, t2⟩, t3⟩ := tb
  obtain ⟨fd, hb, hF⟩ := F w mg fa _ KX G.T.g hmg
  refine law_callT KX G.T.g G.T.b G.T.builtins G.T.nolimit hg G.T.bmain (fun t ht => ?_) t1 t2 hobj hints (Nat.le_trans hlen hn2) hr hF hb (fun H hS => hsp _ H a ns hlen trivial hS) fun H e s' => hCX H s₁ e s'
  have hc := List.all_eq_true.mp t3 t ht
  have hm : t.1 ∈ (recsOf q).map (·.name) := by simpa using hc
  obtain ⟨r, hr1, hr2⟩ := List.mem_map.mp hm
  cases z : (recsOf q).find? (fun e => e.name == t.1) with
  | none =>
    have := List.find?_eq_none.mp z r hr1
    rw [hr2] at this
    simp at this
  | some d' => exact PySem.W.tab_of G.T KX z (tabL_in ht)
end L2
set_option Elab.async false
set_option linter.all false
set_option autoImplicit false
set_option maxRecDepth 100000
set_option maxHeartbeats 1000000
namespace L2
open PySem PySem.Spec PySem.Calls PyProof.Rows
open AutoSeq1 (wpAny_loadPart')
section
variable {prog : Program} {w : World} {A : Around} {E : Value → Shared → Prop} {S : Shared}
set_option maxHeartbeats 2000000 in
end
theorem Inv.turnNew {X : Cx} {pins : List (Addr × Obj)} {σ : St} {H : Hp} {s : Shared} {h' : Heap} {tk : Nat} {ch : List Addr} {T : Addr} {o : HO} (I : Inv X pins σ H s) (hch : ∀ b ∈ ch, FpOk X pins H b)
    (k : ∀ b ob, b ∉ ch → s.heap.get? b = some ob → h'.get? b = some ob) (hT : s.heap.objs.size ≤ T) (new : ObjOk X.prog X.w (upd H T o) h' T o) : Inv X pins σ (upd H T o) { s with heap := h', toks := tk } := by
  have hn := I.hok.fresh hT
  have nc : ∀ b u, H b = some u → b ∉ ch := fun b u e hb => by rw [(hch b hb).1] at e; cases e
  have nT : ∀ b u, H b = some u → b ≠ T := fun b u e => ne_of_none e hn
  have lT : ∀ b ob, s.heap.get? b = some ob → b ≠ T := fun b ob e => Nat.ne_of_lt (Nat.lt_of_lt_of_le (Heap.lt_size e) hT)
  refine I.step (g' := s.gens) (d' := s.drawn) (ch := ch) (fun b hb => ?_) (fun b ob _ _ hc e _ => k b ob hc e) (fun b ob _ _ hc e _ => ⟨ob.slots, k b ob hc e⟩) (fun b ob _ e n => by rw [upd_ne (lT b ob e)]; exact n)
    (fun b ob hc e => ⟨ob, k b ob hc e⟩) (fun b xs e => by rw [upd_ne (nT b _ e)]; exact e) (fun b ob u e => by rw [upd_ne (nT b _ e)]; exact e) (fun b ps e => ⟨#[], by rw [upd_ne (nT b _ e), e]; simp⟩) (fun m hm => ?_) (fun b u e => ?_) I.bare
  · obtain ⟨f0, f1, f2, f3, f4, f5⟩ := hch b hb
    exact ⟨f3, f1, f4, f5⟩
  · obtain ⟨ob, es, ep, ho, r⟩ := hm
    exact ⟨ob, es, ep, k _ ob (fun z => (hch _ z).2.1 rfl) ho, r⟩
  · by_cases hb : b = T
    · subst hb; rw [upd_same] at e; cases e; exact new
    · rw [upd_ne hb] at e
      refine (I.hok b u e).stay (fun c v hc q => k c v ?_ q) (fun c q => by rw [upd_ne (nT c _ q)]; exact q) (fun c xs q => by rw [upd_ne (nT c _ q)]; exact q) fun c ob u' q => by rw [upd_ne (nT c _ q)]; exact q
      rcases hc with rfl | hc
      · exact nc _ _ e
      · exact nc _ _ hc
theorem Inv.turnAll {X : Cx} {pins : List (Addr × Obj)} {σ : St} {H : Hp} {s : Shared} {h' : Heap} {tk : Nat} {ch : List Addr} (I : Inv X pins σ H s) (hch : ∀ b ∈ ch, FpOk X pins H b)
    (k : ∀ b ob, b ∉ ch → s.heap.get? b = some ob → h'.get? b = some ob) : Inv X pins σ H { s with heap := h', toks := tk } := by
  have nc : ∀ b u, H b = some u → b ∉ ch := fun b u e hb => by rw [(hch b hb).1] at e; cases e
  refine I.step (g' := s.gens) (d' := s.drawn) (ch := ch) (fun b hb => ?_) (fun b ob _ _ hc e _ => k b ob hc e) (fun b ob _ _ hc e _ => ⟨ob.slots, k b ob hc e⟩) (fun b ob _ e n => n)
    (fun b ob hc e => ⟨ob, k b ob hc e⟩) (fun b xs e => e) (fun b ob u e => e) (fun b ps e => ⟨#[], by rw [e]; simp⟩) (fun m hm => ?_) (fun b u e => ?_) I.bare
  · obtain ⟨f0, f1, f2, f3, f4, f5⟩ := hch b hb
    exact ⟨f3, f1, f4, f5⟩
  · obtain ⟨ob, es, ep, ho, r⟩ := hm
    exact ⟨ob, es, ep, k _ ob (fun z => (hch _ z).2.1 rfl) ho, r⟩
  · refine (I.hok b u e).stay (fun c v hc q => k c v ?_ q) (fun c q => q) (fun c xs q => q) fun c ob u' q => q
    rcases hc with rfl | hc
    · exact nc _ _ e
    · exact nc _ _ hc
end L2
set_option Elab.async false
set_option linter.all false
set_option autoImplicit false
set_option maxRecDepth 100000
set_option maxHeartbeats 1000000
namespace L2
open PySem PySem.Spec PySem.Calls PyProof.Rows
section
variable {X : Cx}
end
section
variable {X : Cx}
end
end L2
set_option Elab.async false
set_option linter.all false
set_option autoImplicit false
set_option maxRecDepth 100000
set_option maxHeartbeats 1000000
namespace L2
open PySem PySem.Spec PySem.Calls PyProof.Rows
structure Src (prog : Program) (w : World) (A : Around) (j q : Addr) (its : Array Value) (It1 : Nat → Heap → Prop) (Sq1 : Heap → Prop) : Prop where
  item : ∀ (n : Nat) (v : Value) (S : Shared) (Q : Value → Shared → Prop) (E : Value → Shared → Prop), It1 n S.heap → Sq1 S.heap → its[n]? = some v → (∀ h1, It1 (n + 1) h1 → Heap.SameBut j S.heap h1 → Q v { S with heap := h1 }) → wpAny (model prog w) A (Builtin.SmallTypes.nextOf (.ref j)) Q E S
  stop : ∀ (n : Nat) (S : Shared) (Q : Value → Shared → Prop) (E : Value → Shared → Prop), It1 n S.heap → Sq1 S.heap → its[n]? = none → (∀ h1 e, Heap.ExtBut j S.heap h1 → (∃ o, h1.get? e = some o ∧ o.cls = .type "StopIteration") → E (.ref e) { S with heap := h1 }) → wpAny (model prog w) A (Builtin.SmallTypes.nextOf (.ref j)) Q E S
  mv : ∀ (n : Nat) (h h1 : Heap), It1 n h → (∀ o, h.get? j = some o → h1.get? j = some o) → It1 n h1
  sv : ∀ (h h1 : Heap), Sq1 h → (∀ o, h.get? q = some o → h1.get? q = some o) → Sq1 h1
  live : ∀ (n : Nat) (h : Heap), It1 n h → ∃ o vs, h.get? j = some o ∧ o.data = .fields vs
theorem srcL {prog : Program} {w : World} {A : Around} (hh : A.handled = none) (j q : Addr) (its : Array Value) : Src prog w A j q its (fun n h => h.IsListIter j q n) (fun h => h.IsList q its) :=
  ⟨fun n v S Q E a b c d => wpAny_nextOf_list_item a b c d, fun n S Q E a b c d => wpAny_nextOf_list_end hh a b c d, fun n h h1 a k => a.at k, fun h h1 a k => let ⟨o, e, r⟩ := a; ⟨o, k o e, r⟩, fun n h a => let ⟨o, e, _, d⟩ := a; ⟨o, _, e, d⟩⟩
section
variable {prog : Program} {w : World} {A : Around} {E : Value → Shared → Prop} {S : Shared} {z u o i j p q : Addr} {m n : Nat} {xs ys : Array Value} {x y a b : Value} {Ii Ij : Nat → Heap → Prop} {Sp Sq : Heap → Prop}
end
structure Kd (cls : String) (Sa : PySem.W.Frag → Hp → Addr → List V → Prop) (Iti : Heap → Addr → Addr → Nat → Prop) (Is : Heap → Addr → Array Value → Prop) : Prop where
  got : ∀ {X : Cx} {pins : List (Addr × Obj)} {σ : St} {H : Hp} {s : Shared} {a : Addr} {xs : List V}, Inv X pins σ H s → Sa X.K H a xs → ∃ its : List Value, Vals xs its ∧ Is s.heap a its.toArray
  inj : ∀ {X : Cx} {pins : List (Addr × Obj)} {σ : St} {H : Hp} {s : Shared} {a : Addr} {xs ys : List V}, Inv X pins σ H s → Sa X.K H a xs → Sa X.K H a ys → xs = ys
  src : ∀ (prog : Program) (w : World) (A : Around) (j q : Addr) (its : Array Value), A.handled = none → Src prog w A j q its (fun n h => Iti h j q n) (fun h => Is h q its)
  seq : ∀ {h : Heap} {a : Addr} {its : Array Value}, Is h a its → ∃ o n, h.get? a = some o ∧ o.data = .seq its n
  ne : ∀ {X : Cx} {pins : List (Addr × Obj)} {σ : St} {H : Hp} {s : Shared} {a b : Addr} {xs : List V}, Inv X pins σ H s → Sa X.K H a xs → FpOk X pins H b → a ≠ b
  itr : ∀ {prog : Program} {w : World} {A : Around} {E : Value → Shared → Prop} {S : Shared} {a : Addr} {its : Array Value} {Q : Value → Shared → Prop}, Is S.heap a its → Q (.ref S.heap.objs.size) { S with heap := S.heap.push { cls := .type cls, data := .fields #[.ref a, .int 0 0] } } → wpAny (model prog w) A (pyIter (.ref a)) Q E S
  sv : ∀ {h h1 : Heap} {a : Addr} {its : Array Value}, Is h a its → (∀ ob, h.get? a = some ob → h1.get? a = some ob) → Is h1 a its
  new : ∀ {h : Heap} {j q : Addr}, h.get? j = some { cls := .type cls, data := .fields #[.ref q, .int 0 0] } → Iti h j q 0
theorem k_ne {X : Cx} {pins : List (Addr × Obj)} {σ : St} {H : Hp} {s : Shared} {a b : Addr} {ob : Obj} (I : Inv X pins σ H s) (e : X.K.lookup a = some ob) (f : FpOk X pins H b) : a ≠ b := fun z => by
  subst z
  have hb := I.ok.mod.kin a ob e
  rcases f.2.2.2.1 with h | h
  · exact I.ok.noex a ob hb h
  · exact absurd (Nat.lt_of_lt_of_le (Heap.lt_size hb) (Nat.le_trans I.ok.bsz h)) (Nat.lt_irrefl _)
theorem kdL : Kd "list_iterator" SqL (fun h j q n => h.IsListIter j q n) (fun h q its => h.IsList q its) where
  got := fun I h => let ⟨its, rv, p, _⟩ := I.list h; ⟨its, rv, p.isList⟩
  inj := fun I h h' => I.list_inj h h'
  src := fun prog w A j q its hh => srcL hh j q its
  seq := fun x => let ⟨o, e, _, n, d⟩ := x; ⟨o, n, e, d⟩
  ne := fun I h f => by
    rcases h with (h | ⟨ob, h⟩) | ⟨ob, its, n, hk, _⟩
    · exact ne_of_none h f.1
    · exact ne_of_none h f.1
    · exact k_ne I hk f
  itr := fun h hQ => wpAny_pyIter_list h hQ
  sv := fun x k => let ⟨o, e, r⟩ := x; ⟨o, k o e, r⟩
  new := fun e => ⟨_, e, rfl, rfl⟩
section
variable {c1 c2 : String} {Sa Sb : PySem.W.Frag → Hp → Addr → List V → Prop} {Ia Ib : Heap → Addr → Addr → Nat → Prop} {Isa Isb : Heap → Addr → Array Value → Prop}
end
end L2
set_option Elab.async false
set_option linter.all false
set_option autoImplicit false
set_option maxRecDepth 100000
set_option maxHeartbeats 1000000
namespace L2
open PySem PySem.Spec PySem.Calls PyProof.Rows
section
variable {c1 c2 : String} {Sa Sb : PySem.W.Frag → Hp → Addr → List V → Prop} {Ia Ib : Heap → Addr → Addr → Nat → Prop} {Isa Isb : Heap → Addr → Array Value → Prop}
variable {X : Cx}
end
theorem pg_tupK {X : Cx} (K : PySem.W.Frag) (h : X.K = K) {ts : List Expr} {k n : Nat} {pos : Pos} {t : TGs} (hc : X.calm = true) (hts : PGs X ts t)
    (hn : (assignEach ts X.env).length = n := by rfl) (hst : (assignEach ts X.env).findIdx? (·.1) = none := by rfl) : PG X (.Tuple ts k pos) (gTup K n t) := h ▸ pg_tup hc hts hn hst
section
variable {K : PySem.W.Frag} {a b : Addr} {xs ys : List V} {g : TG} {tb : TS} {D : Ends} {σ : St} {H : Hp} {Sa Sb : Hp → Addr → List V → Prop} {acc : Addr} {tc : TT} {l : TL} {R : St → Hp → Prop} {J : It} {n : Nat}
end
end L2
set_option Elab.async false
set_option linter.all false
set_option autoImplicit false
set_option maxRecDepth 100000
set_option maxHeartbeats 1000000
namespace L2
open PySem PySem.Spec PySem.Calls PyProof.Rows
def kEnd {α : Type} (c : Nat → Nat → Bool) : PySem.W.KasT α → α
  | .ret a => a
  | .ask i j k => kEnd c (k (c i j))
def KG {α : Type} (n : Nat) (R : α → Prop) : PySem.W.KasT α → Prop
  | .ret a => R a
  | .ask i j k => i < n ∧ j < n ∧ ∀ b, KG n R (k b)
theorem KG.fin {α : Type} {n : Nat} {R : α → Prop} (c : Nat → Nat → Bool) : ∀ {t : PySem.W.KasT α}, KG n R t → R (kEnd c t)
  | .ret _, h => h
  | .ask i j k, h => KG.fin c (t := k (c i j)) (h.2.2 (c i j))
theorem KG.mono {α : Type} {n : Nat} {R S : α → Prop} (q : ∀ a, R a → S a) : ∀ {t : PySem.W.KasT α}, KG n R t → KG n S t
  | .ret a, h => q a h
  | .ask _ _ k, h => ⟨h.1, h.2.1, fun b => KG.mono q (t := k b) (h.2.2 b)⟩
theorem KG.bind {α β : Type} {n : Nat} {R : β → Prop} {f : α → PySem.W.KasT β} : ∀ {t : PySem.W.KasT α}, KG n (fun a => KG n R (f a)) t → KG n R (t.bind f)
  | .ret _, h => h
  | .ask _ _ k, h => ⟨h.1, h.2.1, fun b => KG.bind (t := k b) (h.2.2 b)⟩
def Ord (n : Nat) (p : Array Nat) : Prop := p.Perm (List.range n).toArray
theorem Ord.lt {n : Nat} {p : Array Nat} (hn : 0 < n) (h : Ord n p) (k : Nat) : p.getD k 0 < n := by
  by_cases hk : k < p.size
  · have hm : p[k] ∈ p := Array.getElem_mem hk
    have h2 := (h.mem_iff (a := p[k])).mp hm
    simp at h2
    simp [Array.getD, hk]
    exact h2
  · simp [Array.getD, hk]
    exact hn
section
variable {n : Nat} (hn : 0 < n)
include hn
end
end L2
set_option Elab.async false
set_option linter.all false
set_option autoImplicit false
set_option maxRecDepth 100000
set_option maxHeartbeats 1000000
namespace L2
open PySem PySem.Spec PySem.Calls PyProof.Rows
def Zs : List Value → List Int → Prop
  | [], [] => True
  | v :: vs, n :: ns => (∃ t, v = .int n t) ∧ Zs vs ns
  | _, _ => False
def ltF (e : Bool) : List Int → List Int → Bool
  | x :: xs, y :: ys => if x = y then ltF e xs ys else decide (x < y)
  | _, _ => e
def ltZ (x y : List Int) : Bool := ltF (decide (x.length < y.length)) x y
theorem Zs.len : ∀ {vs : List Value} {ns : List Int}, Zs vs ns → vs.length = ns.length
  | [], [], _ => rfl
  | _ :: _, _ :: _, h => congrArg (· + 1) (Zs.len h.2)
  | [], _ :: _, h => h.elim
  | _ :: _, [], h => h.elim
section
variable {prog : Program} {w : World} {A : Around} {E : Value → Shared → Prop} {s : Shared}
end
def TW (h : Heap) : List Value → List (List Int) → Prop
  | [], [] => True
  | v :: vs, x :: xs => (∃ a o its n, v = .ref a ∧ h.get? a = some o ∧ o.cls = .type "tuple" ∧ o.data = .seq its n ∧ Zs its.toList x) ∧ TW h vs xs
  | _, _ => False
theorem TW.len {h : Heap} : ∀ {vs : List Value} {W : List (List Int)}, TW h vs W → vs.length = W.length
  | [], [], _ => rfl
  | _ :: _, _ :: _, q => congrArg (· + 1) (TW.len q.2)
  | [], _ :: _, q => q.elim
  | _ :: _, [], q => q.elim
theorem TW.keep {h h' : Heap} (k : ∀ b o, h.get? b = some o → o.cls = .type "tuple" → h'.get? b = some o) : ∀ {vs : List Value} {W : List (List Int)}, TW h vs W → TW h' vs W
  | [], [], _ => trivial
  | _ :: _, _ :: _, ⟨⟨a, o, its, n, e1, e2, e3, e4⟩, q⟩ => ⟨⟨a, o, its, n, e1, k _ _ e2 e3, e3, e4⟩, TW.keep k q⟩
  | [], _ :: _, q => q.elim
  | _ :: _, [], q => q.elim
theorem TW.at {h : Heap} : ∀ {vs : List Value} {W : List (List Int)} {i : Nat}, TW h vs W → i < vs.length → ∃ a o its n, vs.getD i Value.none = .ref a ∧ h.get? a = some o ∧ o.data = .seq its n ∧ Zs its.toList (W.getD i [])
  | _ :: _, _ :: _, 0, ⟨⟨a, o, its, n, e1, e2, e3, e4, e5⟩, _⟩, _ => ⟨a, o, its, n, by simpa using e1, e2, e4, by simpa using e5⟩
  | _ :: _, _ :: _, i + 1, ⟨_, q⟩, hi => by
    obtain ⟨a, o, its, n, e1, e2, e3, e4⟩ := TW.at (i := i) q (by simpa using hi)
    exact ⟨a, o, its, n, by simpa using e1, e2, e3, by simpa using e4⟩
  | [], _, _, _, hi => absurd hi (by simp)
  | _ :: _, [], _, q, _ => q.elim
theorem TW.tups {h : Heap} : ∀ {vs : List Value} {W : List (List Int)}, TW h vs W → (∀ x ∈ W, x ≠ []) → ∃ fs, PySem.W.KatTups h vs fs ∧ fs.length = vs.length ∧ ∀ v ∈ fs, ∃ n t, v = .int n t
  | [], [], _, _ => ⟨[], trivial, rfl, by simp⟩
  | _ :: vs, x :: xs, ⟨⟨a, o, its, n, rfl, e2, e3, e4, e5⟩, q⟩, ne => by
    obtain ⟨fs, g1, g2, g3⟩ := TW.tups q fun y hy => ne y (List.mem_cons_of_mem _ hy)
    have e6 := ne x List.mem_cons_self
    match hi : its.toList, x, e5, e6 with
    | [], [], _, e6 => exact absurd rfl e6
    | [], _ :: _, e5, _ => exact e5.elim
    | _ :: _, [], e5, _ => exact e5.elim
    | f :: r, m :: ms, e5, _ =>
      obtain ⟨t, ht⟩ := e5.1
      refine ⟨f :: fs, PySem.W.KatTups.cons e2 e3 e4 ?_ g1, by simp [g2], ?_⟩
      · rw [← Array.getElem?_toList, hi]; rfl
      · intro v hv
        rcases List.mem_cons.mp hv with rfl | hv
        · exact ⟨m, t, ht⟩
        · exact g3 v hv
  | [], _ :: _, q, _ => q.elim
  | _ :: _, [], q, _ => q.elim
def sortP (W : List (List Int)) : Array Nat := if W.length < 2 then (List.range W.length).toArray else kEnd (fun i j => ltZ (W.getD i []) (W.getD j [])) (PySem.W.kas_sort W.length)
end L2
set_option Elab.async false
set_option linter.all false
set_option autoImplicit false
set_option maxRecDepth 100000
set_option maxHeartbeats 1000000
namespace L2
open PySem PySem.Spec PySem.Calls PyProof.Rows
section
variable {prog : Program} {w : World} {A : Around} {E : Value → Shared → Prop} {s : Shared}
end
def TWv (H : Hp) : List V → List (List Int) → Prop
  | [], [] => True
  | v :: vs, x :: xs => (∃ a, v = .ref a ∧ H a = some (.tup (x.map V.int))) ∧ TWv H vs xs
  | _, _ => False
section
variable {X : Cx}
theorem Zs.of : ∀ {ns : List Int} {its : List Value}, Vals (ns.map V.int) its → Zs its ns
  | [], [], _ => trivial
  | n :: ns, v :: vs, h => by
    cases h with
    | cons r rr =>
      exact ⟨r, Zs.of rr⟩
  | [], _ :: _, h => by cases h
  | _ :: _, [], h => by cases h
theorem Ord.mem {n : Nat} {p : Array Nat} (h : Ord n p) {i : Nat} (hi : i ∈ p.toList) : i < n := by
  have := (h.mem_iff (a := i)).mp (Array.mem_toList_iff.mp hi)
  simpa using this
end
def srtW (W : List (List Int)) : List (List Int) := (sortP W).toList.map fun i => W.getD i []
theorem TWv.len {H : Hp} : ∀ {vs : List V} {W : List (List Int)}, TWv H vs W → vs.length = W.length
  | [], [], _ => rfl
  | _ :: _, _ :: _, q => congrArg (· + 1) (TWv.len q.2)
  | [], _ :: _, q => q.elim
  | _ :: _, [], q => q.elim
end L2
set_option Elab.async false
set_option linter.all false
set_option autoImplicit false
set_option maxRecDepth 100000
set_option maxHeartbeats 1000000
namespace L2
open PySem PySem.Spec PySem.Calls PyProof.Rows
theorem wd_ints {H : Hp} : ∀ {ns : List Int} {xs : List V}, Dats H (ns.map D.int) xs → xs = ns.map V.int
  | [], xs, h => by simpa [Dats] using h
  | n :: ns, xs, h => by
    simp only [List.map_cons, Dats, Dat] at h
    obtain ⟨x, r, rfl, rfl, h2⟩ := h
    rw [wd_ints h2]; rfl
theorem TWv.of {H : Hp} : ∀ {W : List (List Int)} {xs : List V}, Dats H (W.map wdD) xs → TWv H xs W
  | [], xs, h => by
    have : xs = [] := by simpa [Dats] using h
    subst this
    exact trivial
  | x :: W, xs, h => by
    simp only [List.map_cons, Dats] at h
    obtain ⟨v, r, rfl, hv, h2⟩ := h
    simp only [wdD, Dat] at hv
    obtain ⟨a, ys, rfl, ha, hy⟩ := hv
    rw [wd_ints hy] at ha
    exact ⟨⟨a, rfl, ha⟩, TWv.of h2⟩
section
variable {X : Cx}
end
end L2
set_option Elab.async false
set_option linter.all false
set_option autoImplicit false
set_option maxRecDepth 100000
set_option maxHeartbeats 1000000
namespace L2
open PySem PySem.Spec PySem.Calls PyProof.Rows
structure Less (c : Nat → Nat → Bool) : Prop where
  as : ∀ i j, c i j = true → c j i = false
  tr : ∀ i j k, c j i = false → c k j = false → c k i = false
section
variable {c : Nat → Nat → Bool} (L : Less c)
def Dn (c : Nat → Nat → Bool) (p : Array Nat) (k : Nat) : Prop := ∀ i j, i ≤ j → j < k → c (p.getD i 0) (p.getD j 0) = false
include L
end
section
variable {c : Nat → Nat → Bool} (L : Less c)
include L
end
end L2
set_option Elab.async false
set_option linter.all false
set_option autoImplicit false
set_option maxRecDepth 100000
set_option maxHeartbeats 1000000
namespace L2
open PySem PySem.Spec PySem.Calls PyProof.Rows
end L2
set_option Elab.async false
set_option linter.all false
set_option autoImplicit false
set_option maxRecDepth 100000
set_option maxHeartbeats 1000000
namespace L2
open PySem PySem.Spec PyProof.Rows
inductive AV where
  | d (x : D)
  | r (v : V)
  | p (v : V) (P : Hp → Prop)
inductive OC where
  | own (xs : List AV)
  | frz (ds : List D)
  | dic (kvs : List (Str × AV))
abbrev Om := Addr → Option OC
abbrev SA := List (Option AV)
abbrev Fs := Addr → Bool
def Om.put (ω : Om) (l : Addr) (c : OC) : Om := fun b => if b = l then some c else ω b
theorem Om.put_same {ω : Om} {l : Addr} {c : OC} : ω.put l c l = some c := by unfold Om.put; rw [if_pos rfl]
theorem Om.put_ne {ω : Om} {l b : Addr} {c : OC} (h : b ≠ l) : ω.put l c b = ω b := by unfold Om.put; rw [if_neg h]
theorem Om.put_put {ω : Om} {l : Addr} {c e : OC} : (ω.put l c).put l e = ω.put l e := by funext b; unfold Om.put; split <;> rfl
theorem Om.put_comm {ω : Om} {l p : Addr} {c e : OC} (h : p ≠ l) : (ω.put l c).put p e = (ω.put p e).put l c := by
  funext b; unfold Om.put; split <;> split <;> simp_all
def ow : Option OC → Bool
  | some (.own _) => true
  | some (.dic _) => true
  | _ => false
def Fs.add (F : Fs) (l : Addr) : Fs := fun b => decide (b = l) || F b
def cut (F : Fs) (H : Hp) (ω : Om) : Hp := fun b => if (ow (ω b) || F b) = true then none else H b
def RV (G : Hp) : AV → V → Prop
  | .d x, v => Dat G x v
  | .r u, v => v = u
  | .p u P, v => v = u ∧ ∀ G', Same G G' → P G'
def RVs (G : Hp) : List AV → List V → Prop
  | [], vs => vs = []
  | a :: as, vs => ∃ v r, vs = v :: r ∧ RV G a v ∧ RVs G as r
def RS (G : Hp) (ρ : SA) (σ : St) : Prop := ρ.length = σ.length ∧ ∀ (i : Nat) (a : AV), ρ[i]? = some (some a) → ∃ v, σ[i]? = some (some v) ∧ RV G a v
def RKs (G : Hp) : List (Str × AV) → List (Key × V) → Prop
  | [], ks => ks = []
  | p :: r, ks => ∃ v r', ks = ((Sum.inr p.1 : Key), v) :: r' ∧ RV G p.2 v ∧ RKs G r r'
structure Rep (F : Fs) (H : Hp) (ω : Om) : Prop where
  own : ∀ l xs, ω l = some (.own xs) → ∃ vs, H l = some (.lst vs) ∧ RVs (cut F H ω) xs vs
  frz : ∀ l ds, ω l = some (.frz ds) → Dat (cut F H ω) (.lst ds) (.ref l)
  hid : ∀ b, F b = true → ω b = none ∧ ∃ vs, H b = some (.lst vs)
  dic : ∀ l kvs, ω l = some (.dic kvs) → ∃ ks, H l = some (.dK ks) ∧ RKs (cut F H ω) kvs ks
structure Fr (F : Fs) (H : Hp) (ω : Om) (H' : Hp) (ω' : Om) : Prop where
  st : ∀ b o, ow (ω b) = false → F b = false → H b = some o → H' b = some o ∧ ow (ω' b) = false
  hd : ∀ b, F b = true → H' b = H b
section
variable {F : Fs} {H H1 H2 H' : Hp} {ω ω1 ω2 ω' : Om} {G G' : Hp}
theorem Fr.refl : Fr F H ω H ω := ⟨fun _ _ h _ e => ⟨e, h⟩, fun _ _ => rfl⟩
theorem Fr.trans (a : Fr F H ω H1 ω1) (b : Fr F H1 ω1 H2 ω2) : Fr F H ω H2 ω2 :=
  ⟨fun c o h f e => let ⟨x, y⟩ := a.st c o h f e; b.st c o y f x, fun c h => (b.hd c h).trans (a.hd c h)⟩
theorem cut_some {b : Addr} {o : HO} : cut F H ω b = some o ↔ ow (ω b) = false ∧ F b = false ∧ H b = some o := by
  unfold cut
  cases ow (ω b) <;> cases F b <;> simp
theorem Fr.same (a : Fr F H ω H' ω') : Same (cut F H ω) (cut F H' ω') := fun b o e => by
  obtain ⟨h, f, e⟩ := cut_some.mp e
  obtain ⟨x, y⟩ := a.st b o h f e
  exact cut_some.mpr ⟨y, f, x⟩
theorem cut_same : Same (cut F H ω) H := fun b o e => (cut_some.mp e).2.2
theorem RV.same (e : Same G G') : ∀ {a : AV} {v : V}, RV G a v → RV G' a v
  | .d _, _, h => Dat.same e h
  | .r _, _, h => h
  | .p _ _, _, h => ⟨h.1, fun G2 s => h.2 G2 (e.trans s)⟩
theorem RVs.same (e : Same G G') : ∀ {as : List AV} {vs : List V}, RVs G as vs → RVs G' as vs
  | [], _, h => h
  | _ :: _, _, ⟨v, r, h1, h2, h3⟩ => ⟨v, r, h1, h2.same e, h3.same e⟩
theorem RKs.same (e : Same G G') : ∀ {as : List (Str × AV)} {vs : List (Key × V)}, RKs G as vs → RKs G' as vs
  | [], _, h => h
  | _ :: _, _, ⟨v, r, h1, h2, h3⟩ => ⟨v, r, h1, h2.same e, h3.same e⟩
theorem RS.same (e : Same G G') {ρ : SA} {σ : St} (h : RS G ρ σ) : RS G' ρ σ := ⟨h.1, fun i a q => let ⟨v, x, y⟩ := h.2 i a q; ⟨v, x, y.same e⟩⟩
theorem RVs.length : ∀ {as : List AV} {vs : List V}, RVs G as vs → vs.length = as.length
  | [], _, h => by cases h; rfl
  | _ :: _, _, ⟨v, r, h1, _, h3⟩ => by subst h1; simp [h3.length]
theorem RVs.get : ∀ {as : List AV} {vs : List V} {i : Nat} {a : AV}, RVs G as vs → as[i]? = some a → ∃ v, vs[i]? = some v ∧ RV G a v
  | [], _, _, _, _, e => by simp at e
  | _ :: _, _, 0, _, ⟨v, r, h1, h2, _⟩, e => by subst h1; simp at e; subst e; exact ⟨v, rfl, h2⟩
  | _ :: _, _, i + 1, _, ⟨v, r, h1, _, h3⟩, e => by subst h1; simp at e; obtain ⟨v', e1, e2⟩ := h3.get e; exact ⟨v', by simpa using e1, e2⟩
theorem RVs.append : ∀ {as bs : List AV} {vs us : List V}, RVs G as vs → RVs G bs us → RVs G (as ++ bs) (vs ++ us)
  | [], _, _, _, h, k => by cases h; exact k
  | _ :: _, _, _, _, ⟨v, r, h1, h2, h3⟩, k => by subst h1; exact ⟨v, _, rfl, h2, h3.append k⟩
theorem RVs.one {a : AV} {v : V} (h : RV G a v) : RVs G [a] [v] := ⟨v, [], rfl, h, rfl⟩
theorem RVs.dats : ∀ {ds : List D} {vs : List V}, RVs G (ds.map AV.d) vs ↔ Dats G ds vs
  | [], _ => by simp [RVs, Dats]
  | d :: ds, vs => by
    simp only [List.map_cons, RVs, Dats, RV]
    constructor
    · rintro ⟨v, r, h1, h2, h3⟩; exact ⟨v, r, h1, h2, RVs.dats.mp h3⟩
    · rintro ⟨v, r, h1, h2, h3⟩; exact ⟨v, r, h1, h2, RVs.dats.mpr h3⟩
theorem RVs.set {as : List AV} {vs : List V} (i : Nat) {a : AV} {v : V} (h : RVs G as vs) (k : RV G a v) : RVs G (as.set i a) (vs.set i v) := by
  induction as generalizing vs i with
  | nil => cases h; exact rfl
  | cons b as ih =>
    obtain ⟨u, r, rfl, h2, h3⟩ := h
    cases i with
    | zero => exact ⟨v, r, rfl, k, h3⟩
    | succ i => exact ⟨u, _, rfl, h2, ih i h3⟩
theorem RVs.dropLast : ∀ {as : List AV} {vs : List V}, RVs G as vs → RVs G as.dropLast vs.dropLast
  | [], _, h => by cases h; exact rfl
  | [a], _, ⟨v, r, h1, h2, h3⟩ => by cases h3; subst h1; exact rfl
  | a :: b :: as, _, ⟨v, r, h1, h2, h3⟩ => by
    obtain ⟨u, r', rfl, k2, k3⟩ := id h3
    subst h1
    exact ⟨v, _, rfl, h2, h3.dropLast⟩
theorem Rep.free (R : Rep F H ω) {p : Addr} (h : H p = none) : ω p = none ∧ F p = false := by
  constructor
  · cases e : ω p with
    | none => rfl
    | some c => cases c with
      | own xs => obtain ⟨vs, q, _⟩ := R.own p xs e; rw [h] at q; cases q
      | frz ds =>
        have q := R.frz p ds e
        simp only [Dat] at q
        obtain ⟨a, xs, e1, e2, _⟩ := q
        cases e1
        rw [cut_same _ _ e2] at h; cases h
      | dic kvs => obtain ⟨vs, q, _⟩ := R.dic p kvs e; rw [h] at q; cases q
  · cases e : F p with
    | false => rfl
    | true => obtain ⟨_, o, q⟩ := R.hid p e; rw [h] at q; cases q
theorem Rep.lay (R : Rep F H ω) {p : Addr} {o : HO} (h : H p = none) : Rep F (upd H p o) ω ∧ Fr F H ω (upd H p o) ω ∧ cut F (upd H p o) ω p = some o := by
  have hs := same_upd (o := o) h
  have fr : Fr F H ω (upd H p o) ω := ⟨fun b u x f e => ⟨hs _ _ e, x⟩, fun b f => by
    obtain ⟨_, u, q⟩ := R.hid b f
    rw [upd_ne (ne_of_none q h)]⟩
  obtain ⟨f1, f2⟩ := R.free h
  refine ⟨⟨fun l xs e => ?_, fun l ds e => (R.frz l ds e).same fr.same, fun b f => ?_, fun l ks e => (by obtain ⟨vs, e1, e2⟩ := R.dic l ks e; exact ⟨vs, hs _ _ e1, e2.same fr.same⟩)⟩, fr, cut_some.mpr ⟨by rw [f1]; rfl, f2, upd_same⟩⟩
  · obtain ⟨vs, e1, e2⟩ := R.own l xs e
    exact ⟨vs, hs _ _ e1, e2.same fr.same⟩
  · obtain ⟨x, u, q⟩ := R.hid b f
    exact ⟨x, u, hs _ _ q⟩
theorem cut_write {l : Addr} {xs ys : List AV} {o : HO} (h : ω l = some (.own xs)) : cut F (upd H l o) (ω.put l (.own ys)) = cut F H ω := by
  funext b
  unfold cut Om.put
  by_cases hb : b = l
  · subst hb; rw [if_pos rfl, h]; simp [ow]
  · rw [if_neg hb, upd_ne hb]
theorem Rep.write (R : Rep F H ω) {l : Addr} {xs ys : List AV} {vs : List V} (h : ω l = some (.own xs)) (hv : RVs (cut F H ω) ys vs) :
    Rep F (upd H l (.lst vs)) (ω.put l (.own ys)) ∧ Fr F H ω (upd H l (.lst vs)) (ω.put l (.own ys)) := by
  have c := cut_write (F := F) (H := H) (ys := ys) (o := .lst vs) h
  refine ⟨⟨fun k zs e => ?_, fun k ds e => ?_, fun b f => ?_, fun k ks e => (by
    have hk : k ≠ l := fun z => (by subst z; rw [Om.put_same] at e; cases e)
    rw [Om.put_ne hk] at e; rw [c, upd_ne hk]; exact R.dic k ks e)⟩, fun b o x f e => ?_, fun b f => ?_⟩
  · rw [c]
    by_cases hk : k = l
    · subst hk; rw [Om.put_same] at e; cases e; exact ⟨vs, upd_same, hv⟩
    · rw [Om.put_ne hk] at e; rw [upd_ne hk]; exact R.own k zs e
  · rw [c]
    by_cases hk : k = l
    · subst hk; rw [Om.put_same] at e; cases e
    · rw [Om.put_ne hk] at e; exact R.frz k ds e
  · obtain ⟨x, o, q⟩ := R.hid b f
    have hb : b ≠ l := fun z => by subst z; rw [h] at x; cases x
    exact ⟨by rw [Om.put_ne hb]; exact x, o, by rw [upd_ne hb]; exact q⟩
  · have hb : b ≠ l := fun z => by subst z; rw [h] at x; cases x
    rw [Om.put_ne hb, upd_ne hb]; exact ⟨e, x⟩
  · obtain ⟨x, o, q⟩ := R.hid b f
    have hb : b ≠ l := fun z => by subst z; rw [h] at x; cases x
    exact upd_ne hb
theorem Rep.mk' (R : Rep F H ω) {l : Addr} {xs : List AV} {vs : List V} (h : H l = none) (hv : RVs (cut F H ω) xs vs) :
    Rep F (upd H l (.lst vs)) (ω.put l (.own xs)) ∧ Fr F H ω (upd H l (.lst vs)) (ω.put l (.own xs)) := by
  obtain ⟨f1, f2⟩ := R.free h
  have c : cut F (upd H l (.lst vs)) (ω.put l (.own xs)) = cut F H ω := by
    funext b
    unfold cut Om.put
    by_cases hb : b = l
    · subst hb; rw [if_pos rfl, f1, f2, h]; simp [ow]
    · rw [if_neg hb, upd_ne hb]
  refine ⟨⟨fun k zs e => ?_, fun k ds e => ?_, fun b f => ?_, fun k ks e => (by
    have hk : k ≠ l := fun z => (by subst z; rw [Om.put_same] at e; cases e)
    rw [Om.put_ne hk] at e; rw [c, upd_ne hk]; exact R.dic k ks e)⟩, fun b o x f e => ?_, fun b f => ?_⟩
  · rw [c]
    by_cases hk : k = l
    · subst hk; rw [Om.put_same] at e; cases e; exact ⟨vs, upd_same, hv⟩
    · rw [Om.put_ne hk] at e; rw [upd_ne hk]; exact R.own k zs e
  · rw [c]
    by_cases hk : k = l
    · subst hk; rw [Om.put_same] at e; cases e
    · rw [Om.put_ne hk] at e; exact R.frz k ds e
  · obtain ⟨x, o, q⟩ := R.hid b f
    have hb : b ≠ l := ne_of_none q h
    exact ⟨by rw [Om.put_ne hb]; exact x, o, by rw [upd_ne hb]; exact q⟩
  · have hb : b ≠ l := ne_of_none e h
    rw [Om.put_ne hb, upd_ne hb]; exact ⟨e, x⟩
  · obtain ⟨x, o, q⟩ := R.hid b f
    exact upd_ne (ne_of_none q h)
theorem Rep.freeze (R : Rep F H ω) {l : Addr} {ds : List D} (h : ω l = some (.own (ds.map AV.d))) :
    Rep F H (ω.put l (.frz ds)) ∧ Fr F H ω H (ω.put l (.frz ds)) ∧ Dat (cut F H (ω.put l (.frz ds))) (.lst ds) (.ref l) := by
  have fr : Fr F H ω H (ω.put l (.frz ds)) := ⟨fun b o x f e => ⟨e, by
    by_cases hb : b = l
    · subst hb; rw [h] at x; cases x
    · rw [Om.put_ne hb]; exact x⟩, fun _ _ => rfl⟩
  obtain ⟨vs, e1, e2⟩ := R.own l _ h
  have hF : F l = false := by
    cases e : F l with
    | false => rfl
    | true => have := (R.hid l e).1; rw [h] at this; cases this
  have dl : Dat (cut F H (ω.put l (.frz ds))) (.lst ds) (.ref l) := by
    simp only [Dat]
    exact ⟨l, vs, rfl, cut_some.mpr ⟨by rw [Om.put_same]; rfl, hF, e1⟩, (RVs.dats.mp e2).same fr.same⟩
  refine ⟨⟨fun k zs e => ?_, fun k es e => ?_, fun b f => ?_, fun k ks e => (by
    have hk : k ≠ l := fun z => (by subst z; rw [Om.put_same] at e; cases e)
    rw [Om.put_ne hk] at e; obtain ⟨us, q1, q2⟩ := R.dic k ks e; exact ⟨us, q1, q2.same fr.same⟩)⟩, fr, dl⟩
  · by_cases hk : k = l
    · subst hk; rw [Om.put_same] at e; cases e
    · rw [Om.put_ne hk] at e
      obtain ⟨us, q1, q2⟩ := R.own k zs e
      exact ⟨us, q1, q2.same fr.same⟩
  · by_cases hk : k = l
    · subst hk; rw [Om.put_same] at e; cases e; exact dl
    · rw [Om.put_ne hk] at e; exact (R.frz k es e).same fr.same
  · obtain ⟨x, o, q⟩ := R.hid b f
    have hb : b ≠ l := fun z => by subst z; rw [h] at x; cases x
    exact ⟨by rw [Om.put_ne hb]; exact x, o, q⟩
theorem Rep.hide (R : Rep F H ω) {l : Addr} {vs : List V} (h : H l = none) : Rep (F.add l) (upd H l (.lst vs)) ω ∧ cut (F.add l) (upd H l (.lst vs)) ω = cut F H ω := by
  obtain ⟨f1, f2⟩ := R.free h
  have c : cut (F.add l) (upd H l (.lst vs)) ω = cut F H ω := by
    funext b
    unfold cut Fs.add
    by_cases hb : b = l
    · subst hb; simp [h]
    · rw [upd_ne hb]; simp [hb]
  refine ⟨⟨fun k zs e => ?_, fun k ds e => ?_, fun b f => ?_, fun k ks e => (by rw [c]; obtain ⟨us, q1, q2⟩ := R.dic k ks e; exact ⟨us, by rw [upd_ne (ne_of_none q1 h)]; exact q1, q2⟩)⟩, c⟩
  · rw [c]
    obtain ⟨us, q1, q2⟩ := R.own k zs e
    exact ⟨us, by rw [upd_ne (ne_of_none q1 h)]; exact q1, q2⟩
  · rw [c]; exact R.frz k ds e
  · by_cases hb : b = l
    · subst hb; exact ⟨f1, _, upd_same⟩
    · have f' : F b = true := by simpa [Fs.add, hb] using f
      obtain ⟨x, o, q⟩ := R.hid b f'
      exact ⟨x, o, by rw [upd_ne hb]; exact q⟩
theorem Rep.hwrite (R : Rep F H ω) {l : Addr} {vs : List V} (h : F l = true) : Rep F (upd H l (.lst vs)) ω ∧ cut F (upd H l (.lst vs)) ω = cut F H ω := by
  have c : cut F (upd H l (.lst vs)) ω = cut F H ω := by
    funext b
    unfold cut
    by_cases hb : b = l
    · subst hb; simp [h]
    · rw [upd_ne hb]
  refine ⟨⟨fun k zs e => ?_, fun k ds e => ?_, fun b f => ?_, fun k ks e => (by
    have hk : k ≠ l := fun z => (by subst z; rw [(R.hid _ h).1] at e; cases e)
    rw [c, upd_ne hk]; exact R.dic k ks e)⟩, c⟩
  · rw [c]
    obtain ⟨us, q1, q2⟩ := R.own k zs e
    have hk : k ≠ l := fun z => by subst z; rw [(R.hid _ h).1] at e; cases e
    exact ⟨us, by rw [upd_ne hk]; exact q1, q2⟩
  · rw [c]; exact R.frz k ds e
  · by_cases hb : b = l
    · subst hb; exact ⟨(R.hid _ h).1, _, upd_same⟩
    · obtain ⟨x, o, q⟩ := R.hid b f
      exact ⟨x, o, by rw [upd_ne hb]; exact q⟩
theorem Rep.unhide {l : Addr} {vs : List V} (R : Rep (F.add l) H ω) (hF : F l = false) (h : H l = some (.lst vs)) :
    Rep F H ω ∧ Same (cut (F.add l) H ω) (cut F H ω) ∧ cut F H ω l = some (.lst vs) := by
  have hl : ω l = none := (R.hid l (by simp [Fs.add])).1
  have sm : Same (cut (F.add l) H ω) (cut F H ω) := fun b o e => by
    obtain ⟨x, f, e⟩ := cut_some.mp e
    refine cut_some.mpr ⟨x, ?_, e⟩
    unfold Fs.add at f
    cases q : F b with
    | false => rfl
    | true => rw [q] at f; simp at f
  refine ⟨⟨fun k zs e => ?_, fun k ds e => (R.frz k ds e).same sm, fun b f => R.hid b (by simp [Fs.add, f]), fun k ks e => (by obtain ⟨us, q1, q2⟩ := R.dic k ks e; exact ⟨us, q1, q2.same sm⟩)⟩, sm, cut_some.mpr ⟨by rw [hl]; rfl, hF, h⟩⟩
  obtain ⟨us, q1, q2⟩ := R.own k zs e
  exact ⟨us, q1, q2.same sm⟩
theorem Rep.unhideO {l : Addr} {vs : List V} {xs : List AV} (R : Rep (F.add l) H ω) (hF : F l = false) (h : H l = some (.lst vs)) (hv : RVs (cut (F.add l) H ω) xs vs) :
    Rep F H (ω.put l (.own xs)) ∧ Same (cut (F.add l) H ω) (cut F H (ω.put l (.own xs))) := by
  have hl : ω l = none := (R.hid l (by simp [Fs.add])).1
  have sm : Same (cut (F.add l) H ω) (cut F H (ω.put l (.own xs))) := fun b o e => by
    obtain ⟨x, f, e⟩ := cut_some.mp e
    have hb : b ≠ l := fun z => by subst z; simp [Fs.add] at f
    refine cut_some.mpr ⟨by rw [Om.put_ne hb]; exact x, ?_, e⟩
    unfold Fs.add at f
    cases q : F b with
    | false => rfl
    | true => rw [q] at f; simp at f
  refine ⟨⟨fun k zs e => ?_, fun k ds e => ?_, fun b f => ?_, fun k ks e => (by
    have hk : k ≠ l := fun z => (by subst z; rw [Om.put_same] at e; cases e)
    rw [Om.put_ne hk] at e; obtain ⟨us, q1, q2⟩ := R.dic k ks e; exact ⟨us, q1, q2.same sm⟩)⟩, sm⟩
  · by_cases hk : k = l
    · subst hk; rw [Om.put_same] at e; cases e; exact ⟨vs, h, hv.same sm⟩
    · rw [Om.put_ne hk] at e
      obtain ⟨us, q1, q2⟩ := R.own k zs e
      exact ⟨us, q1, q2.same sm⟩
  · by_cases hk : k = l
    · subst hk; rw [Om.put_same] at e; cases e
    · rw [Om.put_ne hk] at e; exact (R.frz k ds e).same sm
  · have hb : b ≠ l := fun z => by subst z; rw [f] at hF; cases hF
    rw [Om.put_ne hb]; exact R.hid b (by simp [Fs.add, f])
end
end L2
set_option Elab.async false
set_option linter.all false
set_option autoImplicit false
set_option maxRecDepth 100000
set_option maxHeartbeats 1000000
namespace L2
open PySem PySem.Spec PyProof.Rows
def LP {α β : Type} (R : Hp → α → β → Prop) (F : Fs) (H : Hp) (ω : Om) (Q' : α → Om → Prop) (Q : β → Hp → Prop) : Prop :=
  ∀ a ω' v H', Rep F H' ω' → Fr F H ω H' ω' → R (cut F H' ω') a v → Q' a ω' → Q v H'
theorem LP.fr {α β : Type} {R : Hp → α → β → Prop} {F : Fs} {H H1 : Hp} {ω ω1 : Om} {Q' : α → Om → Prop} {Q : β → Hp → Prop} (k : LP R F H ω Q' Q) (f : Fr F H ω H1 ω1) : LP R F H1 ω1 Q' Q :=
  fun a ω' v H' rp fr rv q => k a ω' v H' rp (f.trans fr) rv q
structure Ref {α β : Type} (R : Hp → α → β → Prop) (t : St → Hp → (β → Hp → Prop) → Prop) (t' : SA → Om → (α → Om → Prop) → Prop) : Prop where
  run : ∀ (F : Fs) (H : Hp) (ω : Om) (σ : St) (ρ : SA) (Q : β → Hp → Prop) (Q' : α → Om → Prop), Rep F H ω → RS (cut F H ω) ρ σ → t' ρ ω Q' → LP R F H ω Q' Q → t σ H Q
theorem Ref.go {α β : Type} {R : Hp → α → β → Prop} {t : St → Hp → (β → Hp → Prop) → Prop} {t' : SA → Om → (α → Om → Prop) → Prop} (h : Ref R t t') {F : Fs} {H : Hp} {ω : Om} {σ : St} {ρ : SA} {Q : β → Hp → Prop} {Q' : α → Om → Prop}
    (rp : Rep F H ω) (rs : RS (cut F H ω) ρ σ) (w : t' ρ ω Q') (k : ∀ a ω1 v H1, Rep F H1 ω1 → Fr F H ω H1 ω1 → RS (cut F H1 ω1) ρ σ → R (cut F H1 ω1) a v → Q' a ω1 → Q v H1) : t σ H Q :=
  h.run F H ω σ ρ Q Q' rp rs w fun a ω1 v H1 rp1 fr1 rv q => k a ω1 v H1 rp1 fr1 (rs.same fr1.same) rv q
abbrev AE := SA → Om → (AV → Om → Prop) → Prop
abbrev AT := SA → Om → (Bool → Om → Prop) → Prop
abbrev AA := SA → Om → (List AV → Om → Prop) → Prop
def REq {α : Type} (_ : Hp) (a b : α) : Prop := a = b
abbrev RefE (t : TE) (t' : AE) : Prop := Ref RV t t'
abbrev RefT (t : TT) (t' : AT) : Prop := Ref REq t t'
abbrev RefA (t : TA) (t' : AA) : Prop := Ref RVs t t'
structure AEnds where
  nx : SA → Om → Prop
  rt : AV → Om → Prop
  bk : SA → Om → Prop := fun _ _ => False
  ct : SA → Om → Prop := fun _ _ => False
abbrev AS := AEnds → SA → Om → Prop
structure LE (F : Fs) (H : Hp) (ω : Om) (D' : AEnds) (D : Ends) : Prop where
  nx : LP RS F H ω D'.nx D.nx
  rt : LP RV F H ω D'.rt D.rt
  bk : LP RS F H ω D'.bk D.bk
  ct : LP RS F H ω D'.ct D.ct
theorem LE.fr {F : Fs} {H H1 : Hp} {ω ω1 : Om} {D' : AEnds} {D : Ends} (k : LE F H ω D' D) (f : Fr F H ω H1 ω1) : LE F H1 ω1 D' D := ⟨k.nx.fr f, k.rt.fr f, k.bk.fr f, k.ct.fr f⟩
structure RefS (t : TS) (t' : AS) : Prop where
  run : ∀ (F : Fs) (H : Hp) (ω : Om) (σ : St) (ρ : SA) (D : Ends) (D' : AEnds), Rep F H ω → RS (cut F H ω) ρ σ → t' D' ρ ω → LE F H ω D' D → t D σ H
abbrev AG := AV → SA → Om → (SA → Om → Prop) → Prop
abbrev AGs := List AV → SA → Om → (SA → Om → Prop) → Prop
structure RefG (g : TG) (g' : AG) : Prop where
  run : ∀ (F : Fs) (H : Hp) (ω : Om) (σ : St) (ρ : SA) (v : V) (a : AV) (Q : St → Hp → Prop) (Q' : SA → Om → Prop), Rep F H ω → RS (cut F H ω) ρ σ → RV (cut F H ω) a v → g' a ρ ω Q' → LP RS F H ω Q' Q → g v σ H Q
structure RefGs (g : TGs) (g' : AGs) : Prop where
  run : ∀ (F : Fs) (H : Hp) (ω : Om) (σ : St) (ρ : SA) (v : List V) (a : List AV) (Q : St → Hp → Prop) (Q' : SA → Om → Prop), Rep F H ω → RS (cut F H ω) ρ σ → RVs (cut F H ω) a v → g' a ρ ω Q' → LP RS F H ω Q' Q → g v σ H Q
abbrev ASp := List AV → Om → (AV → Om → Prop) → Prop
def lift (sp : ASp) : Sp := fun vs H Q _ => ∃ (F : Fs) (xs : List AV) (ω : Om) (Q' : AV → Om → Prop), Rep F H ω ∧ RVs (cut F H ω) xs vs ∧ sp xs ω Q' ∧ LP RV F H ω Q' Q
def aNext : AS := fun D ρ ω => D.nx ρ ω
def aSeq (t u : AS) : AS := fun D ρ ω => t { D with nx := u D } ρ ω
def aBreak : AS := fun D ρ ω => D.bk ρ ω
def aCont : AS := fun D ρ ω => D.ct ρ ω
def aDrop (te : AE) : AS := fun D ρ ω => te ρ ω fun _ ω1 => D.nx ρ ω1
def aRet (te : AE) : AS := fun D ρ ω => te ρ ω D.rt
def aRetN : AS := fun D _ ω => D.rt (.d .non) ω
def aIfS (c : AT) (t u : AS) : AS := fun D ρ ω => c ρ ω fun b ω1 => if b = true then t D ρ ω1 else u D ρ ω1
def aAsg (te : AE) (g : AG) : AS := fun D ρ ω => te ρ ω fun x ω1 => g x ρ ω1 D.nx
def aWhile (c : AT) (tb : AS) : AS := fun D ρ ω => ∃ W : Nat → SA → Om → Prop, (∃ m, W m ρ ω) ∧ ∀ m ρ ω, W m ρ ω →
  c ρ ω fun b ω1 => if b = true then ∃ N : SA → Om → Prop, (∀ ρ' ω', N ρ' ω' → ∃ m', m' < m ∧ W m' ρ' ω') ∧ tb { D with nx := N, ct := N, bk := D.nx } ρ ω1 else D.nx ρ ω1
def agName (i : Nat) : AG := fun v ρ ω Q => Q (ρ.set i (some v)) ω
def agNil : AGs := fun vs ρ ω Q => vs = [] ∧ Q ρ ω
def agCons (t : AG) (u : AGs) : AGs := fun vs ρ ω Q => ∃ v r, vs = v :: r ∧ t v ρ ω fun ρ' ω' => u r ρ' ω' Q
section
variable {t u : TS} {t' u' : AS} {te : TE} {te' : AE} {tc : TT} {tc' : AT} {g : TG} {g' : AG} {gs : TGs} {gs' : AGs}
theorem RS.set {G : Hp} {ρ : SA} {σ : St} {i : Nat} {a : AV} {v : V} (h : RS G ρ σ) (r : RV G a v) : RS G (ρ.set i (some a)) (σ.set i (some v)) := by
  refine ⟨by simp [h.1], fun j b e => ?_⟩
  by_cases hj : j = i
  · subst hj
    rw [List.getElem?_set] at e
    rw [List.getElem?_set]
    simp only [if_true] at e ⊢
    split at e
    · rename_i hl
      cases e
      rw [if_pos (h.1 ▸ hl)]
      exact ⟨v, rfl, r⟩
    · cases e
  · rw [List.getElem?_set_ne (Ne.symm hj)] at e
    rw [List.getElem?_set_ne (Ne.symm hj)]
    exact h.2 j b e
theorem s_next : RefS tNext aNext := ⟨fun F H ω σ ρ D D' rp rs h k => k.nx ρ ω σ H rp .refl rs h⟩
theorem s_seq (h1 : RefS t t') (h2 : RefS u u') : RefS (tSeq t u) (aSeq t' u') := ⟨fun F H ω σ ρ D D' rp rs h k =>
  h1.run F H ω σ ρ _ _ rp rs h ⟨fun ρ1 ω1 σ1 H1 rp1 fr1 rs1 q => h2.run F H1 ω1 σ1 ρ1 D D' rp1 rs1 q (k.fr fr1), k.rt, k.bk, k.ct⟩⟩
theorem s_drop (h : RefE te te') : RefS (tDrop te) (aDrop te') := ⟨fun F H ω σ ρ D D' rp rs w k => h.go rp rs w fun a ω1 v H1 rp1 fr1 rs1 rv q => k.nx ρ ω1 σ H1 rp1 fr1 rs1 q⟩
theorem s_ret (h : RefE te te') : RefS (tRet te) (aRet te') := ⟨fun F H ω σ ρ D D' rp rs w k => h.run F H ω σ ρ _ _ rp rs w k.rt⟩
theorem s_if (hc : RefT tc tc') (h1 : RefS t t') (h2 : RefS u u') : RefS (tIfS tc t u) (aIfS tc' t' u') := ⟨fun F H ω σ ρ D D' rp rs w k =>
  hc.go rp rs w fun a ω1 v H1 rp1 fr1 rs1 rv q => by
    cases (show a = v from rv)
    cases a with
    | true => rw [if_pos rfl] at q ⊢; exact h1.run F H1 ω1 σ ρ D D' rp1 rs1 q (k.fr fr1)
    | false => rw [if_neg Bool.false_ne_true] at q ⊢; exact h2.run F H1 ω1 σ ρ D D' rp1 rs1 q (k.fr fr1)⟩
theorem s_asg (h : RefE te te') (hg : RefG g g') : RefS (tAsg te g) (aAsg te' g') := ⟨fun F H ω σ ρ D D' rp rs w k => h.go rp rs w fun a ω1 v H1 rp1 fr1 rs1 rv q =>
  hg.run F H1 ω1 σ ρ v a _ _ rp1 rs1 rv q (k.nx.fr fr1)⟩
theorem g_name {i : Nat} : RefG (gName i) (agName i) := ⟨fun F H ω σ ρ v a Q Q' rp rs rv w k => k _ ω _ H rp .refl (rs.set rv) w⟩
theorem g_nil : RefGs gNil agNil := ⟨fun F H ω σ ρ vs as Q Q' rp rs rv w k => by
  obtain ⟨rfl, w⟩ := w
  exact ⟨rv, k ρ ω σ H rp .refl rs w⟩⟩
theorem g_cons (h1 : RefG g g') (h2 : RefGs gs gs') : RefGs (gCons g gs) (agCons g' gs') := ⟨fun F H ω σ ρ vs as Q Q' rp rs rv w k => by
  obtain ⟨a, r, rfl, w⟩ := w
  obtain ⟨v, us, rfl, rv1, rv2⟩ := rv
  exact ⟨v, us, rfl, h1.run F H ω σ ρ v a _ _ rp rs rv1 w fun ρ1 ω1 σ1 H1 rp1 fr1 rs1 q => h2.run F H1 ω1 σ1 ρ1 us r Q Q' rp1 rs1 (rv2.same fr1.same) q (k.fr fr1)⟩⟩
theorem s_while (hc : RefT tc tc') (hb : RefS t t') : RefS (tWhile tc t) (aWhile tc' t') := ⟨fun F H ω σ ρ D D' rp rs w k => by
  obtain ⟨W, ⟨m0, w0⟩, turn⟩ := w
  refine ⟨fun m σ1 H1 => ∃ ρ1 ω1, Rep F H1 ω1 ∧ RS (cut F H1 ω1) ρ1 σ1 ∧ Fr F H ω H1 ω1 ∧ W m ρ1 ω1, ⟨m0, ρ, ω, rp, rs, .refl, w0⟩, ?_⟩
  rintro m σ1 H1 ⟨ρ1, ω1, rp1, rs1, fr1, w1⟩
  refine hc.go rp1 rs1 (turn m ρ1 ω1 w1) fun a ω2 v H2 rp2 fr2 rs2 rv q => ?_
  cases (show a = v from rv)
  have k2 := k.fr (fr1.trans fr2)
  cases a with
  | true =>
    rw [if_pos rfl] at q ⊢
    obtain ⟨N, hN, q⟩ := q
    refine ⟨fun σ' H' => ∃ ρ' ω', Rep F H' ω' ∧ RS (cut F H' ω') ρ' σ' ∧ Fr F H ω H' ω' ∧ N ρ' ω', ?_, hb.run F H2 ω2 σ1 ρ1 _ _ rp2 rs2 q ⟨?_, k2.rt, k2.nx, ?_⟩⟩
    · rintro σ' H' ⟨ρ', ω', e1, e2, e3, e4⟩
      obtain ⟨m', hm, z⟩ := hN _ _ e4
      exact ⟨m', hm, ρ', ω', e1, e2, e3, z⟩
    · exact fun ρ' ω' σ' H' e1 e2 e3 e4 => ⟨ρ', ω', e1, e3, (fr1.trans fr2).trans e2, e4⟩
    · exact fun ρ' ω' σ' H' e1 e2 e3 e4 => ⟨ρ', ω', e1, e3, (fr1.trans fr2).trans e2, e4⟩
  | false =>
    rw [if_neg Bool.false_ne_true] at q ⊢
    exact k2.nx ρ1 ω2 σ1 H2 rp2 .refl rs2 q⟩
end
def ItOk (G : Hp) (as : List AV) (J : It) : Prop := ∀ (F : Fs) (H : Hp) (ω : Om), Rep F H ω → Same G (cut F H ω) → J.stop as.length H ∧
  ∀ (i : Nat) (a : AV), as[i]? = some a → J.go i H ∧ ∀ x H', J.yld i H x H' → Rep F H' ω ∧ Fr F H ω H' ω ∧ RV (cut F H' ω) a x
abbrev AI := SA → Om → (List AV → Om → Prop) → Prop
abbrev RefI (t : TI) (t' : AI) : Prop := Ref ItOk t t'
def aForL (g : AG) (tb : AS) (D : AEnds) : List AV → SA → Om → Prop
  | [], ρ, ω => D.nx ρ ω
  | a :: as, ρ, ω => g a ρ ω fun ρ1 ω1 => tb { nx := aForL g tb D as, ct := aForL g tb D as, bk := D.nx, rt := D.rt } ρ1 ω1
def aFor (wi : AI) (g : AG) (tb : AS) : AS := fun D ρ ω => wi ρ ω fun as ω1 => aForL g tb D as ρ ω1
theorem drop_cons {α : Type} {as : List α} {i : Nat} (h : i < as.length) : ∃ a, as[i]? = some a ∧ as.drop i = a :: as.drop (i + 1) :=
  ⟨as[i], List.getElem?_eq_getElem h, List.drop_eq_getElem_cons h⟩
theorem s_for {wi : TI} {wi' : AI} {g : TG} {g' : AG} {t : TS} {t' : AS} (hi : RefI wi wi') (hg : RefG g g') (hb : RefS t t') : RefS (tFor wi g t) (aFor wi' g' t') := ⟨fun F H ω σ ρ D D' rp rs w k => by
  rw [tFor_eq]
  refine hi.go rp rs w fun as ω1 J H1 rp1 fr1 rs1 it q => ?_
  refine ⟨fun i m σ2 H2 => m + i = as.length ∧ ∃ ρ2 ω2, Rep F H2 ω2 ∧ RS (cut F H2 ω2) ρ2 σ2 ∧ Fr F H1 ω1 H2 ω2 ∧ aForL g' t' D' (as.drop i) ρ2 ω2, ⟨as.length, rfl, ρ, ω1, rp1, rs1, .refl, q⟩, ?_⟩
  rintro i m σ2 H2 ⟨hm, ρ2, ω2, rp2, rs2, fr2, q2⟩
  obtain ⟨stop, go⟩ := it F H2 ω2 rp2 fr2.same
  by_cases hl : i < as.length
  · obtain ⟨a, ha, hd⟩ := drop_cons hl
    rw [hd] at q2
    obtain ⟨g1, y1⟩ := go i a ha
    refine .inr ⟨g1, fun σ' H' => m - 1 + (i + 1) = as.length ∧ ∃ ρ' ω', Rep F H' ω' ∧ RS (cut F H' ω') ρ' σ' ∧ Fr F H1 ω1 H' ω' ∧ aForL g' t' D' (as.drop (i + 1)) ρ' ω', fun σ' H' z => ⟨m - 1, by omega, z⟩, fun x H' hy => ?_⟩
    obtain ⟨rp3, fr3, rv3⟩ := y1 x H' hy
    have fr13 := (fr2.trans fr3)
    refine hg.run F H' ω2 σ2 ρ2 x a _ _ rp3 (rs2.same fr3.same) rv3 q2 fun ρ4 ω4 σ4 H4 rp4 fr4 rs4 q4 => ?_
    have k4 := k.fr ((fr1.trans fr13).trans fr4)
    refine hb.run F H4 ω4 σ4 ρ4 _ _ rp4 rs4 q4 ⟨?_, k4.rt, k4.nx, ?_⟩
    · exact fun ρ' ω' σ' H'' e1 e2 e3 e4 => ⟨by omega, ρ', ω', e1, e3, (fr13.trans fr4).trans e2, e4⟩
    · exact fun ρ' ω' σ' H'' e1 e2 e3 e4 => ⟨by omega, ρ', ω', e1, e3, (fr13.trans fr4).trans e2, e4⟩
  · have hi : i = as.length := by omega
    subst hi
    rw [List.drop_length] at q2
    exact .inl ⟨stop, k.nx ρ2 ω2 σ2 H2 rp2 (fr1.trans fr2) rs2 q2⟩⟩
abbrev AL := List AV → SA → Om → (List AV → SA → Om → Prop) → Prop
structure Fa (l : Addr) (F : Fs) (H : Hp) (ω : Om) (H' : Hp) (ω' : Om) : Prop where
  st : ∀ b o, ow (ω b) = false → F b = false → H b = some o → H' b = some o ∧ ow (ω' b) = false
  hd : ∀ b, F b = true → b ≠ l → H' b = H b
theorem Fr.fa {l : Addr} {F : Fs} {H H' : Hp} {ω ω' : Om} (h : Fr F H ω H' ω') : Fa l F H ω H' ω' := ⟨h.st, fun b f _ => h.hd b f⟩
theorem Fa.trans {l : Addr} {F : Fs} {H H1 H2 : Hp} {ω ω1 ω2 : Om} (a : Fa l F H ω H1 ω1) (b : Fa l F H1 ω1 H2 ω2) : Fa l F H ω H2 ω2 :=
  ⟨fun c o h f e => let ⟨x, y⟩ := a.st c o h f e; b.st c o y f x, fun c h n => (b.hd c h n).trans (a.hd c h n)⟩
theorem Fa.same {l : Addr} {F : Fs} {H H' : Hp} {ω ω' : Om} (a : Fa l F H ω H' ω') : Same (cut F H ω) (cut F H' ω') := fun b o e => by
  obtain ⟨h, f, e⟩ := cut_some.mp e
  obtain ⟨x, y⟩ := a.st b o h f e
  exact cut_some.mpr ⟨y, f, x⟩
def LL (l : Addr) (F : Fs) (H : Hp) (ω : Om) (K' : List AV → SA → Om → Prop) (K : St → Hp → Prop) : Prop :=
  ∀ xs vs ρ ω' σ H', Rep F H' ω' → Fa l F H ω H' ω' → RS (cut F H' ω') ρ σ → H' l = some (.lst vs) → RVs (cut F H' ω') xs vs → K' xs ρ ω' → K σ H'
theorem LL.fa {l : Addr} {F : Fs} {H H1 : Hp} {ω ω1 : Om} {K' : List AV → SA → Om → Prop} {K : St → Hp → Prop} (k : LL l F H ω K' K) (f : Fa l F H ω H1 ω1) : LL l F H1 ω1 K' K :=
  fun xs vs ρ ω' σ H' e1 e2 e3 e4 e5 e6 => k xs vs ρ ω' σ H' e1 (f.trans e2) e3 e4 e5 e6
structure RefL (l : TL) (l' : AL) : Prop where
  run : ∀ (F : Fs) (H : Hp) (ω : Om) (σ : St) (ρ : SA) (acc : Addr) (vs : List V) (xs : List AV) (K : St → Hp → Prop) (K' : List AV → SA → Om → Prop), Rep F H ω → RS (cut F H ω) ρ σ → F acc = true → H acc = some (.lst vs) → RVs (cut F H ω) xs vs →
    l' xs ρ ω K' → LL acc F H ω K' K → l acc σ H K
def aNoTest : AT := fun _ ω Q => Q true ω
def aLast (te : AE) : AL := fun xs ρ ω K => te ρ ω fun y ω1 => xs.length < sizeLine ∧ K (xs ++ [y]) ρ ω1
def aLoop (g : AG) (tc : AT) (l : AL) : List AV → AL
  | [], xs, ρ, ω, K => K xs ρ ω
  | a :: as, xs, ρ, ω, K => g a ρ ω fun ρ1 ω1 => tc ρ1 ω1 fun b ω2 => if b = true then l xs ρ1 ω2 (fun xs' ρ' ω' => aLoop g tc l as xs' ρ' ω' K) else aLoop g tc l as xs ρ1 ω2 K
def aLFor (wi : AI) (g : AG) (tc : AT) (l : AL) : AL := fun xs ρ ω K => wi ρ ω fun as ω1 => aLoop g tc l as xs ρ ω1 K
def blkA (src : List (Option Nat)) (ρ : SA) : SA := src.map fun o => match o with | none => none | some j => (ρ[j]?).join
def und : List AV → Option (List D)
  | [] => some []
  | .d x :: r => (und r).map (x :: ·)
  | _ => none
theorem und_map : ∀ ds : List D, und (ds.map AV.d) = some ds
  | [] => rfl
  | d :: ds => by simp [und, und_map ds]
theorem und_some : ∀ {xs : List AV} {ds : List D}, und xs = some ds → xs = ds.map AV.d
  | [], ds, h => by cases h; rfl
  | .d x :: r, ds, h => by
    simp only [und, Option.map_eq_some_iff] at h
    obtain ⟨es, e1, rfl⟩ := h
    rw [und_some e1]; rfl
  | .r _ :: _, _, h => by simp [und] at h
  | .p _ _ :: _, _, h => by simp [und] at h
def aComp (src : List (Option Nat)) (wi : AI) (g : AG) (tc : AT) (l : AL) : AE := fun ρ ω Q => wi ρ ω fun as ω1 => aLoop g tc l as [] (blkA src ρ) ω1 fun xs _ ω' => ∃ ds, und xs = some ds ∧ Q (.d (.lst ds)) ω'
def aCompO (src : List (Option Nat)) (wi : AI) (g : AG) (tc : AT) (l : AL) : AE := fun ρ ω Q => wi ρ ω fun as ω1 => aLoop g tc l as [] (blkA src ρ) ω1 fun xs _ ω' => ∀ p, ω' p = none → Q (.r (.ref p)) (ω'.put p (.own xs))
section
variable {te : TE} {te' : AE} {tc : TT} {tc' : AT} {g : TG} {g' : AG} {wi : TI} {wi' : AI} {l : TL} {l' : AL} {src : List (Option Nat)}
theorem t_no : RefT tNoTest aNoTest := ⟨fun F H ω σ ρ Q Q' rp rs w k => k true ω true H rp .refl rfl w⟩
theorem l_last (h : RefE te te') : RefL (lLast te) (aLast te') := ⟨fun F H ω σ ρ acc vs xs K K' rp rs fa ha rx w k => by
  refine h.go rp rs w fun y ω1 v H1 rp1 fr1 rs1 rv q => ?_
  obtain ⟨q1, q2⟩ := q
  have ha1 : H1 acc = some (.lst vs) := (fr1.hd acc fa).trans ha
  obtain ⟨rp2, c2⟩ := rp1.hwrite (vs := vs ++ [v]) fa
  refine ⟨vs, ha1, by rw [rx.length]; exact q1, k (xs ++ [y]) (vs ++ [v]) ρ ω1 σ _ rp2 ?_ ?_ upd_same ?_ q2⟩
  · refine fr1.fa.trans ⟨fun b o e1 e2 e3 => ⟨?_, e1⟩, fun b f n => upd_ne n⟩
    have hb : b ≠ acc := fun z => by subst z; rw [fa] at e2; cases e2
    rw [upd_ne hb]; exact e3
  · rw [c2]; exact rs1
  · rw [c2]; exact (rx.same fr1.same).append (.one rv)⟩
theorem l_loop (hg : RefG g g') (hc : RefT tc tc') (hl : RefL l l') {G : Hp} {as : List AV} {J : It} (it : ItOk G as J) {F : Fs} {H : Hp} {ω : Om} {σ : St} {ρ : SA} {acc : Addr} {vs : List V} {xs : List AV} {K : St → Hp → Prop} {K' : List AV → SA → Om → Prop}
    (rp : Rep F H ω) (rs : RS (cut F H ω) ρ σ) (fa : F acc = true) (ha : H acc = some (.lst vs)) (rx : RVs (cut F H ω) xs vs) (sG : Same G (cut F H ω)) (w : aLoop g' tc' l' as xs ρ ω K') (k : LL acc F H ω K' K) : lLoop J g tc l acc σ H K := by
  refine ⟨fun i m σ2 H2 => m + i = as.length ∧ ∃ ρ2 ω2 vs2 xs2, Rep F H2 ω2 ∧ RS (cut F H2 ω2) ρ2 σ2 ∧ Fa acc F H ω H2 ω2 ∧ H2 acc = some (.lst vs2) ∧ RVs (cut F H2 ω2) xs2 vs2 ∧ aLoop g' tc' l' (as.drop i) xs2 ρ2 ω2 K',
    ⟨as.length, rfl, ρ, ω, vs, xs, rp, rs, Fr.refl.fa, ha, rx, w⟩, ?_⟩
  rintro i m σ2 H2 ⟨hm, ρ2, ω2, vs2, xs2, rp2, rs2, fr2, ha2, rx2, q2⟩
  obtain ⟨stop, go⟩ := it F H2 ω2 rp2 (sG.trans fr2.same)
  by_cases hl' : i < as.length
  · obtain ⟨a, hai, hd⟩ := drop_cons hl'
    rw [hd] at q2
    obtain ⟨g1, y1⟩ := go i a hai
    refine .inr ⟨g1, fun x H' hy => ?_⟩
    obtain ⟨rp3, fr3, rv3⟩ := y1 x H' hy
    refine hg.run F H' ω2 σ2 ρ2 x a _ _ rp3 (rs2.same fr3.same) rv3 q2 fun ρ4 ω4 σ4 H4 rp4 fr4 rs4 q4 => ?_
    refine hc.go rp4 rs4 q4 fun b ω5 b' H5 rp5 fr5 rs5 rb q5 => ?_
    cases (show b = b' from rb)
    have fr25 : Fr F H2 ω2 H5 ω5 := (fr3.trans fr4).trans fr5
    have ha5 : H5 acc = some (.lst vs2) := (fr25.hd acc fa).trans ha2
    have rx5 := rx2.same fr25.same
    cases b with
    | true =>
      rw [if_pos rfl] at q5 ⊢
      refine hl.run F H5 ω5 σ4 ρ4 acc vs2 xs2 _ _ rp5 rs5 fa ha5 rx5 q5 fun xs6 vs6 ρ6 ω6 σ6 H6 e1 e2 e3 e4 e5 e6 => ?_
      exact ⟨m - 1, by omega, by omega, ρ6, ω6, vs6, xs6, e1, e3, (fr2.trans fr25.fa).trans e2, e4, e5, e6⟩
    | false =>
      rw [if_neg Bool.false_ne_true] at q5 ⊢
      exact ⟨m - 1, by omega, by omega, ρ4, ω5, vs2, xs2, rp5, rs5, fr2.trans fr25.fa, ha5, rx5, q5⟩
  · have hi : i = as.length := by omega
    subst hi
    rw [List.drop_length] at q2
    exact .inl ⟨stop, k xs2 vs2 ρ2 ω2 σ2 H2 rp2 fr2 rs2 ha2 rx2 q2⟩
theorem l_for (hi : RefI wi wi') (hg : RefG g g') (hc : RefT tc tc') (hl : RefL l l') : RefL (lFor wi g tc l) (aLFor wi' g' tc' l') := ⟨fun F H ω σ ρ acc vs xs K K' rp rs fa ha rx w k =>
  hi.go rp rs w fun as ω1 J H1 rp1 fr1 rs1 it q => l_loop hg hc hl it rp1 rs1 fa ((fr1.hd acc fa).trans ha) (rx.same fr1.same) (Same.refl _) q (k.fa fr1.fa)⟩
theorem RS.blk {G : Hp} {ρ : SA} {σ : St} (h : RS G ρ σ) : RS G (blkA src ρ) (blkSt src σ) := by
  refine ⟨by simp [blkA, blkSt], fun i a e => ?_⟩
  unfold blkA at e
  unfold blkSt
  rw [List.getElem?_map] at e ⊢
  cases q : src[i]? with
  | none => rw [q] at e; simp at e
  | some o =>
    rw [q] at e
    cases o with
    | none => simp at e
    | some j =>
      simp only [Option.map_some, Option.some.injEq] at e ⊢
      have e' : ρ[j]? = some (some a) := by
        cases z : ρ[j]? with
        | none => rw [z] at e; simp at e
        | some y => rw [z] at e; simp at e; rw [e]
      obtain ⟨v, e1, e2⟩ := h.2 j a e'
      exact ⟨v, by rw [e1]; rfl, e2⟩
theorem comp_at (hi : RefI wi wi') (hg : RefG g g') (hc : RefT tc tc') (hl : RefL l l') {F : Fs} {H : Hp} {ω : Om} {σ : St} {ρ : SA} {Q : VK} {K' : List AV → SA → Om → Prop} (rp : Rep F H ω) (rs : RS (cut F H ω) ρ σ)
    (w : wi' ρ ω fun as ω1 => aLoop g' tc' l' as [] (blkA src ρ) ω1 K')
    (k : ∀ p xs vs ρ' ω' H', F p = false → (∀ b o, ow (ω b) = false → F b = false → H b = some o → b ≠ p) → Rep (F.add p) H' ω' → Fr F H ω H' ω' → H' p = some (.lst vs) → RVs (cut (F.add p) H' ω') xs vs → K' xs ρ' ω' → Q (.ref p) H') : tComp src wi g tc l σ H Q := by
  refine hi.go rp rs w fun as ω1 J H1 rp1 fr1 rs1 it q => fun acc hacc => ?_
  obtain ⟨rp2, c2⟩ := rp1.hide (vs := []) hacc
  obtain ⟨f1, f2⟩ := rp1.free hacc
  have hb1 : ∀ b, b ≠ acc → F b = false → (F.add acc) b = false := fun b h f => by simp [Fs.add, h, f]
  have hne : ∀ b o, ow (ω b) = false → F b = false → H b = some o → b ≠ acc := fun b o h f e => ne_of_none (fr1.st b o h f e).1 hacc
  refine l_loop (xs := []) hg hc hl it rp2 (by rw [c2]; exact rs1.blk) (by simp [Fs.add]) upd_same rfl (by rw [c2]; exact Same.refl _) q fun xs vs ρ' ω' σ' H' e1 e2 e3 e4 e5 e6 => ?_
  refine k acc xs vs ρ' ω' H' f2 hne e1 ⟨fun b o h f e => ?_, fun b f => ?_⟩ e4 e5 e6
  · obtain ⟨x, y⟩ := fr1.st b o h f e
    have hb := hne b o h f e
    exact e2.st b o y (hb1 b hb f) (by rw [upd_ne hb]; exact x)
  · have hb : b ≠ acc := fun z => by subst z; rw [f] at f2; cases f2
    rw [e2.hd b (by simp [Fs.add, f]) hb, upd_ne hb, fr1.hd b f]
theorem e_comp (hi : RefI wi wi') (hg : RefG g g') (hc : RefT tc tc') (hl : RefL l l') : RefE (tComp src wi g tc l) (aComp src wi' g' tc' l') := ⟨fun F H ω σ ρ Q Q' rp rs w k => by
  refine comp_at hi hg hc hl rp rs w fun p xs vs ρ' ω' H' f hne rp1 fr1 e1 e2 q => ?_
  obtain ⟨ds, hu, q⟩ := q
  cases und_some hu
  obtain ⟨rp2, sm, hp⟩ := rp1.unhide f e1
  refine k (.d (.lst ds)) ω' _ H' rp2 fr1 ?_ q
  simp only [RV, Dat]
  exact ⟨p, vs, rfl, hp, RVs.dats.mp (e2.same sm)⟩⟩
theorem e_compO (hi : RefI wi wi') (hg : RefG g g') (hc : RefT tc tc') (hl : RefL l l') : RefE (tComp src wi g tc l) (aCompO src wi' g' tc' l') := ⟨fun F H ω σ ρ Q Q' rp rs w k => by
  refine comp_at hi hg hc hl rp rs w fun p xs vs ρ' ω' H' f hne rp1 fr1 e1 e2 q => ?_
  have hp : ω' p = none := (rp1.hid p (by simp [Fs.add])).1
  obtain ⟨rp2, sm⟩ := rp1.unhideO f e1 e2
  refine k (.r (.ref p)) (ω'.put p (.own xs)) _ H' rp2 ⟨fun b o h f e => ?_, fr1.hd⟩ rfl (q p hp)
  obtain ⟨x, y⟩ := fr1.st b o h f e
  rw [Om.put_ne (hne b o h f e)]
  exact ⟨x, y⟩⟩
end
end L2
set_option Elab.async false
set_option linter.all false
set_option autoImplicit false
set_option maxRecDepth 100000
set_option maxHeartbeats 1000000
namespace L2
open PySem PySem.Spec PyProof.Rows
def datA (ω : Om) : AV → Option D
  | .d x => some x
  | .r (.ref l) => match ω l with
    | some (.own xs) => (und xs).map D.lst
    | some (.frz ds) => some (.lst ds)
    | _ => none
  | _ => none
def lstA (ω : Om) : AV → Option (List AV)
  | .d (.lst ds) => some (ds.map AV.d)
  | .r (.ref l) => match ω l with
    | some (.own xs) => some xs
    | some (.frz ds) => some (ds.map AV.d)
    | _ => none
  | _ => none
def tupA : AV → Option (List AV)
  | .d (.tup ds) => some (ds.map AV.d)
  | _ => none
def frzA (ω : Om) (x : AV) (K : D → Om → Prop) : Prop := match x with
  | .d x => K x ω
  | .r (.ref l) => match ω l with
    | some (.own xs) => ∃ ds, und xs = some ds ∧ K (.lst ds) (ω.put l (.frz ds))
    | some (.frz ds) => K (.lst ds) ω
    | _ => False
  | _ => False
section
variable {F : Fs} {H : Hp} {ω : Om} {x : AV} {v : V}
theorem lst_of (rp : Rep F H ω) (rv : RV (cut F H ω) x v) {xs : List AV} (h : lstA ω x = some xs) : ∃ a vs, v = .ref a ∧ H a = some (.lst vs) ∧ RVs (cut F H ω) xs vs := by
  cases x with
  | d x => cases x with
    | lst ds =>
      simp only [lstA, Option.some.injEq] at h
      subst h
      simp only [RV, Dat] at rv
      obtain ⟨a, vs, rfl, e1, e2⟩ := rv
      exact ⟨a, vs, rfl, cut_same _ _ e1, RVs.dats.mpr e2⟩
    | _ => simp [lstA] at h
  | p u P => simp [lstA] at h
  | r u =>
    cases (show v = u from rv)
    cases v with
    | ref l =>
      simp only [lstA] at h
      cases e : ω l with
      | none => rw [e] at h; simp at h
      | some c =>
        rw [e] at h
        cases c with
        | own ys =>
          simp only [Option.some.injEq] at h
          subst h
          obtain ⟨vs, e1, e2⟩ := rp.own l _ e
          exact ⟨l, vs, rfl, e1, e2⟩
        | frz ds =>
          simp only [Option.some.injEq] at h
          subst h
          have q := rp.frz l ds e
          simp only [Dat] at q
          obtain ⟨a, vs, e1, e2, e3⟩ := q
          cases e1
          exact ⟨l, vs, rfl, cut_same _ _ e2, RVs.dats.mpr e3⟩
        | dic ks => simp at h
    | _ => simp [lstA] at h
theorem tup_of (rv : RV (cut F H ω) x v) {xs : List AV} (h : tupA x = some xs) : ∃ a vs, v = .ref a ∧ cut F H ω a = some (.tup vs) ∧ RVs (cut F H ω) xs vs := by
  cases x with
  | d x => cases x with
    | tup ds =>
      simp only [tupA, Option.some.injEq] at h
      subst h
      simp only [RV, Dat] at rv
      obtain ⟨a, vs, rfl, e1, e2⟩ := rv
      exact ⟨a, vs, rfl, e1, RVs.dats.mpr e2⟩
    | _ => simp [tupA] at h
  | p u P => simp [tupA] at h
  | r u => simp [tupA] at h
theorem dat_of (rp : Rep F H ω) (rv : RV (cut F H ω) x v) {d : D} (h : datA ω x = some d) : Dat H d v := by
  cases x with
  | d x =>
    simp only [datA, Option.some.injEq] at h
    subst h
    exact Dat.same cut_same rv
  | p u P => simp [datA] at h
  | r u =>
    cases (show v = u from rv)
    cases v with
    | ref l =>
      simp only [datA] at h
      cases e : ω l with
      | none => rw [e] at h; simp at h
      | some c =>
        rw [e] at h
        cases c with
        | own ys =>
          simp only [Option.map_eq_some_iff] at h
          obtain ⟨ds, h1, rfl⟩ := h
          cases und_some h1
          obtain ⟨vs, e1, e2⟩ := rp.own l _ e
          simp only [Dat]
          exact ⟨l, vs, rfl, e1, (RVs.dats.mp e2).same cut_same⟩
        | frz ds =>
          simp only [Option.some.injEq] at h
          subst h
          exact (rp.frz l ds e).same cut_same
        | dic ks => simp at h
    | _ => simp [datA] at h
theorem dats_of (rp : Rep F H ω) (rv : RV (cut F H ω) x v) {ds : List D} (h : datA ω x = some (.lst ds)) : ∃ a vs, v = .ref a ∧ H a = some (.lst vs) ∧ Dats (cut F H ω) ds vs := by
  have : lstA ω x = some (ds.map AV.d) := by
    cases x with
    | d x => simp only [datA, Option.some.injEq] at h; subst h; rfl
    | p u P => simp [datA] at h
    | r u => cases u with
      | ref l =>
        simp only [datA] at h
        simp only [lstA]
        cases e : ω l with
        | none => rw [e] at h; simp at h
        | some c =>
          rw [e] at h
          cases c with
          | own ys =>
            simp only [Option.map_eq_some_iff] at h
            obtain ⟨es, h1, h2⟩ := h
            cases h2
            rw [und_some h1]
          | frz es => simp only [Option.some.injEq] at h; cases h; rfl
          | dic ks => simp at h
      | _ => simp [datA] at h
  obtain ⟨a, vs, e1, e2, e3⟩ := lst_of rp rv this
  exact ⟨a, vs, e1, e2, RVs.dats.mp e3⟩
theorem frz_of (rp : Rep F H ω) (rv : RV (cut F H ω) x v) {K : D → Om → Prop} (h : frzA ω x K) : ∃ d ω', Rep F H ω' ∧ Fr F H ω H ω' ∧ Dat (cut F H ω') d v ∧ K d ω' := by
  cases x with
  | d x => exact ⟨x, ω, rp, .refl, rv, h⟩
  | p u P => exact h.elim
  | r u =>
    cases (show v = u from rv)
    cases v with
    | ref l =>
      simp only [frzA] at h
      cases e : ω l with
      | none => rw [e] at h; exact h.elim
      | some c =>
        rw [e] at h
        cases c with
        | own ys =>
          obtain ⟨ds, h1, h2⟩ := h
          cases und_some h1
          obtain ⟨q1, q2, q3⟩ := rp.freeze e
          exact ⟨_, _, q1, q2, q3, h2⟩
        | frz ds => exact ⟨_, _, rp, .refl, rp.frz l ds e, h⟩
        | dic ks => exact h.elim
    | _ => exact h.elim
end
abbrev A2 := AV → AV → Om → (AV → Om → Prop) → Prop
structure Ref2 (r : R2) (r' : A2) : Prop where
  run : ∀ (F : Fs) (H : Hp) (ω : Om) (v u : V) (x y : AV) (Q : VK) (Q' : AV → Om → Prop), Rep F H ω → RV (cut F H ω) x v → RV (cut F H ω) y u → r' x y ω Q' → LP RV F H ω Q' Q → r v u H Q
structure Ref1 (r : V → Hp → VK → Prop) (r' : AV → Om → (AV → Om → Prop) → Prop) : Prop where
  run : ∀ (F : Fs) (H : Hp) (ω : Om) (v : V) (x : AV) (Q : VK) (Q' : AV → Om → Prop), Rep F H ω → RV (cut F H ω) x v → r' x ω Q' → LP RV F H ω Q' Q → r v H Q
structure RefC (r : List V → Hp → VK → Prop) (r' : List AV → Om → (AV → Om → Prop) → Prop) : Prop where
  run : ∀ (F : Fs) (H : Hp) (ω : Om) (vs : List V) (xs : List AV) (Q : VK) (Q' : AV → Om → Prop), Rep F H ω → RVs (cut F H ω) xs vs → r' xs ω Q' → LP RV F H ω Q' Q → r vs H Q
def aVar (i : Nat) : AE := fun ρ ω Q => ∃ a, ρ[i]? = some (some a) ∧ Q a ω
def aVarF (i : Nat) : AE := fun ρ ω Q => ∃ a, ρ[i]? = some (some a) ∧ frzA ω a fun d ω' => Q (.d d) ω'
def aC (d : D) : AE := fun _ ω Q => Q (.d d) ω
def aOp (r : A2) (ta tb : AE) : AE := fun ρ ω Q => ta ρ ω fun x ω1 => tb ρ ω1 fun y ω2 => r x y ω2 Q
def aUn (r : AV → Om → (AV → Om → Prop) → Prop) (ta : AE) : AE := fun ρ ω Q => ta ρ ω fun x ω1 => r x ω1 Q
def aNil : AA := fun _ ω Q => Q [] ω
def aCons (ta : AE) (tr : AA) : AA := fun ρ ω Q => ta ρ ω fun x ω1 => tr ρ ω1 fun xs ω2 => Q (x :: xs) ω2
def aTup (t : AA) : AE := fun ρ ω Q => t ρ ω fun xs ω1 => xs.length ≤ sizeLine ∧ ∃ ds, und xs = some ds ∧ Q (.d (.tup ds)) ω1
def aLst (t : AA) : AE := fun ρ ω Q => t ρ ω fun xs ω1 => xs.length ≤ sizeLine ∧ ∃ ds, und xs = some ds ∧ Q (.d (.lst ds)) ω1
def aLstO (t : AA) : AE := fun ρ ω Q => t ρ ω fun xs ω1 => xs.length ≤ sizeLine ∧ ∀ p, ω1 p = none → Q (.r (.ref p)) (ω1.put p (.own xs))
def aCall (sp : ASp) (t : AA) : AE := fun ρ ω Q => t ρ ω fun xs ω1 => sp xs ω1 Q
def aCB (r : List AV → Om → (AV → Om → Prop) → Prop) (t : AA) : AE := fun ρ ω Q => t ρ ω fun xs ω1 => r xs ω1 Q
def aTest (t : AE) : AT := fun ρ ω Q => t ρ ω fun x ω1 => ∃ k, x = .d (.bl k) ∧ Q k ω1
def aAnd (t u : AT) : AT := fun ρ ω Q => t ρ ω fun c ω1 => if c = true then u ρ ω1 Q else Q false ω1
def aOr (t u : AT) : AT := fun ρ ω Q => t ρ ω fun c ω1 => if c = true then Q true ω1 else u ρ ω1 Q
def aNot (t : AT) : AT := fun ρ ω Q => t ρ ω fun c ω1 => Q (!c) ω1
def aAndV (ta tb : AE) : AE := fun ρ ω Q => ta ρ ω fun x ω1 => ∃ c, x = .d (.bl c) ∧ if c = true then tb ρ ω1 Q else Q (.d (.bl false)) ω1
def aOrV (ta tb : AE) : AE := fun ρ ω Q => ta ρ ω fun x ω1 => ∃ c, x = .d (.bl c) ∧ if c = true then Q (.d (.bl true)) ω1 else tb ρ ω1 Q
def aNotV (ta : AE) : AE := fun ρ ω Q => ta ρ ω fun x ω1 => ∃ c, x = .d (.bl c) ∧ Q (.d (.bl (!c))) ω1
def aIf (t : AT) (ta tb : AE) : AE := fun ρ ω Q => t ρ ω fun c ω1 => if c = true then ta ρ ω1 Q else tb ρ ω1 Q
section
variable {ta tb tc : TE} {ta' tb' tc' : AE} {t u : TT} {t' u' : AT} {r r2 : R2} {r' r2' : A2} {s : TA} {s' : AA}
theorem e_var {i : Nat} : RefE (tVar i) (aVar i) := ⟨fun F H ω σ ρ Q Q' rp rs h k => by
  obtain ⟨a, e, q⟩ := h
  obtain ⟨v, e1, e2⟩ := rs.2 i a e
  exact ⟨v, e1, k a ω v H rp .refl e2 q⟩⟩
theorem e_int {i : Int} : RefE (tC (.int i)) (aC (.int i)) := ⟨fun F H ω σ ρ Q Q' rp rs h k => k _ ω _ H rp .refl (by simp [RV, Dat]) h⟩
theorem e_str {x : Str} : RefE (tC (.str x)) (aC (.str x)) := ⟨fun F H ω σ ρ Q Q' rp rs h k => k _ ω _ H rp .refl (by simp [RV, Dat]) h⟩
theorem e_bl {b : Bool} : RefE (tC (.bl b)) (aC (.bl b)) := ⟨fun F H ω σ ρ Q Q' rp rs h k => k _ ω _ H rp .refl (by simp [RV, Dat]) h⟩
theorem e_non : RefE (tC .non) (aC .non) := ⟨fun F H ω σ ρ Q Q' rp rs h k => k _ ω _ H rp .refl (by simp [RV, Dat]) h⟩
def aRaw (v : V) : AE := fun _ ω Q => Q (.r v) ω
theorem e_raw {v : V} : RefE (tC v) (aRaw v) := ⟨fun F H ω σ ρ Q Q' rp rs h k => k (.r v) ω _ H rp .refl rfl h⟩
theorem e_op (h2 : Ref2 r r') (ha : RefE ta ta') (hb : RefE tb tb') : RefE (tOp r ta tb) (aOp r' ta' tb') := ⟨fun F H ω σ ρ Q Q' rp rs h k =>
  ha.go rp rs h fun x ω1 v H1 rp1 fr1 rs1 rv1 q1 => hb.go rp1 rs1 q1 fun y ω2 u H2 rp2 fr2 rs2 rv2 q2 => h2.run F H2 ω2 v u x y Q Q' rp2 (rv1.same fr2.same) rv2 q2 (k.fr (fr1.trans fr2))⟩
theorem a_nil : RefA tNil aNil := ⟨fun F H ω σ ρ Q Q' rp rs h k => k [] ω _ H rp .refl rfl h⟩
theorem a_cons (ha : RefE ta ta') (hs : RefA s s') : RefA (tCons ta s) (aCons ta' s') := ⟨fun F H ω σ ρ Q Q' rp rs h k =>
  ha.go rp rs h fun x ω1 v H1 rp1 fr1 rs1 rv1 q1 => hs.go rp1 rs1 q1 fun y ω2 u H2 rp2 fr2 rs2 rv2 q2 => k (x :: y) ω2 (v :: u) H2 rp2 (fr1.trans fr2) ⟨v, u, rfl, rv1.same fr2.same, rv2⟩ q2⟩
theorem e_tup (hs : RefA s s') : RefE (tTup s) (aTup s') := ⟨fun F H ω σ ρ Q Q' rp rs h k =>
  hs.go rp rs h fun xs ω1 vs H1 rp1 fr1 rs1 rv1 ⟨z, ds, hu, q1⟩ => ⟨by rw [rv1.length]; exact z, fun p hp => by
    cases und_some hu
    obtain ⟨rp2, fr2, hc⟩ := rp1.lay (o := .tup vs) hp
    refine k _ ω1 _ _ rp2 (fr1.trans fr2) ?_ q1
    simp only [RV, Dat]
    exact ⟨p, vs, rfl, hc, (RVs.dats.mp rv1).same fr2.same⟩⟩⟩
theorem e_lst (hs : RefA s s') : RefE (tLst s) (aLst s') := ⟨fun F H ω σ ρ Q Q' rp rs h k =>
  hs.go rp rs h fun xs ω1 vs H1 rp1 fr1 rs1 rv1 ⟨z, ds, hu, q1⟩ => ⟨by rw [rv1.length]; exact z, fun p hp => by
    cases und_some hu
    obtain ⟨rp2, fr2, hc⟩ := rp1.lay (o := .lst vs) hp
    refine k _ ω1 _ _ rp2 (fr1.trans fr2) ?_ q1
    simp only [RV, Dat]
    exact ⟨p, vs, rfl, hc, (RVs.dats.mp rv1).same fr2.same⟩⟩⟩
theorem e_lstO (hs : RefA s s') : RefE (tLst s) (aLstO s') := ⟨fun F H ω σ ρ Q Q' rp rs h k =>
  hs.go rp rs h fun xs ω1 vs H1 rp1 fr1 rs1 rv1 ⟨z, q1⟩ => ⟨by rw [rv1.length]; exact z, fun p hp => by
    obtain ⟨rp2, fr2⟩ := rp1.mk' (vs := vs) hp rv1
    exact k (.r (.ref p)) _ _ _ rp2 (fr1.trans fr2) rfl (q1 p (rp1.free hp).1)⟩⟩
theorem e_call {sp : ASp} {E : XK} (hs : RefA s s') : RefE (tCall (lift sp) [] E s) (aCall sp s') := ⟨fun F H ω σ ρ Q Q' rp rs h k =>
  hs.go rp rs h fun xs ω1 vs H1 rp1 fr1 rs1 rv1 q => ⟨F, xs, ω1, Q', rp1, by rw [List.append_nil]; exact rv1, q, k.fr fr1⟩⟩
theorem e_cb {r : List V → Hp → VK → Prop} {r' : List AV → Om → (AV → Om → Prop) → Prop} (hr : RefC r r') (hs : RefA s s') : RefE (tCB r s) (aCB r' s') := ⟨fun F H ω σ ρ Q Q' rp rs h k =>
  hs.go rp rs h fun xs ω1 vs H1 rp1 fr1 rs1 rv1 q => hr.run F H1 ω1 vs xs Q Q' rp1 rv1 q (k.fr fr1)⟩
theorem t_test (ha : RefE ta ta') : RefT (tTest ta) (aTest ta') := ⟨fun F H ω σ ρ Q Q' rp rs h k =>
  ha.go rp rs h fun x ω1 v H1 rp1 fr1 rs1 rv1 ⟨c, e, q⟩ => by subst e; exact ⟨c, by simpa [RV, Dat] using rv1, k c ω1 c H1 rp1 fr1 rfl q⟩⟩
theorem t_and (h1 : RefT t t') (h2 : RefT u u') : RefT (tAnd t u) (aAnd t' u') := ⟨fun F H ω σ ρ Q Q' rp rs h k =>
  h1.go rp rs h fun c ω1 c' H1 rp1 fr1 rs1 rv1 q => by
    cases (show c = c' from rv1)
    cases c with
    | true => rw [if_pos rfl] at q ⊢; exact h2.run F H1 ω1 σ ρ Q Q' rp1 rs1 q (k.fr fr1)
    | false => rw [if_neg Bool.false_ne_true] at q ⊢; exact k false ω1 false H1 rp1 fr1 rfl q⟩
theorem t_or (h1 : RefT t t') (h2 : RefT u u') : RefT (tOr t u) (aOr t' u') := ⟨fun F H ω σ ρ Q Q' rp rs h k =>
  h1.go rp rs h fun c ω1 c' H1 rp1 fr1 rs1 rv1 q => by
    cases (show c = c' from rv1)
    cases c with
    | true => rw [if_pos rfl] at q ⊢; exact k true ω1 true H1 rp1 fr1 rfl q
    | false => rw [if_neg Bool.false_ne_true] at q ⊢; exact h2.run F H1 ω1 σ ρ Q Q' rp1 rs1 q (k.fr fr1)⟩
theorem t_not (h1 : RefT t t') : RefT (tNot t) (aNot t') := ⟨fun F H ω σ ρ Q Q' rp rs h k =>
  h1.go rp rs h fun c ω1 c' H1 rp1 fr1 rs1 rv1 q => by
    cases (show c = c' from rv1)
    exact k _ ω1 _ H1 rp1 fr1 rfl q⟩
theorem rv_bl {G : Hp} {c : Bool} {v : V} (h : RV G (.d (.bl c)) v) : v = .bl c := by simpa [RV, Dat] using h
def truA (ω : Om) (x : AV) : Option Bool := match x with
  | .d .non => some false
  | .d (.bl b) => some b
  | .d (.int i) => some (i != 0)
  | .d (.tup ds) => some (!ds.isEmpty)
  | x => (lstA ω x).map fun xs => !xs.isEmpty
def aTru (ta : AE) : AT := fun ρ ω Q => ta ρ ω fun x ω1 => ∃ k, truA ω1 x = some k ∧ Q k ω1
theorem isEmpty_len {α β : Type} {xs : List α} {ys : List β} (h : xs.length = ys.length) : xs.isEmpty = ys.isEmpty := by
  cases xs <;> cases ys <;> simp_all
theorem tru_of {K : PySem.W.Frag} {F : Fs} {H1 : Hp} {ω1 : Om} {x : AV} {v : V} {c : Bool} (rp1 : Rep F H1 ω1) (rv1 : RV (cut F H1 ω1) x v) (e : truA ω1 x = some c) : TruV K v H1 c := by
    have ls : ∀ {xs : List AV}, lstA ω1 x = some xs → c = (!xs.isEmpty) → TruV K v H1 c := fun {xs} e1 e2 => by
      obtain ⟨a, vs, rfl, e3, e4⟩ := lst_of rp1 rv1 e1
      exact .inl ⟨vs, .inl (.inl e3), by rw [e2, isEmpty_len e4.length.symm]⟩
    cases x with
    | d x => cases x with
      | non => simp only [truA, Option.some.injEq] at e; simp only [RV, Dat] at rv1; subst rv1; exact e.symm
      | bl b => simp only [truA, Option.some.injEq] at e; simp only [RV, Dat] at rv1; subst rv1; exact e.symm
      | int b => simp only [truA, Option.some.injEq] at e; simp only [RV, Dat] at rv1; subst rv1; exact e.symm
      | str b => simp [truA, lstA] at e
      | tup ds =>
        simp only [truA, Option.some.injEq] at e
        simp only [RV, Dat] at rv1
        obtain ⟨a, vs, rfl, e1, e2⟩ := rv1
        exact .inr (.inl ⟨vs, .inl (.inl (cut_same _ _ e1)), by rw [← e, isEmpty_len e2.length]⟩)
      | lst ds =>
        simp only [truA, Option.map_eq_some_iff] at e
        obtain ⟨xs, e1, e2⟩ := e
        exact ls e1 e2.symm
    | r u =>
      simp only [truA, Option.map_eq_some_iff] at e
      obtain ⟨xs, e1, e2⟩ := e
      exact ls e1 e2.symm
    | p u P => simp [truA, lstA] at e
theorem t_tru {K : PySem.W.Frag} (ha : RefE ta ta') : RefT (fun σ H Q => ta σ H fun x H' => ∃ k, TruV K x H' k ∧ Q k H') (aTru ta') := ⟨fun F H ω σ ρ Q Q' rp rs h k =>
  ha.go rp rs h fun x ω1 v H1 rp1 fr1 rs1 rv1 ⟨c, e, q⟩ => ⟨c, tru_of rp1 rv1 e, k c ω1 c H1 rp1 fr1 rfl q⟩⟩
end
end L2
set_option Elab.async false
set_option linter.all false
set_option autoImplicit false
set_option maxRecDepth 100000
set_option maxHeartbeats 1000000
namespace L2
open PySem PySem.Spec PyProof.Rows
def aI0 (f : Int → Int → D) : A2 := fun x y ω Q => ∃ i j, x = .d (.int i) ∧ y = .d (.int j) ∧ Q (.d (f i j)) ω
def aI (C : Int → Int → Prop) (f : Int → Int → D) : A2 := fun x y ω Q => ∃ i j, x = .d (.int i) ∧ y = .d (.int j) ∧ C i j ∧ Q (.d (f i j)) ω
def aU (f : Int → D) : AV → Om → (AV → Om → Prop) → Prop := fun x ω Q => ∃ i, x = .d (.int i) ∧ Q (.d (f i)) ω
section
variable {F : Fs} {H : Hp} {ω : Om} {Q : VK} {Q' : AV → Om → Prop}
theorem LP.int (k : LP RV F H ω Q' Q) (rp : Rep F H ω) {i : Int} (q : Q' (.d (.int i)) ω) : Q (.int i) H := k (.d (.int i)) ω _ H rp .refl (by simp [RV, Dat]) q
theorem LP.bl (k : LP RV F H ω Q' Q) (rp : Rep F H ω) {i : Bool} (q : Q' (.d (.bl i)) ω) : Q (.bl i) H := k (.d (.bl i)) ω _ H rp .refl (by simp [RV, Dat]) q
theorem LP.str (k : LP RV F H ω Q' Q) (rp : Rep F H ω) {i : Str} (q : Q' (.d (.str i)) ω) : Q (.str i) H := k (.d (.str i)) ω _ H rp .refl (by simp [RV, Dat]) q
theorem LP.non (k : LP RV F H ω Q' Q) (rp : Rep F H ω) (q : Q' (.d .non) ω) : Q .non H := k (.d .non) ω _ H rp .refl (by simp [RV, Dat]) q
theorem rv_int {G : Hp} {i : Int} {v : V} (h : RV G (.d (.int i)) v) : v = .int i := by simpa [RV, Dat] using h
theorem rv_non {G : Hp} {v : V} (h : RV G (.d .non) v) : v = .non := by simpa [RV, Dat] using h
theorem LP.tup (k : LP RV F H ω Q' Q) (rp : Rep F H ω) {ds : List D} {vs : List V} (hd : Dats (cut F H ω) ds vs) (q : Q' (.d (.tup ds)) ω) : ∀ p, H p = none → Q (.ref p) (upd H p (.tup vs)) := fun p hp => by
  obtain ⟨rp2, fr2, hc⟩ := rp.lay (o := .tup vs) hp
  refine k (.d (.tup ds)) ω _ _ rp2 fr2 ?_ q
  simp only [RV, Dat]
  exact ⟨p, vs, rfl, hc, hd.same fr2.same⟩
theorem LP.lst (k : LP RV F H ω Q' Q) (rp : Rep F H ω) {ds : List D} {vs : List V} (hd : Dats (cut F H ω) ds vs) (q : Q' (.d (.lst ds)) ω) : ∀ p, H p = none → Q (.ref p) (upd H p (.lst vs)) := fun p hp => by
  obtain ⟨rp2, fr2, hc⟩ := rp.lay (o := .lst vs) hp
  refine k (.d (.lst ds)) ω _ _ rp2 fr2 ?_ q
  simp only [RV, Dat]
  exact ⟨p, vs, rfl, hc, hd.same fr2.same⟩
theorem LP.own (k : LP RV F H ω Q' Q) (rp : Rep F H ω) {xs : List AV} {vs : List V} (hd : RVs (cut F H ω) xs vs) (q : ∀ p, ω p = none → Q' (.r (.ref p)) (ω.put p (.own xs))) : ∀ p, H p = none → Q (.ref p) (upd H p (.lst vs)) := fun p hp => by
  obtain ⟨rp2, fr2⟩ := rp.mk' (vs := vs) hp hd
  exact k (.r (.ref p)) _ _ _ rp2 fr2 rfl (q p (rp.free hp).1)
end
theorem o_I0i {f : Int → Int → Int} : Ref2 (rI0 fun i j => .int (f i j)) (aI0 fun i j => .int (f i j)) := ⟨fun F H ω v u x y Q Q' rp h1 h2 ⟨i, j, e1, e2, q⟩ k => by
  subst e1 e2; exact ⟨i, j, rv_int h1, rv_int h2, k.int rp q⟩⟩
theorem o_I0b {f : Int → Int → Bool} : Ref2 (rI0 fun i j => .bl (f i j)) (aI0 fun i j => .bl (f i j)) := ⟨fun F H ω v u x y Q Q' rp h1 h2 ⟨i, j, e1, e2, q⟩ k => by
  subst e1 e2; exact ⟨i, j, rv_int h1, rv_int h2, k.bl rp q⟩⟩
theorem o_Ii {C : Int → Int → Prop} {f : Int → Int → Int} : Ref2 (rI C fun i j => .int (f i j)) (aI C fun i j => .int (f i j)) := ⟨fun F H ω v u x y Q Q' rp h1 h2 ⟨i, j, e1, e2, c, q⟩ k => by
  subst e1 e2; exact ⟨i, j, rv_int h1, rv_int h2, c, k.int rp q⟩⟩
def sclD : D → D → Bool
  | .non, .non => true | .non, .int _ => true | .int _, .non => true | .non, .bl _ => true | .bl _, .non => true | .non, .str _ => true | .str _, .non => true
  | .int _, .int _ => true | .bl _, .bl _ => true | .str _, .str _ => true
  | .int _, .str _ => true | .str _, .int _ => true | .bl _, .str _ => true | .str _, .bl _ => true
  | _, _ => false
def aEq : A2 := fun x y ω Q => ∃ a b, x = .d a ∧ y = .d b ∧ sclD a b = true ∧ Q (.d (.bl (eqD a b))) ω
def aNe : A2 := fun x y ω Q => ∃ a b, x = .d a ∧ y = .d b ∧ sclD a b = true ∧ Q (.d (.bl (!eqD a b))) ω
def aEqD (neg : Bool) : A2 := fun x y ω Q => ∃ a b, datA ω x = some a ∧ datA ω y = some b ∧ dep a ≤ 100 ∧ Q (.d (.bl (if neg then !eqD a b else eqD a b))) ω
theorem o_eqD {neg : Bool} : Ref2 (rEqD neg) (aEqD neg) := ⟨fun F H ω v u x y Q Q' rp h1 h2 ⟨a, b, e1, e2, s, q⟩ k => ⟨a, b, dat_of rp h1 e1, dat_of rp h2 e2, s, k.bl rp q⟩⟩
def aIn (neg : Bool) : A2 := fun x y ω Q => ∃ a b ds, datA ω x = some a ∧ datA ω y = some b ∧ (b = .lst ds ∨ b = .tup ds) ∧ deps ds ≤ 90 ∧ Q (.d (.bl (if neg then !inD a ds else inD a ds))) ω
theorem o_in {neg : Bool} : Ref2 (rInD neg) (aIn neg) := ⟨fun F H ω v u x y Q Q' rp h1 h2 ⟨a, b, ds, e1, e2, e3, s, q⟩ k => ⟨a, ds, dat_of rp h1 e1, by
  have := dat_of rp h2 e2
  rcases e3 with rfl | rfl
  · exact .inl this
  · exact .inr this, s, k.bl rp q⟩⟩
def aCatT : A2 := fun x y ω Q => ∃ ds es, x = .d (.tup ds) ∧ y = .d (.tup es) ∧ ds.length + es.length ≤ sizeLine ∧ Q (.d (.tup (ds ++ es))) ω
def rCat3 : R2 := fun x y H Q => ∃ a b xs ys, x = .ref a ∧ y = .ref b ∧ H a = some (.tup xs) ∧ H b = some (.tup ys) ∧ xs.length + ys.length ≤ sizeLine ∧
  (xs = [] → Q (.ref b) H) ∧ (ys = [] → Q (.ref a) H) ∧ ∀ p, H p = none → Q (.ref p) (upd H p (.tup (xs ++ ys)))
theorem op_cat3 {X : Cx} : OpR X (binaryOp .Add) rCat3 := by
  intro pins s σ H x y v u Q I rx ry h
  obtain ⟨a, b, xs, ys, rfl, rfl, ha, hb, hz, g1, g2, g3⟩ := h
  by_cases hn : xs = []
  · subst hn
    cases rx
    cases ry
    obtain ⟨its, r1, ht⟩ := tup_at I ha
    obtain ⟨its2, r2, hb2⟩ := tup_at I hb
    cases r1
    obtain ⟨⟨cls, dd, data, sl⟩, ho, hc, n, hd⟩ := id ht
    obtain ⟨⟨cls2, dd2, data2, sl2⟩, ho2, hc2, n2, hd2⟩ := id hb2
    simp only at hc hd hc2 hd2
    subst hc hd hc2 hd2
    exact concat_meets ⟨_, ho, rfl⟩ ⟨_, ho2, rfl⟩ noFill_tuple_add seq_tuple_add PySem.F.slot_tuple_add PySem.F.entry_tuple_add (PySem.F.args_tuple_add_2 _ _)
      (tuple_addW0 a b _ _ n n2 dd dd2 sl sl2 (by simp)) ⟨ho, ho2, ⟨.ref b, H, I, rfl, g1 rfl⟩⟩
  · exact op_catT pins s σ H (.ref a) (.ref b) v u Q I rx ry ⟨a, b, xs, ys, rfl, rfl, SqT.of ha, SqT.of hb, hn, hz, g2, fun _ p hp => g3 p hp⟩
theorem o_cat3 : Ref2 rCat3 aCatT := ⟨fun F H ω v u x y Q Q' rp h1 h2 ⟨ds, es, e1, e2, z, q⟩ k => by
  subst e1 e2
  have h1' := h1
  have h2' := h2
  simp only [RV, Dat] at h1 h2
  obtain ⟨a, xs, rfl, ha, hxs⟩ := h1
  obtain ⟨b, ys, rfl, hb, hys⟩ := h2
  refine ⟨a, b, xs, ys, rfl, rfl, cut_same _ _ ha, cut_same _ _ hb, by rw [hxs.length, hys.length]; exact z, fun e => ?_, fun e => ?_, k.tup rp (hxs.append hys) q⟩
  · have : ds = [] := List.length_eq_zero_iff.mp (by rw [← hxs.length, e]; rfl)
    subst this
    exact k _ ω _ H rp .refl h2' q
  · have : es = [] := List.length_eq_zero_iff.mp (by rw [← hys.length, e]; rfl)
    subst this
    rw [List.append_nil] at q
    exact k _ ω _ H rp .refl h1' q⟩
theorem Rep.later {F : Fs} {H H' : Hp} {ω : Om} (rp : Rep F H ω) (s : Same H H') : Rep F H' ω ∧ Fr F H ω H' ω := by
  have fr : Fr F H ω H' ω := ⟨fun b o x f e => ⟨s _ _ e, x⟩, fun b f => by
    obtain ⟨_, o, q⟩ := rp.hid b f
    rw [q, s _ _ q]⟩
  refine ⟨⟨fun l xs e => ?_, fun l ds e => (rp.frz l ds e).same fr.same, fun b f => ?_, fun l ks e => (by obtain ⟨vs, e1, e2⟩ := rp.dic l ks e; exact ⟨vs, s _ _ e1, e2.same fr.same⟩)⟩, fr⟩
  · obtain ⟨vs, e1, e2⟩ := rp.own l xs e
    exact ⟨vs, s _ _ e1, e2.same fr.same⟩
  · obtain ⟨x, o, q⟩ := rp.hid b f
    exact ⟨x, o, s _ _ q⟩
theorem LP.pure {F : Fs} {H H' : Hp} {ω : Om} {Q : VK} {Q' : AV → Om → Prop} (k : LP RV F H ω Q' Q) (rp : Rep F H ω) (s : Same H H') {d : D} {v : V} (hn : noL d = true) (hd : Dat H' d v) (q : Q' (.d d) ω) : Q v H' := by
  obtain ⟨rp2, fr⟩ := rp.later s
  refine k (.d d) ω v H' rp2 fr (Dat.t (fun b xs e => ?_) hn hd) q
  refine cut_some.mpr ⟨?_, ?_, e⟩
  · cases z : ow (ω b) with
    | false => rfl
    | true =>
      cases y : ω b with
      | none => rw [y] at z; cases z
      | some c => cases c with
        | frz ds => rw [y] at z; cases z
        | own ys =>
          obtain ⟨vs, e1, _⟩ := rp2.own b ys y
          rw [e] at e1; cases e1
        | dic ys =>
          obtain ⟨vs, e1, _⟩ := rp2.dic b ys y
          rw [e] at e1; cases e1
  · cases z : F b with
    | false => rfl
    | true =>
      obtain ⟨_, o, q⟩ := rp.hid b z
      have := s _ _ q
      rw [e] at this
      cases this
def aIxL : A2 := fun x y ω Q => ∃ xs i a, lstA ω x = some xs ∧ y = .d (.int i) ∧ atI xs i = some a ∧ Q a ω
def aIxT : A2 := fun x y ω Q => ∃ xs i a, tupA x = some xs ∧ y = .d (.int i) ∧ atI xs i = some a ∧ Q a ω
theorem RVs.atI {G : Hp} {xs : List AV} {vs : List V} {i : Int} {a : AV} (h : RVs G xs vs) (e : atI xs i = some a) : ∃ v, L2.atI vs i = some v ∧ RV G a v := by
  unfold L2.atI at e ⊢
  rw [h.length]
  cases z : ixN xs.length i with
  | none => rw [z] at e; cases e
  | some j =>
    rw [z] at e
    exact h.get e
theorem o_ixL {K : PySem.W.Frag} : Ref2 (rIxL K) aIxL := ⟨fun F H ω v u x y Q Q' rp h1 h2 ⟨xs, i, a, e1, e2, e3, q⟩ k => by
  subst e2
  obtain ⟨l, vs, rfl, q1, q2⟩ := lst_of rp h1 e1
  obtain ⟨w, z1, z2⟩ := q2.atI e3
  exact ⟨l, vs, i, w, rfl, rv_int h2, .inl (.inl q1), z1, k a ω w H rp .refl z2 q⟩⟩
theorem o_ixT {K : PySem.W.Frag} : Ref2 (rIxT K) aIxT := ⟨fun F H ω v u x y Q Q' rp h1 h2 ⟨xs, i, a, e1, e2, e3, q⟩ k => by
  subst e2
  obtain ⟨l, vs, rfl, q1, q2⟩ := tup_of h1 e1
  obtain ⟨w, z1, z2⟩ := q2.atI e3
  exact ⟨l, vs, i, w, rfl, rv_int h2, .inl (.inl (cut_same _ _ q1)), z1, k a ω w H rp .refl z2 q⟩⟩
def aIx : A2 := fun x y ω Q => ∃ xs i a, (lstA ω x = some xs ∨ tupA x = some xs) ∧ y = .d (.int i) ∧ atI xs i = some a ∧ Q a ω
theorem o_ix {K : PySem.W.Frag} : Ref2 (rIx K) aIx := ⟨fun F H ω v u x y Q Q' rp h1 h2 ⟨xs, i, a, e1, e2, e3, q⟩ k => by
  rcases e1 with e1 | e1
  · exact .inl (o_ixL.run F H ω v u x y Q Q' rp h1 h2 ⟨xs, i, a, e1, e2, e3, q⟩ k)
  · exact .inr (.inl (o_ixT.run F H ω v u x y Q Q' rp h1 h2 ⟨xs, i, a, e1, e2, e3, q⟩ k))⟩
def aIsN (neg : Bool) : A2 := fun x y ω Q => ∃ a, x = .d a ∧ y = .d .non ∧ Q (.d (.bl (if neg then !eqD a .non else eqD a .non))) ω
def aIsB (f : Bool → Bool → Bool) : A2 := fun x y ω Q => ∃ a b, x = .d (.bl a) ∧ y = .d (.bl b) ∧ Q (.d (.bl (f a b))) ω
abbrev AC := List AV → Om → (AV → Om → Prop) → Prop
theorem rvs1 {G : Hp} {a : AV} {vs : List V} (h : RVs G [a] vs) : ∃ v, vs = [v] ∧ RV G a v := by
  obtain ⟨v, r, rfl, h1, h2⟩ := h
  cases h2
  exact ⟨v, rfl, h1⟩
theorem rvs2 {G : Hp} {a b : AV} {vs : List V} (h : RVs G [a, b] vs) : ∃ v u, vs = [v, u] ∧ RV G a v ∧ RV G b u := by
  obtain ⟨v, r, rfl, h1, h2⟩ := h
  obtain ⟨u, rfl, h3⟩ := rvs1 h2
  exact ⟨v, u, rfl, h1, h3⟩
def lenA (ω : Om) (x : AV) : Option Nat := match tupA x with
  | some xs => some xs.length
  | none => (lstA ω x).map List.length
def aLen : AC := fun xs ω Q => ∃ x n, xs = [x] ∧ lenA ω x = some n ∧ Q (.d (.int n)) ω
theorem c_len {K : PySem.W.Frag} : RefC (fun xs H Q => ∃ x n, xs = [x] ∧ LenV K x H n ∧ Q (.int n) H) aLen := ⟨fun F H ω vs xs Q Q' rp rv ⟨x, n, e1, e2, q⟩ k => by
  subst e1
  obtain ⟨v, rfl, r⟩ := rvs1 rv
  refine ⟨v, n, rfl, ?_, k.int rp q⟩
  unfold lenA at e2
  cases z : tupA x with
  | some xs =>
    rw [z] at e2; cases e2
    obtain ⟨a, us, rfl, q1, q2⟩ := tup_of r z
    exact .inr ⟨us, .inl (.inl (cut_same _ _ q1)), q2.length.symm⟩
  | none =>
    rw [z] at e2
    simp only [Option.map_eq_some_iff] at e2
    obtain ⟨ys, e3, rfl⟩ := e2
    obtain ⟨a, us, rfl, q1, q2⟩ := lst_of rp r e3
    exact .inl ⟨us, .inl (.inl q1), q2.length.symm⟩⟩
def aAll (f : List Bool → Bool) : AC := fun xs ω Q => ∃ x bs, xs = [x] ∧ datA ω x = some (.lst (bs.map D.bl)) ∧ Q (.d (.bl (f bs))) ω
def aSum : AC := fun xs ω Q => ∃ (x : AV) (ns : List Int), xs = [x] ∧ datA ω x = some (.lst (ns.map D.int)) ∧ Q (.d (.int ns.sum)) ω
def aSumT : AC := fun xs ω Q => ∃ ns : List Int, xs = [.d (.tup (ns.map D.int))] ∧ Q (.d (.int ns.sum)) ω
def aF2 (f : Int → Int → Int) : AC := fun xs ω Q => ∃ i j, xs = [.d (.int i), .d (.int j)] ∧ Q (.d (.int (f i j))) ω
def aF1 (f : Int → Int) : AC := fun xs ω Q => ∃ i, xs = [.d (.int i)] ∧ Q (.d (.int (f i))) ω
theorem c_F1 {f : Int → Int} : RefC (fun xs H Q => ∃ i, xs = [.int i] ∧ Q (.int (f i)) H) (aF1 f) := ⟨fun F H ω vs xs Q Q' rp rv ⟨i, e1, q⟩ k => by
  subst e1
  obtain ⟨v, rfl, r1⟩ := rvs1 rv
  exact ⟨i, by rw [rv_int r1], k.int rp q⟩⟩
def intD : D → Option Int
  | .int i => some i
  | .bl k => some (if k then 1 else 0)
  | _ => none
def aInt : AC := fun xs ω Q => ∃ d i, xs = [.d d] ∧ intD d = some i ∧ Q (.d (.int i)) ω
theorem c_int : RefC (fun xs H Q => (∃ i, xs = [.int i] ∧ Q (.int i) H) ∨ ∃ k, xs = [.bl k] ∧ Q (.int (if k then 1 else 0)) H) aInt := ⟨fun F H ω vs xs Q Q' rp rv ⟨d, i, e1, e2, q⟩ k => by
  subst e1
  obtain ⟨v, rfl, r1⟩ := rvs1 rv
  cases d with
  | int j => simp only [intD, Option.some.injEq] at e2; subst e2; exact .inl ⟨_, by rw [rv_int r1], k.int rp q⟩
  | bl j => simp only [intD, Option.some.injEq] at e2; subst e2; exact .inr ⟨j, by rw [rv_bl r1], k.int rp q⟩
  | _ => cases e2⟩
def boolD : D → Option Bool
  | .int i => some (i != 0)
  | .bl k => some k
  | _ => none
def aBool : AC := fun xs ω Q => ∃ d i, xs = [.d d] ∧ boolD d = some i ∧ Q (.d (.bl i)) ω
def aTupOf : AC := fun xs ω Q => ∃ x ds, xs = [x] ∧ (datA ω x = some (.lst ds) ∨ x = .d (.tup ds)) ∧ Q (.d (.tup ds)) ω
theorem c_tuple {K : PySem.W.Frag} : RefC (fun xs H Q => ∃ p ys, xs = [.ref p] ∧ ((SqL K H p ys ∧ ∀ l, H l = none → Q (.ref l) (upd H l (.tup ys))) ∨ (SqT K H p ys ∧ Q (.ref p) H))) aTupOf := ⟨fun F H ω vs xs Q Q' rp rv ⟨x, ds, e1, e2, q⟩ k => by
  subst e1
  obtain ⟨v, rfl, r1⟩ := rvs1 rv
  rcases e2 with e2 | rfl
  · obtain ⟨a, us, rfl, q1, q2⟩ := dats_of rp r1 e2
    exact ⟨a, us, rfl, .inl ⟨.inl (.inl q1), k.tup rp q2 q⟩⟩
  · have r2 := r1
    simp only [RV, Dat] at r2
    obtain ⟨a, us, rfl, q1, q2⟩ := r2
    exact ⟨a, us, rfl, .inr ⟨.inl (.inl (cut_same _ _ q1)), k _ ω _ H rp .refl r1 q⟩⟩⟩
def aListOf : AC := fun xs ω Q => ∃ x ds, xs = [x] ∧ (datA ω x = some (.lst ds) ∨ x = .d (.tup ds)) ∧ Q (.d (.lst ds)) ω
def aListO : AC := fun xs ω Q => ∃ x ds, xs = [x] ∧ (datA ω x = some (.lst ds) ∨ x = .d (.tup ds)) ∧ ∀ p, ω p = none → Q (.r (.ref p)) (ω.put p (.own (ds.map AV.d)))
theorem c_list {K : PySem.W.Frag} : RefC (fun xs H Q => ∃ p ys, xs = [.ref p] ∧ (SqL K H p ys ∨ SqT K H p ys) ∧ ∀ l, H l = none → Q (.ref l) (upd H l (.lst ys))) aListOf := ⟨fun F H ω vs xs Q Q' rp rv ⟨x, ds, e1, e2, q⟩ k => by
  subst e1
  obtain ⟨v, rfl, r1⟩ := rvs1 rv
  rcases e2 with e2 | rfl
  · obtain ⟨a, us, rfl, q1, q2⟩ := dats_of rp r1 e2
    exact ⟨a, us, rfl, .inl (.inl (.inl q1)), k.lst rp q2 q⟩
  · have r2 := r1
    simp only [RV, Dat] at r2
    obtain ⟨a, us, rfl, q1, q2⟩ := r2
    exact ⟨a, us, rfl, .inr (.inl (.inl (cut_same _ _ q1))), k.lst rp q2 q⟩⟩
end L2
set_option Elab.async false
set_option linter.all false
set_option autoImplicit false
set_option maxRecDepth 100000
set_option maxHeartbeats 1000000
namespace L2
open PySem PySem.Spec PyProof.Rows
def aiList (te : AE) : AI := fun ρ ω R => te ρ ω fun x ω1 => frzA ω1 x fun d ω2 => ∃ ds, d = .lst ds ∧ R (ds.map AV.d) ω2
def aiTup (te : AE) : AI := fun ρ ω R => te ρ ω fun x ω1 => ∃ ds, x = .d (.tup ds) ∧ R (ds.map AV.d) ω1
def rngA (lo : Int) (n : Nat) : List AV := (List.range n).map fun i => AV.d (.int (lo + (i : Nat)))
def aiRng1 (ta : AA) : AI := fun ρ ω R => ta ρ ω fun xs ω1 => ∃ j : Int, xs = [.d (.int j)] ∧ -(2 ^ 62) ≤ j ∧ j < 2 ^ 62 ∧ R (rngA 0 j.toNat) ω1
def aiRng2 (ta : AA) : AI := fun ρ ω R => ta ρ ω fun xs ω1 => ∃ i j : Int, xs = [.d (.int i), .d (.int j)] ∧ (-(2 ^ 62) ≤ i ∧ i < 2 ^ 62 ∧ -(2 ^ 62) ≤ j ∧ j < 2 ^ 62) ∧ R (rngA i (j - i).toNat) ω1
def enumA (ds : List D) : List AV := ds.zipIdx.map fun p => AV.d (.tup [.int (p.2 : Nat), p.1])
def zipA (ds es : List D) : List AV := (ds.zip es).map fun p => AV.d (.tup [p.1, p.2])
section
variable {te : TE} {te' : AE} {ta : TA} {ta' : AA} {K : PySem.W.Frag}
theorem it_list {G : Hp} {ds : List D} {a : Addr} (h : Dat G (.lst ds) (.ref a)) : ItOk G (ds.map AV.d) (Itl K a) := fun F H ω rp s => by
  have h2 := h.same s
  simp only [Dat] at h2
  obtain ⟨_, vs, e, ha, hd⟩ := h2
  cases e
  have hq : SqL K H a vs := .inl (.inl (cut_same _ _ ha))
  have hl := hd.length
  refine ⟨⟨vs, hq, by simp; omega⟩, fun i x hx => ?_⟩
  obtain ⟨v, e1, e2⟩ := (RVs.dats.mpr hd).get hx
  refine ⟨⟨vs, v, hq, e1⟩, fun y H' hy => ?_⟩
  obtain ⟨rfl, hy⟩ := hy
  have := hy vs hq
  rw [e1] at this
  cases this
  exact ⟨rp, .refl, e2⟩
theorem it_tup {G : Hp} {ds : List D} {a : Addr} (h : Dat G (.tup ds) (.ref a)) : ItOk G (ds.map AV.d) (Itt K a) := fun F H ω rp s => by
  have h2 := h.same s
  simp only [Dat] at h2
  obtain ⟨_, vs, e, ha, hd⟩ := h2
  cases e
  have hq : SqT K H a vs := .inl (.inl (cut_same _ _ ha))
  have hl := hd.length
  refine ⟨⟨vs, hq, by simp; omega⟩, fun i x hx => ?_⟩
  obtain ⟨v, e1, e2⟩ := (RVs.dats.mpr hd).get hx
  refine ⟨⟨vs, v, hq, e1⟩, fun y H' hy => ?_⟩
  obtain ⟨rfl, hy⟩ := hy
  have := hy vs hq
  rw [e1] at this
  cases this
  exact ⟨rp, .refl, e2⟩
theorem dat_ref_l {G : Hp} {ds : List D} {v : V} (h : Dat G (.lst ds) v) : ∃ a vs, v = .ref a ∧ G a = some (.lst vs) := by
  simp only [Dat] at h
  obtain ⟨a, vs, e, h, _⟩ := h
  exact ⟨a, vs, e, h⟩
theorem dat_ref_t {G : Hp} {ds : List D} {v : V} (h : Dat G (.tup ds) v) : ∃ a vs, v = .ref a ∧ G a = some (.tup vs) := by
  simp only [Dat] at h
  obtain ⟨a, vs, e, h, _⟩ := h
  exact ⟨a, vs, e, h⟩
theorem it_rng {G : Hp} {lo : Int} {n : Nat} : ItOk G (rngA lo n) (Itr lo n) := fun F H ω rp s => by
  refine ⟨by simp [rngA, Itr], fun i x hx => ?_⟩
  unfold rngA at hx
  rw [List.getElem?_map] at hx
  by_cases hi : i < n
  · rw [List.getElem?_range hi] at hx
    simp only [Option.map_some, Option.some.injEq] at hx
    subst hx
    refine ⟨hi, fun y H' hy => ?_⟩
    obtain ⟨rfl, rfl⟩ := hy
    exact ⟨rp, .refl, by simp [RV, Dat]⟩
  · rw [List.getElem?_eq_none (by simp; omega)] at hx
    cases hx
theorem i_rng1 (h : RefA ta ta') : RefI (iRng1 ta) (aiRng1 ta') := ⟨fun F H ω σ ρ R R' rp rs w k => h.go rp rs w fun xs ω1 vs H1 rp1 fr1 rs1 rv ⟨j, e, h1, h2, q⟩ => by
  subst e
  obtain ⟨v, rfl, r⟩ := rvs1 rv
  exact ⟨j, by rw [rv_int r], h1, h2, k _ ω1 _ H1 rp1 fr1 it_rng q⟩⟩
def aiEnumL (ta : AA) : AI := fun ρ ω R => ta ρ ω fun xs ω1 => ∃ x, xs = [x] ∧ frzA ω1 x fun d ω2 => ∃ ds, d = .lst ds ∧ R (enumA ds) ω2
def aiEnumT (ta : AA) : AI := fun ρ ω R => ta ρ ω fun xs ω1 => ∃ ds, xs = [.d (.tup ds)] ∧ R (enumA ds) ω1
def seqD : D → Option (List D)
  | .tup ds => some ds
  | .lst ds => some ds
  | _ => none
end
def agTup (n : Nat) (t : AGs) : AG := fun v ρ ω Q => ∃ ds, v = .d (.tup ds) ∧ ds.length = n ∧ t (ds.map AV.d) ρ ω Q
def agLst (n : Nat) (t : AGs) : AG := fun v ρ ω Q => ∃ xs, lstA ω v = some xs ∧ xs.length = n ∧ t xs ρ ω Q
def agSub (to ti : AE) : AG := fun v ρ ω Q => to ρ ω fun o ω1 => ti ρ ω1 fun i ω2 => ∃ l k xs j, o = .r (.ref l) ∧ i = .d (.int k) ∧ ω2 l = some (.own xs) ∧ ixN xs.length k = some j ∧ Q ρ (ω2.put l (.own (xs.set j v)))
section
variable {K : PySem.W.Frag} {n : Nat} {gs : TGs} {gs' : AGs} {to ti : TE} {to' ti' : AE}
theorem g_tup (h : RefGs gs gs') : RefG (gTup K n gs) (agTup n gs') := ⟨fun F H ω σ ρ v a Q Q' rp rs rv ⟨ds, e, hn, q⟩ k => by
  subst e
  simp only [RV, Dat] at rv
  obtain ⟨b, vs, rfl, h1, h2⟩ := rv
  exact ⟨b, vs, rfl, .inl (.inl (cut_same _ _ h1)), by rw [h2.length]; exact hn, h.run F H ω σ ρ vs _ Q Q' rp rs (RVs.dats.mpr h2) q k⟩⟩
theorem g_lst (h : RefGs gs gs') : RefG (gLst K n gs) (agLst n gs') := ⟨fun F H ω σ ρ v a Q Q' rp rs rv ⟨xs, e, hn, q⟩ k => by
  obtain ⟨b, vs, rfl, h1, h2⟩ := lst_of rp rv e
  exact ⟨b, vs, rfl, .inl (.inl h1), by rw [h2.length]; exact hn, h.run F H ω σ ρ vs _ Q Q' rp rs h2 q k⟩⟩
theorem g_sub (ho : RefE to to') (hi : RefE ti ti') : RefG (gSub to ti rSetL) (agSub to' ti') := ⟨fun F H ω σ ρ v a Q Q' rp rs rv w k =>
  ho.go rp rs w fun x ω1 u H1 rp1 fr1 rs1 rv1 q1 => hi.go rp1 rs1 q1 fun y ω2 u2 H2 rp2 fr2 rs2 rv2 ⟨l, j, xs, i, e1, e2, e3, e4, q⟩ => by
    subst e1 e2
    have e5 : u = .ref l := rv1
    obtain ⟨vs, z1, z2⟩ := rp2.own l xs e3
    have rv' := rv.same (fr1.trans fr2).same
    obtain ⟨rp3, fr3⟩ := rp2.write e3 (z2.set i rv')
    have fr := (fr1.trans fr2).trans fr3
    exact ⟨l, vs, j, i, e5, rv_int rv2, z1, by rw [z2.length]; exact e4, k ρ _ σ _ rp3 fr (rs.same fr.same) q⟩⟩
end
def cutL {α : Type} (xs : List α) (lo hi : Option Int) : List α := (xs.drop (HT.sIx xs.length 0 lo)).take (HT.sIx xs.length xs.length hi - HT.sIx xs.length 0 lo)
abbrev AO := SA → Om → (Option Int → Om → Prop) → Prop
def aoNone : AO := fun _ ω Q => Q none ω
def aoSome (t : AE) : AO := fun ρ ω Q => t ρ ω fun x ω1 => ∃ i, x = .d (.int i) ∧ Q (some i) ω1
def aSlL (te : AE) (tl th : AO) : AE := fun ρ ω Q => te ρ ω fun x ω1 => tl ρ ω1 fun lo ω2 => th ρ ω2 fun hi ω3 => ∃ ds, datA ω3 x = some (.lst ds) ∧ Q (.d (.lst (cutL ds lo hi))) ω3
def aSlT (te : AE) (tl th : AO) : AE := fun ρ ω Q => te ρ ω fun x ω1 => tl ρ ω1 fun lo ω2 => th ρ ω2 fun hi ω3 => ∃ ds, x = .d (.tup ds) ∧ Q (.d (.tup (cutL ds lo hi))) ω3
theorem Dats.cut {G : Hp} {ds : List D} {vs : List V} {lo hi : Option Int} (h : Dats G ds vs) : Dats G (cutL ds lo hi) (cutV vs lo hi) := by
  unfold cutL cutV
  rw [h.length]
  exact (h.drop _).take _
section
variable {K : PySem.W.Frag} {te ts : TE} {te' ts' : AE} {tl th : TO} {tl' th' : AO}
theorem n_none : Ref REq tNoPart aoNone := ⟨fun F H ω σ ρ Q Q' rp rs w k => k none ω none H rp .refl rfl w⟩
theorem n_some (h : RefE te te') : Ref REq (tPart te) (aoSome te') := ⟨fun F H ω σ ρ Q Q' rp rs w k => h.go rp rs w fun x ω1 v H1 rp1 fr1 rs1 rv ⟨i, e, q⟩ => by
  subst e; exact ⟨i, rv_int rv, k _ ω1 _ H1 rp1 fr1 rfl q⟩⟩
def aRev (te : AE) : AE := fun ρ ω Q => te ρ ω fun x ω1 => ∃ ds, datA ω1 x = some (.lst ds) ∧ Q (.d (.lst ds.reverse)) ω1
end
def aAppend (to : AE) (t : AA) : AE := fun ρ ω Q => to ρ ω fun x ω1 => ∃ l, x = .r (.ref l) ∧ (∃ zs, ω1 l = some (.own zs)) ∧ t ρ ω1 fun ys ω2 => ∃ xs y, ys = [y] ∧ ω2 l = some (.own xs) ∧ xs.length < sizeLine ∧ Q (.d .non) (ω2.put l (.own (xs ++ [y])))
def aExtend (to : AE) (t : AA) : AE := fun ρ ω Q => to ρ ω fun x ω1 => ∃ l, x = .r (.ref l) ∧ (∃ zs, ω1 l = some (.own zs)) ∧ t ρ ω1 fun ys ω2 => ∃ xs y zs, ys = [y] ∧ ω2 l = some (.own xs) ∧ lstA ω2 y = some zs ∧ xs.length + zs.length ≤ sizeLine ∧ Q (.d .non) (ω2.put l (.own (xs ++ zs)))
def aPop (to : AE) : AE := fun ρ ω Q => to ρ ω fun x ω1 => ∃ l xs y, x = .r (.ref l) ∧ ω1 l = some (.own xs) ∧ xs[xs.length - 1]? = some y ∧ Q y (ω1.put l (.own xs.dropLast))
def aClear (to : AE) : AE := fun ρ ω Q => to ρ ω fun x ω1 => ∃ l xs, x = .r (.ref l) ∧ ω1 l = some (.own xs) ∧ Q (.d .non) (ω1.put l (.own []))
section
variable {K : PySem.W.Frag} {to : TE} {to' : AE} {t : TA} {t' : AA}
theorem e_append (ho : RefE to to') (ht : RefA t t') : RefE (tBM K "list" rAppend to t) (aAppend to' t') := ⟨fun F H ω σ ρ Q Q' rp rs w k =>
  ho.go rp rs w fun x ω1 v H1 rp1 fr1 rs1 rv1 ⟨l, e, ⟨zs, hz⟩, q1⟩ => by
    subst e
    cases (show v = .ref l from rv1)
    obtain ⟨us, z1, _⟩ := rp1.own l zs hz
    refine ⟨.inl ⟨rfl, us, .inl (.inl z1)⟩, ht.go rp1 rs1 q1 fun ys ω2 vs H2 rp2 fr2 rs2 rv2 ⟨xs, y, e1, e2, e3, q⟩ => ?_⟩
    subst e1
    obtain ⟨u, rfl, r⟩ := rvs1 rv2
    obtain ⟨ws, z3, z4⟩ := rp2.own l xs e2
    obtain ⟨rp3, fr3⟩ := rp2.write e2 (z4.append (.one r))
    exact ⟨l, ws, u, rfl, rfl, z3, by rw [z4.length]; exact e3, k _ _ _ _ rp3 ((fr1.trans fr2).trans fr3) (by simp [RV, Dat]) q⟩⟩
end
def aRepr : AC := fun xs ω Q => ∃ x d, xs = [x] ∧ datA ω x = some d ∧ (seqD d).isSome = true ∧ dep d ≤ 90 ∧ fit d = true ∧ wt d ≤ 1000000 ∧ Q (.d (.str (repD d))) ω
def aSorted : AC := fun xs ω Q => ∃ (x : AV) (W : List (List Int)), xs = [x] ∧ datA ω x = some (.lst (W.map wdD)) ∧ (∀ y ∈ W, y ≠ []) ∧ W.length < 64 ∧ Q (.d (.lst ((srtW W).map wdD))) ω
theorem Rep.stays {F : Fs} {H : Hp} {ω : Om} (rp : Rep F H ω) : TSame H (cut F H ω) := fun b xs e => by
  refine cut_some.mpr ⟨?_, ?_, e⟩
  · cases y : ω b with
    | none => rfl
    | some c => cases c with
      | frz ds => rfl
      | own ys =>
        obtain ⟨vs, e1, _⟩ := rp.own b ys y
        rw [e] at e1; cases e1
      | dic ys =>
        obtain ⟨vs, e1, _⟩ := rp.dic b ys y
        rw [e] at e1; cases e1
  · cases z : F b with
    | false => rfl
    | true =>
      obtain ⟨_, vs, q⟩ := rp.hid b z
      rw [e] at q; cases q
def tyD : D → String
  | .non => "NoneType" | .bl _ => "bool" | .int _ => "int" | .str _ => "str" | .tup _ => "tuple" | .lst _ => "list"
def isD (T : String) (d : D) : Bool := tyD d == T || (tyD d == "bool" && T == "int")
def aIsA : AC := fun xs ω Q => ∃ x d T, xs = [x, .r (.ty T)] ∧ datA ω x = some d ∧ T ∈ kinds ∧ Q (.d (.bl (isD T d))) ω
def aCatL : A2 := fun x y ω Q => ∃ ds es, datA ω x = some (.lst ds) ∧ datA ω y = some (.lst es) ∧ ds.length + es.length ≤ sizeLine ∧ Q (.d (.lst (ds ++ es))) ω
theorem o_catL : Ref2 rCat aCatL := ⟨fun F H ω v u x y Q Q' rp h1 h2 ⟨ds, es, e1, e2, z, q⟩ k => by
  obtain ⟨a, vs, rfl, z1, z2⟩ := dats_of rp h1 e1
  obtain ⟨b, us, rfl, z3, z4⟩ := dats_of rp h2 e2
  exact ⟨a, b, vs, us, rfl, rfl, z1, z3, by rw [z2.length, z4.length]; exact z, k.lst rp (z2.append z4) q⟩⟩
def aCatLO : A2 := fun x y ω Q => ∃ xs ys, lstA ω x = some xs ∧ lstA ω y = some ys ∧ xs.length + ys.length ≤ sizeLine ∧ ∀ p, ω p = none → Q (.r (.ref p)) (ω.put p (.own (xs ++ ys)))
def aRepL : A2 := fun x y ω Q => ∃ ds k, datA ω x = some (.lst ds) ∧ y = .d (.int k) ∧ -(2 ^ 63) ≤ k ∧ k < 2 ^ 63 ∧ ds.length * k.toNat ≤ sizeLine ∧ Q (.d (.lst (List.replicate k.toNat ds).flatten)) ω
theorem Dats.rep {G : Hp} {ds : List D} {vs : List V} (h : Dats G ds vs) : ∀ n : Nat, Dats G (List.replicate n ds).flatten (List.replicate n vs).flatten
  | 0 => by simp [Dats]
  | n + 1 => by
    simp only [List.replicate_succ, List.flatten_cons]
    exact h.append (h.rep n)
theorem o_repL : Ref2 rRep aRepL := ⟨fun F H ω v u x y Q Q' rp h1 h2 ⟨ds, k', e1, e2, b1, b2, z, q⟩ k => by
  subst e2
  obtain ⟨a, vs, rfl, z1, z2⟩ := dats_of rp h1 e1
  exact ⟨a, k', vs, rfl, rv_int h2, z1, b1, b2, by rw [z2.length]; exact z, k.lst rp (z2.rep _) q⟩⟩
def aChain (r r' : A2) (ta tb tc : AE) : AE := fun ρ ω Q => ta ρ ω fun x ω1 => tb ρ ω1 fun y ω2 => r x y ω2 fun z ω3 => ∃ k, z = .d (.bl k) ∧ (if k = true then tc ρ ω3 fun w ω4 => r' y w ω4 Q else Q (.d (.bl false)) ω3)
end L2
set_option Elab.async false
set_option linter.all false
set_option autoImplicit false
set_option maxRecDepth 100000
set_option maxHeartbeats 1000000
namespace L2
open PySem PySem.Spec PyProof.Rows
section
variable {X : Cx} {tg : Expr}
def notS : D → Bool
  | .str _ => false
  | _ => true
theorem call_reprX (hg : X.A.guards = some []) (hu : X.A.units + 100 < cLine) : CallR X (.builtin "repr") (fun xs H Q => ∃ (x : V) (d : D), xs = [x] ∧ Dat H d x ∧ notS d = true ∧ dep d ≤ 90 ∧ fit d = true ∧ wt d ≤ 1000000 ∧ Q (.str (repD d)) H) := by
  intro pins s σ H xs us Q I r h
  obtain ⟨x, d, rfl, hd, hs, hdp, hf, hw, q⟩ := h
  obtain ⟨u, rfl, ru⟩ := vals1 r
  cases d with
  | non =>
    simp only [Dat] at hd; subst hd
    cases (show u = Value.none from ru)
    exact PySem.P.repr_of_none ⟨.str (repD .non), H, I.tok _, ⟨_, rfl⟩, q⟩
  | bl b =>
    simp only [Dat] at hd; subst hd
    cases (show u = Value.bool b from ru)
    exact PySem.P.repr_of_bool ⟨.str (repD (.bl b)), H, I.tok _, ⟨_, by cases b <;> rfl⟩, q⟩
  | int i =>
    simp only [Dat] at hd; subst hd
    obtain ⟨t, rfl⟩ := ru
    exact PySem.P.repr_of_int (by simpa [fit] using hf) ⟨.str (repD (.int i)), H, I.tok _, ⟨_, rfl⟩, q⟩
  | str b => cases hs
  | tup ds =>
    obtain ⟨a, _, rfl, _⟩ := dat_ref_t hd
    exact call_reprD hg hu pins s σ H [.ref a] [u] Q I r ⟨a, _, rfl, hd, hdp, hf, hw, q⟩
  | lst ds =>
    obtain ⟨a, _, rfl, _⟩ := dat_ref_l hd
    exact call_reprD hg hu pins s σ H [.ref a] [u] Q I r ⟨a, _, rfl, hd, hdp, hf, hw, q⟩
def rOr (r1 r2 : R2) : R2 := fun x y H Q => r1 x y H Q ∨ r2 x y H Q
theorem op_alt {f : Value → Value → Sem Value} {r1 r2 : R2} (h1 : OpR X f r1) (h2 : OpR X f r2) : OpR X f (rOr r1 r2) := fun pins s σ H x y v u Q I rx ry h => by
  rcases h with h | h
  · exact h1 pins s σ H x y v u Q I rx ry h
  · exact h2 pins s σ H x y v u Q I rx ry h
def rSlAny (K : PySem.W.Frag) : V → Option Int → Option Int → Hp → VK → Prop := fun x lo hi H Q => rSlL K x lo hi H Q ∨ rSlTA K x lo hi H Q
theorem sl_any (K : PySem.W.Frag) (hK : X.K = K) : SlR X (rSlAny K) := by
  subst hK
  intro pins s σ H x v vl vu lo hi sl Q I rx hs pl pu h
  rcases h with h | h
  · exact sl_list pins s σ H x v vl vu lo hi sl Q I rx hs pl pu h
  · exact sl_tupA pins s σ H x v vl vu lo hi sl Q I rx hs pl pu h
def iSeq (K : PySem.W.Frag) (tl : TE) : TI := fun σ H R => tl σ H fun x H1 => (∃ a, x = .ref a ∧ (∃ xs, SqL K H1 a xs) ∧ R (Itl K a) H1) ∨ ∃ a, x = .ref a ∧ (∃ xs, SqT K H1 a xs) ∧ R (Itt K a) H1
theorem pi_seq (K : PySem.W.Frag) (hK : X.K = K) {l : Expr} {tl : TE} (hl : PE X l tl) : PI X tg l (iSeq K tl) := by
  subst hK
  intro pins s σ H R I h
  refine thn (hl pins s σ H _ I h) fun v s1 ⟨x, H1, I1, r1, q1⟩ => ?_
  rcases q1 with q1 | q1
  · obtain ⟨a, e, ⟨xs, hq⟩, q⟩ := q1
    subst e
    cases r1
    obtain ⟨its, rv, p, hz⟩ := I1.list hq
    refine wpAny_pyIter_list p.isList ?_
    refine ⟨s1.heap.objs.size, [s1.heap.objs.size], _, _, H1, rfl, I1.kept (t' := s1.toks) fun b o e => Heap.get?_push_of_some _ e, turn_list a _, ⟨_, Heap.get?_push_size _ rfl, rfl, rfl⟩, fun b hb => ?_, q⟩
    have e : b = s1.heap.objs.size := by simpa using hb
    subst e
    exact I1.fpOk (Nat.le_refl _) (I1.hok.fresh (Nat.le_refl _))
  · obtain ⟨a, e, ⟨xs, hq⟩, q⟩ := q1
    subst e
    cases r1
    obtain ⟨its, rv, p, hz⟩ := I1.tuple hq
    refine wpAny_pyIter_tuple (show s1.heap.IsTuple a its.toArray from p) ?_
    refine ⟨s1.heap.objs.size, [s1.heap.objs.size], _, _, H1, rfl, I1.kept (t' := s1.toks) fun b o e => Heap.get?_push_of_some _ e, turn_tuple a _, ⟨_, Heap.get?_push_size _ rfl, rfl, rfl⟩, fun b hb => ?_, q⟩
    have e : b = s1.heap.objs.size := by simpa using hb
    subst e
    exact I1.fpOk (Nat.le_refl _) (I1.hok.fresh (Nat.le_refl _))
def tAndG (K : PySem.W.Frag) (ta tb : TE) : TE := fun σ H Q => ta σ H fun x H1 => ∃ c, TruV K x H1 c ∧ if c = true then tb σ H1 Q else Q x H1
variable {a b : Expr} {rest : List Expr} {pos : Pos} {ta tb : TE}
theorem pe_andG (K : PySem.W.Frag) (hK : X.K = K) (ha : PE X a ta) (hb : PE X (.BoolOp .And (b :: rest) pos) tb) : PE X (.BoolOp .And (a :: b :: rest) pos) (tAndG K ta tb) := .mk <| by
  subst hK
  intro pins s σ H Q I h
  refine BoolOp_and (thn (ha pins s σ H _ I h) fun v s1 ⟨x, H1, I1, r1, q1⟩ => ?_)
  refine thn (tru_ok pins s1 σ H1 x v (fun c H2 => H2 = H1 ∧ if c = true then tb σ H1 Q else Q x H1) I1 r1 ?_) fun c s2 ⟨H2, I2, e, q2⟩ => ?_
  · obtain ⟨c, hc, q⟩ := q1
    exact ⟨c, hc, rfl, q⟩
  · subst e
    cases c with
    | true => rw [if_pos rfl] at q2; exact hb pins s2 σ H2 Q I2 q2
    | false => rw [if_neg Bool.false_ne_true] at q2; exact ⟨x, H2, I2, r1, q2⟩
end
def aOrG (ta tb : AE) : AE := fun ρ ω Q => ta ρ ω fun x ω1 => ∃ c, truA ω1 x = some c ∧ if c = true then Q x ω1 else tb ρ ω1 Q
def aAndG (ta tb : AE) : AE := fun ρ ω Q => ta ρ ω fun x ω1 => ∃ c, truA ω1 x = some c ∧ if c = true then tb ρ ω1 Q else Q x ω1
def aNotG (ta : AE) : AE := fun ρ ω Q => ta ρ ω fun x ω1 => ∃ c, truA ω1 x = some c ∧ Q (.d (.bl (!c))) ω1
def aSl (te : AE) (tl th : AO) : AE := fun ρ ω Q => te ρ ω fun x ω1 => tl ρ ω1 fun lo ω2 => th ρ ω2 fun hi ω3 => match x with
  | .d (.tup ds) => Q (.d (.tup (cutL ds lo hi))) ω3
  | x => ∃ ds, datA ω3 x = some (.lst ds) ∧ Q (.d (.lst (cutL ds lo hi))) ω3
def aiSeq (te : AE) : AI := fun ρ ω R => te ρ ω fun x ω1 => frzA ω1 x fun d ω2 => ∃ ds, seqD d = some ds ∧ R (ds.map AV.d) ω2
def aiEnum (ta : AA) : AI := fun ρ ω R => ta ρ ω fun xs ω1 => ∃ x, xs = [x] ∧ frzA ω1 x fun d ω2 => ∃ ds, seqD d = some ds ∧ R (enumA ds) ω2
def aiZip (ta : AA) : AI := fun ρ ω R => ta ρ ω fun xs ω1 => ∃ x y, xs = [x, y] ∧ frzA ω1 x fun d ω2 => frzA ω2 y fun e ω3 => ∃ ds es, seqD d = some ds ∧ seqD e = some es ∧ R (zipA ds es) ω3
def aAdd : A2 := fun x y ω Q => match x with
  | .d (.int i) => ∃ j, y = .d (.int j) ∧ Q (.d (.int (i + j))) ω
  | .d (.tup ds) => ∃ es, y = .d (.tup es) ∧ ds.length + es.length ≤ sizeLine ∧ Q (.d (.tup (ds ++ es))) ω
  | x => ∃ ds es, datA ω x = some (.lst ds) ∧ datA ω y = some (.lst es) ∧ ds.length + es.length ≤ sizeLine ∧ Q (.d (.lst (ds ++ es))) ω
def aMul : A2 := fun x y ω Q => match x with
  | .d (.int i) => ∃ j, y = .d (.int j) ∧ CMul i j ∧ Q (.d (.int (i * j))) ω
  | x => aRepL x y ω Q
def aReprX : AC := fun xs ω Q => ∃ x d, xs = [x] ∧ datA ω x = some d ∧ notS d = true ∧ dep d ≤ 90 ∧ fit d = true ∧ wt d ≤ 1000000 ∧ Q (.d (.str (repD d))) ω
section
variable {K : PySem.W.Frag} {te ta tb : TE} {te' ta' tb' : AE} {tl th : TO} {tl' th' : AO} {sa : TA} {sa' : AA}
theorem e_andG (ha : RefE ta ta') (hb : RefE tb tb') : RefE (tAndG K ta tb) (aAndG ta' tb') := ⟨fun F H ω σ ρ Q Q' rp rs h k =>
  ha.go rp rs h fun x ω1 v H1 rp1 fr1 rs1 rv1 ⟨c, e, q⟩ => ⟨c, tru_of rp1 rv1 e, by
    cases c with
    | false => rw [if_neg Bool.false_ne_true] at q ⊢; exact k x ω1 v H1 rp1 fr1 rv1 q
    | true => rw [if_pos rfl] at q ⊢; exact hb.run F H1 ω1 σ ρ Q Q' rp1 rs1 q (k.fr fr1)⟩⟩
theorem e_sl (he : RefE te te') (hl : Ref REq tl tl') (hh : Ref REq th th') : RefE (tSl (rSlAny K) te tl th) (aSl te' tl' th') := ⟨fun F H ω σ ρ Q Q' rp rs w k =>
  he.go rp rs w fun x ω1 v H1 rp1 fr1 rs1 rv1 q1 => hl.go rp1 rs1 q1 fun lo ω2 lo' H2 rp2 fr2 rs2 e2 q2 => hh.go rp2 rs2 q2 fun hi ω3 hi' H3 rp3 fr3 rs3 e3 q => by
    cases (show lo = lo' from e2)
    cases (show hi = hi' from e3)
    have r := rv1.same (fr2.trans fr3).same
    have k3 := k.fr ((fr1.trans fr2).trans fr3)
    have ls : (∃ ds, datA ω3 x = some (.lst ds) ∧ Q' (.d (.lst (cutL ds lo hi))) ω3) → rSlAny K v lo hi H3 Q := fun ⟨ds, e, q⟩ => by
      obtain ⟨a, vs, rfl, z1, z2⟩ := dats_of rp3 r e
      exact .inl ⟨a, vs, rfl, .inl (.inl z1), k3.lst rp3 z2.cut q⟩
    cases x with
    | d x => cases x with
      | tup ds =>
        refine .inr ?_
        have r' := r
        simp only [RV, Dat] at r
        obtain ⟨a, vs, rfl, z1, z2⟩ := r
        refine ⟨a, vs, rfl, .inl (.inl (cut_same _ _ z1)), ?_⟩
        by_cases hw : HT.sIx vs.length 0 lo = 0 ∧ HT.sIx vs.length vs.length hi = vs.length
        · rw [if_pos hw]
          have : cutL ds lo hi = ds := by
            unfold cutL
            rw [← z2.length, hw.1, hw.2, List.drop_zero, Nat.sub_zero, z2.length, List.take_length]
          replace q : Q' (.d (.tup (cutL ds lo hi))) ω3 := q
          rw [this] at q
          exact k3 _ ω3 _ H3 rp3 .refl r' q
        · rw [if_neg hw]
          exact k3.tup rp3 z2.cut q
      | _ => exact ls q
    | _ => exact ls q⟩
theorem i_seq (h : RefE te te') : RefI (iSeq K te) (aiSeq te') := ⟨fun F H ω σ ρ R R' rp rs w k => h.go rp rs w fun x ω1 v H1 rp1 fr1 rs1 rv q => by
  obtain ⟨d, ω2, rp2, fr2, hd, ds, hs, q2⟩ := frz_of rp1 rv q
  cases d with
  | lst es =>
    cases hs
    obtain ⟨a, vs, rfl, ha⟩ := dat_ref_l hd
    exact .inl ⟨a, rfl, ⟨vs, .inl (.inl (cut_same _ _ ha))⟩, k _ ω2 _ H1 rp2 (fr1.trans fr2) (it_list hd) q2⟩
  | tup es =>
    cases hs
    obtain ⟨a, vs, rfl, ha⟩ := dat_ref_t hd
    exact .inr ⟨a, rfl, ⟨vs, .inl (.inl (cut_same _ _ ha))⟩, k _ ω2 _ H1 rp2 (fr1.trans fr2) (it_tup hd) q2⟩
  | _ => cases hs⟩
theorem sq_l {G : Hp} {ds : List D} {v : V} (h : Dat G (.lst ds) v) : ∃ a, v = .ref a ∧ ∀ F H ω, Rep F H ω → Same G (cut F H ω) → ∃ vs, SqL K H a vs ∧ Dats (cut F H ω) ds vs := by
  obtain ⟨a, _, rfl, _⟩ := dat_ref_l h
  refine ⟨a, rfl, fun F H ω rp s => ?_⟩
  have h2 := h.same s
  simp only [Dat] at h2
  obtain ⟨_, vs, e, ha, hd⟩ := h2
  cases e
  exact ⟨vs, .inl (.inl (cut_same _ _ ha)), hd⟩
theorem o_add : Ref2 (rOr (rI0 fun i j => .int (i + j)) (rOr rCat3 rCat)) aAdd := ⟨fun F H ω v u x y Q Q' rp h1 h2 q k => by
  have ls : (∃ ds es, datA ω x = some (.lst ds) ∧ datA ω y = some (.lst es) ∧ ds.length + es.length ≤ sizeLine ∧ Q' (.d (.lst (ds ++ es))) ω) → rOr (rI0 fun i j => .int (i + j)) (rOr rCat3 rCat) v u H Q := fun q =>
    .inr (.inr (o_catL.run F H ω v u x y Q Q' rp h1 h2 q k))
  cases x with
  | d x => cases x with
    | int i =>
      obtain ⟨j, rfl, q⟩ := q
      exact .inl ⟨i, j, rv_int h1, rv_int h2, k.int rp q⟩
    | tup ds =>
      obtain ⟨es, rfl, z, q⟩ := q
      exact .inr (.inl (o_cat3.run F H ω v u _ _ Q Q' rp h1 h2 ⟨ds, es, rfl, rfl, z, q⟩ k))
    | _ => exact ls q
  | _ => exact ls q⟩
theorem o_mul : Ref2 (rOr (rI CMul fun i j => .int (i * j)) rRep) aMul := ⟨fun F H ω v u x y Q Q' rp h1 h2 q k => by
  have ls : aRepL x y ω Q' → rOr (rI CMul fun i j => .int (i * j)) rRep v u H Q := fun q => .inr (o_repL.run F H ω v u x y Q Q' rp h1 h2 q k)
  cases x with
  | d x => cases x with
    | int i =>
      obtain ⟨j, rfl, c, q⟩ := q
      exact .inl ⟨i, j, rv_int h1, rv_int h2, c, k.int rp q⟩
    | _ => exact ls q
  | _ => exact ls q⟩
theorem c_reprX : RefC (fun xs H Q => ∃ (x : V) (d : D), xs = [x] ∧ Dat H d x ∧ notS d = true ∧ dep d ≤ 90 ∧ fit d = true ∧ wt d ≤ 1000000 ∧ Q (.str (repD d)) H) aReprX := ⟨fun F H ω vs xs Q Q' rp rv ⟨x, d, e1, e2, e3, h1, h2, h3, q⟩ k => by
  subst e1
  obtain ⟨v, rfl, r⟩ := rvs1 rv
  exact ⟨v, d, rfl, dat_of rp r e2, e3, h1, h2, h3, k.str rp q⟩⟩
end
theorem call_sumU {X : Cx} (K : PySem.W.Frag) (hK : X.K = K) (hc : X.calm = true) : CallR X (.builtin "sum") (fun xs H Q => (∃ (a : Addr) (ns : List Int), xs = [.ref a] ∧ SqL K H a (ns.map V.int) ∧ Q (.int ns.sum) H) ∨ ∃ (a : Addr) (ns : List Int), xs = [.ref a] ∧ SqT K H a (ns.map V.int) ∧ Q (.int ns.sum) H) := by
  subst hK
  intro pins s σ H xs us Q I r h
  rcases h with h | h
  · exact call_sum hc pins s σ H xs us Q I r h
  · exact call_sumT hc pins s σ H xs us Q I r h
def aSumU : AC := fun xs ω Q => ∃ (x : AV) (d : D) (ns : List Int), xs = [x] ∧ datA ω x = some d ∧ seqD d = some (ns.map D.int) ∧ Q (.d (.int ns.sum)) ω
theorem c_sumU {K : PySem.W.Frag} : RefC (fun xs H Q => (∃ (a : Addr) (ns : List Int), xs = [.ref a] ∧ SqL K H a (ns.map V.int) ∧ Q (.int ns.sum) H) ∨ ∃ (a : Addr) (ns : List Int), xs = [.ref a] ∧ SqT K H a (ns.map V.int) ∧ Q (.int ns.sum) H) aSumU := ⟨fun F H ω vs xs Q Q' rp rv ⟨x, d, ns, e1, e2, e3, q⟩ k => by
  subst e1
  obtain ⟨v, rfl, r⟩ := rvs1 rv
  have hd := dat_of rp r e2
  cases d with
  | lst ds =>
    cases e3
    simp only [Dat] at hd
    obtain ⟨a, us, rfl, q1, q2⟩ := hd
    cases dats_ints_eq q2
    exact .inl ⟨a, ns, rfl, .inl (.inl q1), k.int rp q⟩
  | tup ds =>
    cases e3
    simp only [Dat] at hd
    obtain ⟨a, us, rfl, q1, q2⟩ := hd
    cases dats_ints_eq q2
    exact .inr ⟨a, ns, rfl, .inl (.inl q1), k.int rp q⟩
  | _ => cases e3⟩
def aAddO : A2 := fun x y ω Q => match x with
  | .d (.int i) => ∃ j, y = .d (.int j) ∧ Q (.d (.int (i + j))) ω
  | .d (.tup ds) => ∃ es, y = .d (.tup es) ∧ ds.length + es.length ≤ sizeLine ∧ Q (.d (.tup (ds ++ es))) ω
  | x => aCatLO x y ω Q
def vD : V → Option D
  | .non => some .non
  | .bl b => some (.bl b)
  | .int i => some (.int i)
  | .str x => some (.str x)
  | _ => none
def aSGet (kvs : List (Str × V)) (ty : AE) : AE := fun ρ ω Q => ty ρ ω fun y ω1 => ∃ x v d, y = .d (.str x) ∧ valS kvs x = some v ∧ vD v = some d ∧ Q (.d d) ω1
def startA (N : List Str) (xs : List AV) : SA := xs.map some ++ List.replicate (N.length - xs.length) none
theorem RS.start {G : Hp} {N : List Str} {xs : List AV} {vs : List V} (h : RVs G xs vs) : RS G (startA N xs) (start N vs) := by
  refine ⟨by simp [startA, L2.start, h.length], fun i a e => ?_⟩
  unfold startA at e
  unfold L2.start
  by_cases hi : i < xs.length
  · rw [List.getElem?_append_left (by simpa using hi), List.getElem?_map] at e
    rw [List.getElem?_append_left (by simpa [h.length] using hi), List.getElem?_map]
    cases z : xs[i]? with
    | none => rw [z] at e; simp at e
    | some b =>
      rw [z] at e
      simp at e
      subst e
      obtain ⟨v, e1, e2⟩ := h.get z
      exact ⟨v, by rw [e1]; rfl, e2⟩
  · rw [List.getElem?_append_right (by simpa using hi)] at e
    have := List.mem_of_getElem? e
    rw [List.mem_replicate] at this
    cases this.2
theorem Fun.okA {P : Program} {w : World} {K : PySem.W.Frag} {mg : Str → Option Value} {base : Heap} {x qual : Str} {st : Stmt} {f : Addr} {fd : FuncData} {N ps : List Str} {k : Nat} {sp : ASp} (F : Fun K x qual st f fd) (S : FnScope N ps (defScope st)) (len : ∀ xs ω Q, sp xs ω Q → xs.length = ps.length)
    (hbody : ∀ (cdv : Value) (A : Around) (outer : List Env) (s : Shared) (H : Hp) (E : XK), Room k (A.deeper (envOfC qual (defScope st) s.heap.objs.size f cdv)) →
      ∃ t t', PSs (cxOf CX0 P w K mg base N qual (defScope st) f cdv A outer s H E).nox (defBody st) t ∧ RefS t t' ∧ ∀ xs ω Q', sp xs ω Q' → t' { nx := fun _ ω' => Q' (.d .non) ω', rt := Q' } (startA N xs) ω) : FnOk P w K mg base CX0 (k + 1) f fd ps (lift sp) := by
  refine F.ok S (fun vs H Q E h => ?_) (fun cdv A outer s H vs Q E hr h => ?_)
  · obtain ⟨F, xs, ω, Q', rp, rv, h, _⟩ := h
    rw [rv.length, len xs ω Q' h]
  · obtain ⟨t, t', h1, h2, h3⟩ := hbody cdv A outer s H E hr
    obtain ⟨F, xs, ω, Q', rp, rv, h, kq⟩ := h
    refine ⟨t, h1, h2.run F H ω _ _ _ _ rp (RS.start rv) (h3 xs ω Q' h) ⟨?_, kq, fun _ _ _ _ _ _ _ z => z.elim, fun _ _ _ _ _ _ _ z => z.elim⟩⟩
    exact fun ρ' ω' σ' H' e1 e2 e3 q => kq (.d .non) ω' .non H' e1 e2 (by simp [RV, Dat]) q
end L2
set_option Elab.async false
set_option linter.all false
set_option autoImplicit false
set_option maxRecDepth 100000
set_option maxHeartbeats 1000000
namespace L2
open PySem PySem.Spec PyProof.Rows
theorem aNext_eq (D : AEnds) (ρ : SA) (ω : Om) : aNext D ρ ω = (D.nx ρ ω) := rfl
theorem aSeq_eq (t u : AS) (D : AEnds) (ρ : SA) (ω : Om) : aSeq t u D ρ ω = (t { D with nx := u D } ρ ω) := rfl
theorem aBreak_eq (D : AEnds) (ρ : SA) (ω : Om) : aBreak D ρ ω = (D.bk ρ ω) := rfl
theorem aCont_eq (D : AEnds) (ρ : SA) (ω : Om) : aCont D ρ ω = (D.ct ρ ω) := rfl
theorem aDrop_eq (te : AE) (D : AEnds) (ρ : SA) (ω : Om) : aDrop te D ρ ω = (te ρ ω fun _ ω1 => D.nx ρ ω1) := rfl
theorem aRet_eq (te : AE) (D : AEnds) (ρ : SA) (ω : Om) : aRet te D ρ ω = (te ρ ω D.rt) := rfl
theorem aRetN_eq (D : AEnds) (z1 : SA) (ω : Om) : aRetN D z1 ω = (D.rt (.d .non) ω) := rfl
theorem aIfS_eq (c : AT) (t u : AS) (D : AEnds) (ρ : SA) (ω : Om) : aIfS c t u D ρ ω = (c ρ ω fun b ω1 => if b = true then t D ρ ω1 else u D ρ ω1) := rfl
theorem aAsg_eq (te : AE) (g : AG) (D : AEnds) (ρ : SA) (ω : Om) : aAsg te g D ρ ω = (te ρ ω fun x ω1 => g x ρ ω1 D.nx) := rfl
theorem agName_eq (i : Nat) (v : AV) (ρ : SA) (ω : Om) (Q : SA → Om → Prop) : agName i v ρ ω Q = (Q (ρ.set i (some v)) ω) := rfl
theorem agNil_eq (vs : List AV) (ρ : SA) (ω : Om) (Q : SA → Om → Prop) : agNil vs ρ ω Q = (vs = [] ∧ Q ρ ω) := rfl
theorem agCons_eq (t : AG) (u : AGs) (vs : List AV) (ρ : SA) (ω : Om) (Q : SA → Om → Prop) : agCons t u vs ρ ω Q = (∃ v r, vs = v :: r ∧ t v ρ ω fun ρ' ω' => u r ρ' ω' Q) := rfl
theorem aFor_eq (wi : AI) (g : AG) (tb : AS) (D : AEnds) (ρ : SA) (ω : Om) : aFor wi g tb D ρ ω = (wi ρ ω fun as ω1 => aForL g tb D as ρ ω1) := rfl
theorem aNoTest_eq (z0 : SA) (ω : Om) (Q : Bool → Om → Prop) : aNoTest z0 ω Q = (Q true ω) := rfl
theorem aLast_eq (te : AE) (xs : List AV) (ρ : SA) (ω : Om) (K : List AV → SA → Om → Prop) : aLast te xs ρ ω K = (te ρ ω fun y ω1 => xs.length < sizeLine ∧ K (xs ++ [y]) ρ ω1) := rfl
theorem aLFor_eq (wi : AI) (g : AG) (tc : AT) (l : AL) (xs : List AV) (ρ : SA) (ω : Om) (K : List AV → SA → Om → Prop) : aLFor wi g tc l xs ρ ω K = (wi ρ ω fun as ω1 => aLoop g tc l as xs ρ ω1 K) := rfl
theorem aVar_eq (i : Nat) (ρ : SA) (ω : Om) (Q : AV → Om → Prop) : aVar i ρ ω Q = (∃ a, ρ[i]? = some (some a) ∧ Q a ω) := rfl
theorem aVarF_eq (i : Nat) (ρ : SA) (ω : Om) (Q : AV → Om → Prop) : aVarF i ρ ω Q = (∃ a, ρ[i]? = some (some a) ∧ frzA ω a fun d ω' => Q (.d d) ω') := rfl
theorem aC_eq (d : D) (z0 : SA) (ω : Om) (Q : AV → Om → Prop) : aC d z0 ω Q = (Q (.d d) ω) := rfl
theorem aOp_eq (r : A2) (ta tb : AE) (ρ : SA) (ω : Om) (Q : AV → Om → Prop) : aOp r ta tb ρ ω Q = (ta ρ ω fun x ω1 => tb ρ ω1 fun y ω2 => r x y ω2 Q) := rfl
theorem aNil_eq (z0 : SA) (ω : Om) (Q : List AV → Om → Prop) : aNil z0 ω Q = (Q [] ω) := rfl
theorem aCons_eq (ta : AE) (tr : AA) (ρ : SA) (ω : Om) (Q : List AV → Om → Prop) : aCons ta tr ρ ω Q = (ta ρ ω fun x ω1 => tr ρ ω1 fun xs ω2 => Q (x :: xs) ω2) := rfl
theorem aTup_eq (t : AA) (ρ : SA) (ω : Om) (Q : AV → Om → Prop) : aTup t ρ ω Q = (t ρ ω fun xs ω1 => xs.length ≤ sizeLine ∧ ∃ ds, und xs = some ds ∧ Q (.d (.tup ds)) ω1) := rfl
theorem aLst_eq (t : AA) (ρ : SA) (ω : Om) (Q : AV → Om → Prop) : aLst t ρ ω Q = (t ρ ω fun xs ω1 => xs.length ≤ sizeLine ∧ ∃ ds, und xs = some ds ∧ Q (.d (.lst ds)) ω1) := rfl
theorem aLstO_eq (t : AA) (ρ : SA) (ω : Om) (Q : AV → Om → Prop) : aLstO t ρ ω Q = (t ρ ω fun xs ω1 => xs.length ≤ sizeLine ∧ ∀ p, ω1 p = none → Q (.r (.ref p)) (ω1.put p (.own xs))) := rfl
theorem aCall_eq (sp : ASp) (t : AA) (ρ : SA) (ω : Om) (Q : AV → Om → Prop) : aCall sp t ρ ω Q = (t ρ ω fun xs ω1 => sp xs ω1 Q) := rfl
theorem aTest_eq (t : AE) (ρ : SA) (ω : Om) (Q : Bool → Om → Prop) : aTest t ρ ω Q = (t ρ ω fun x ω1 => ∃ k, x = .d (.bl k) ∧ Q k ω1) := rfl
theorem aAnd_eq (t u : AT) (ρ : SA) (ω : Om) (Q : Bool → Om → Prop) : aAnd t u ρ ω Q = (t ρ ω fun c ω1 => if c = true then u ρ ω1 Q else Q false ω1) := rfl
theorem aOr_eq (t u : AT) (ρ : SA) (ω : Om) (Q : Bool → Om → Prop) : aOr t u ρ ω Q = (t ρ ω fun c ω1 => if c = true then Q true ω1 else u ρ ω1 Q) := rfl
theorem aNot_eq (t : AT) (ρ : SA) (ω : Om) (Q : Bool → Om → Prop) : aNot t ρ ω Q = (t ρ ω fun c ω1 => Q (!c) ω1) := rfl
theorem aAndV_eq (ta tb : AE) (ρ : SA) (ω : Om) (Q : AV → Om → Prop) : aAndV ta tb ρ ω Q = (ta ρ ω fun x ω1 => ∃ c, x = .d (.bl c) ∧ if c = true then tb ρ ω1 Q else Q (.d (.bl false)) ω1) := rfl
theorem aOrV_eq (ta tb : AE) (ρ : SA) (ω : Om) (Q : AV → Om → Prop) : aOrV ta tb ρ ω Q = (ta ρ ω fun x ω1 => ∃ c, x = .d (.bl c) ∧ if c = true then Q (.d (.bl true)) ω1 else tb ρ ω1 Q) := rfl
theorem aNotV_eq (ta : AE) (ρ : SA) (ω : Om) (Q : AV → Om → Prop) : aNotV ta ρ ω Q = (ta ρ ω fun x ω1 => ∃ c, x = .d (.bl c) ∧ Q (.d (.bl (!c))) ω1) := rfl
theorem aIf_eq (t : AT) (ta tb : AE) (ρ : SA) (ω : Om) (Q : AV → Om → Prop) : aIf t ta tb ρ ω Q = (t ρ ω fun c ω1 => if c = true then ta ρ ω1 Q else tb ρ ω1 Q) := rfl
theorem aRaw_eq (v : V) (z0 : SA) (ω : Om) (Q : AV → Om → Prop) : aRaw v z0 ω Q = (Q (.r v) ω) := rfl
theorem aTru_eq (ta : AE) (ρ : SA) (ω : Om) (Q : Bool → Om → Prop) : aTru ta ρ ω Q = (ta ρ ω fun x ω1 => ∃ k, truA ω1 x = some k ∧ Q k ω1) := rfl
theorem aI0_eq (f : Int → Int → D) (x : AV) (y : AV) (ω : Om) (Q : AV → Om → Prop) : aI0 f x y ω Q = (∃ i j, x = .d (.int i) ∧ y = .d (.int j) ∧ Q (.d (f i j)) ω) := rfl
theorem aI_eq (C : Int → Int → Prop) (f : Int → Int → D) (x : AV) (y : AV) (ω : Om) (Q : AV → Om → Prop) : aI C f x y ω Q = (∃ i j, x = .d (.int i) ∧ y = .d (.int j) ∧ C i j ∧ Q (.d (f i j)) ω) := rfl
theorem aEq_eq (x : AV) (y : AV) (ω : Om) (Q : AV → Om → Prop) : aEq x y ω Q = (∃ a b, x = .d a ∧ y = .d b ∧ sclD a b = true ∧ Q (.d (.bl (eqD a b))) ω) := rfl
theorem aNe_eq (x : AV) (y : AV) (ω : Om) (Q : AV → Om → Prop) : aNe x y ω Q = (∃ a b, x = .d a ∧ y = .d b ∧ sclD a b = true ∧ Q (.d (.bl (!eqD a b))) ω) := rfl
theorem aEqD_eq (neg : Bool) (x : AV) (y : AV) (ω : Om) (Q : AV → Om → Prop) : aEqD neg x y ω Q = (∃ a b, datA ω x = some a ∧ datA ω y = some b ∧ dep a ≤ 100 ∧ Q (.d (.bl (if neg then !eqD a b else eqD a b))) ω) := rfl
theorem aIn_eq (neg : Bool) (x : AV) (y : AV) (ω : Om) (Q : AV → Om → Prop) : aIn neg x y ω Q = (∃ a b ds, datA ω x = some a ∧ datA ω y = some b ∧ (b = .lst ds ∨ b = .tup ds) ∧ deps ds ≤ 90 ∧ Q (.d (.bl (if neg then !inD a ds else inD a ds))) ω) := rfl
theorem aCatT_eq (x : AV) (y : AV) (ω : Om) (Q : AV → Om → Prop) : aCatT x y ω Q = (∃ ds es, x = .d (.tup ds) ∧ y = .d (.tup es) ∧ ds.length + es.length ≤ sizeLine ∧ Q (.d (.tup (ds ++ es))) ω) := rfl
theorem aIxL_eq (x : AV) (y : AV) (ω : Om) (Q : AV → Om → Prop) : aIxL x y ω Q = (∃ xs i a, lstA ω x = some xs ∧ y = .d (.int i) ∧ atI xs i = some a ∧ Q a ω) := rfl
theorem aIxT_eq (x : AV) (y : AV) (ω : Om) (Q : AV → Om → Prop) : aIxT x y ω Q = (∃ xs i a, tupA x = some xs ∧ y = .d (.int i) ∧ atI xs i = some a ∧ Q a ω) := rfl
theorem aIx_eq (x : AV) (y : AV) (ω : Om) (Q : AV → Om → Prop) : aIx x y ω Q = (∃ xs i a, (lstA ω x = some xs ∨ tupA x = some xs) ∧ y = .d (.int i) ∧ atI xs i = some a ∧ Q a ω) := rfl
theorem aIsN_eq (neg : Bool) (x : AV) (y : AV) (ω : Om) (Q : AV → Om → Prop) : aIsN neg x y ω Q = (∃ a, x = .d a ∧ y = .d .non ∧ Q (.d (.bl (if neg then !eqD a .non else eqD a .non))) ω) := rfl
theorem aIsB_eq (f : Bool → Bool → Bool) (x : AV) (y : AV) (ω : Om) (Q : AV → Om → Prop) : aIsB f x y ω Q = (∃ a b, x = .d (.bl a) ∧ y = .d (.bl b) ∧ Q (.d (.bl (f a b))) ω) := rfl
theorem aLen_eq (xs : List AV) (ω : Om) (Q : AV → Om → Prop) : aLen xs ω Q = (∃ x n, xs = [x] ∧ lenA ω x = some n ∧ Q (.d (.int n)) ω) := rfl
theorem aAll_eq (f : List Bool → Bool) (xs : List AV) (ω : Om) (Q : AV → Om → Prop) : aAll f xs ω Q = (∃ x bs, xs = [x] ∧ datA ω x = some (.lst (bs.map D.bl)) ∧ Q (.d (.bl (f bs))) ω) := rfl
theorem aSum_eq (xs : List AV) (ω : Om) (Q : AV → Om → Prop) : aSum xs ω Q = (∃ (x : AV) (ns : List Int), xs = [x] ∧ datA ω x = some (.lst (ns.map D.int)) ∧ Q (.d (.int ns.sum)) ω) := rfl
theorem aSumT_eq (xs : List AV) (ω : Om) (Q : AV → Om → Prop) : aSumT xs ω Q = (∃ ns : List Int, xs = [.d (.tup (ns.map D.int))] ∧ Q (.d (.int ns.sum)) ω) := rfl
theorem aF2_eq (f : Int → Int → Int) (xs : List AV) (ω : Om) (Q : AV → Om → Prop) : aF2 f xs ω Q = (∃ i j, xs = [.d (.int i), .d (.int j)] ∧ Q (.d (.int (f i j))) ω) := rfl
theorem aF1_eq (f : Int → Int) (xs : List AV) (ω : Om) (Q : AV → Om → Prop) : aF1 f xs ω Q = (∃ i, xs = [.d (.int i)] ∧ Q (.d (.int (f i))) ω) := rfl
theorem aInt_eq (xs : List AV) (ω : Om) (Q : AV → Om → Prop) : aInt xs ω Q = (∃ d i, xs = [.d d] ∧ intD d = some i ∧ Q (.d (.int i)) ω) := rfl
theorem aBool_eq (xs : List AV) (ω : Om) (Q : AV → Om → Prop) : aBool xs ω Q = (∃ d i, xs = [.d d] ∧ boolD d = some i ∧ Q (.d (.bl i)) ω) := rfl
theorem aTupOf_eq (xs : List AV) (ω : Om) (Q : AV → Om → Prop) : aTupOf xs ω Q = (∃ x ds, xs = [x] ∧ (datA ω x = some (.lst ds) ∨ x = .d (.tup ds)) ∧ Q (.d (.tup ds)) ω) := rfl
theorem aListOf_eq (xs : List AV) (ω : Om) (Q : AV → Om → Prop) : aListOf xs ω Q = (∃ x ds, xs = [x] ∧ (datA ω x = some (.lst ds) ∨ x = .d (.tup ds)) ∧ Q (.d (.lst ds)) ω) := rfl
theorem aListO_eq (xs : List AV) (ω : Om) (Q : AV → Om → Prop) : aListO xs ω Q = (∃ x ds, xs = [x] ∧ (datA ω x = some (.lst ds) ∨ x = .d (.tup ds)) ∧ ∀ p, ω p = none → Q (.r (.ref p)) (ω.put p (.own (ds.map AV.d)))) := rfl
theorem aiList_eq (te : AE) (ρ : SA) (ω : Om) (R : List AV → Om → Prop) : aiList te ρ ω R = (te ρ ω fun x ω1 => frzA ω1 x fun d ω2 => ∃ ds, d = .lst ds ∧ R (ds.map AV.d) ω2) := rfl
theorem aiTup_eq (te : AE) (ρ : SA) (ω : Om) (R : List AV → Om → Prop) : aiTup te ρ ω R = (te ρ ω fun x ω1 => ∃ ds, x = .d (.tup ds) ∧ R (ds.map AV.d) ω1) := rfl
theorem aiRng1_eq (ta : AA) (ρ : SA) (ω : Om) (R : List AV → Om → Prop) : aiRng1 ta ρ ω R = (ta ρ ω fun xs ω1 => ∃ j : Int, xs = [.d (.int j)] ∧ -(2 ^ 62) ≤ j ∧ j < 2 ^ 62 ∧ R (rngA 0 j.toNat) ω1) := rfl
theorem aiRng2_eq (ta : AA) (ρ : SA) (ω : Om) (R : List AV → Om → Prop) : aiRng2 ta ρ ω R = (ta ρ ω fun xs ω1 => ∃ i j : Int, xs = [.d (.int i), .d (.int j)] ∧ (-(2 ^ 62) ≤ i ∧ i < 2 ^ 62 ∧ -(2 ^ 62) ≤ j ∧ j < 2 ^ 62) ∧ R (rngA i (j - i).toNat) ω1) := rfl
theorem aiEnumL_eq (ta : AA) (ρ : SA) (ω : Om) (R : List AV → Om → Prop) : aiEnumL ta ρ ω R = (ta ρ ω fun xs ω1 => ∃ x, xs = [x] ∧ frzA ω1 x fun d ω2 => ∃ ds, d = .lst ds ∧ R (enumA ds) ω2) := rfl
theorem aiEnumT_eq (ta : AA) (ρ : SA) (ω : Om) (R : List AV → Om → Prop) : aiEnumT ta ρ ω R = (ta ρ ω fun xs ω1 => ∃ ds, xs = [.d (.tup ds)] ∧ R (enumA ds) ω1) := rfl
theorem agTup_eq (n : Nat) (t : AGs) (v : AV) (ρ : SA) (ω : Om) (Q : SA → Om → Prop) : agTup n t v ρ ω Q = (∃ ds, v = .d (.tup ds) ∧ ds.length = n ∧ t (ds.map AV.d) ρ ω Q) := rfl
theorem agLst_eq (n : Nat) (t : AGs) (v : AV) (ρ : SA) (ω : Om) (Q : SA → Om → Prop) : agLst n t v ρ ω Q = (∃ xs, lstA ω v = some xs ∧ xs.length = n ∧ t xs ρ ω Q) := rfl
theorem agSub_eq (to ti : AE) (v : AV) (ρ : SA) (ω : Om) (Q : SA → Om → Prop) : agSub to ti v ρ ω Q = (to ρ ω fun o ω1 => ti ρ ω1 fun i ω2 => ∃ l k xs j, o = .r (.ref l) ∧ i = .d (.int k) ∧ ω2 l = some (.own xs) ∧ ixN xs.length k = some j ∧ Q ρ (ω2.put l (.own (xs.set j v)))) := rfl
theorem aoNone_eq (z0 : SA) (ω : Om) (Q : Option Int → Om → Prop) : aoNone z0 ω Q = (Q none ω) := rfl
theorem aoSome_eq (t : AE) (ρ : SA) (ω : Om) (Q : Option Int → Om → Prop) : aoSome t ρ ω Q = (t ρ ω fun x ω1 => ∃ i, x = .d (.int i) ∧ Q (some i) ω1) := rfl
theorem aSlL_eq (te : AE) (tl th : AO) (ρ : SA) (ω : Om) (Q : AV → Om → Prop) : aSlL te tl th ρ ω Q = (te ρ ω fun x ω1 => tl ρ ω1 fun lo ω2 => th ρ ω2 fun hi ω3 => ∃ ds, datA ω3 x = some (.lst ds) ∧ Q (.d (.lst (cutL ds lo hi))) ω3) := rfl
theorem aSlT_eq (te : AE) (tl th : AO) (ρ : SA) (ω : Om) (Q : AV → Om → Prop) : aSlT te tl th ρ ω Q = (te ρ ω fun x ω1 => tl ρ ω1 fun lo ω2 => th ρ ω2 fun hi ω3 => ∃ ds, x = .d (.tup ds) ∧ Q (.d (.tup (cutL ds lo hi))) ω3) := rfl
theorem aRev_eq (te : AE) (ρ : SA) (ω : Om) (Q : AV → Om → Prop) : aRev te ρ ω Q = (te ρ ω fun x ω1 => ∃ ds, datA ω1 x = some (.lst ds) ∧ Q (.d (.lst ds.reverse)) ω1) := rfl
theorem aAppend_eq (to : AE) (t : AA) (ρ : SA) (ω : Om) (Q : AV → Om → Prop) : aAppend to t ρ ω Q = (to ρ ω fun x ω1 => ∃ l, x = .r (.ref l) ∧ (∃ zs, ω1 l = some (.own zs)) ∧ t ρ ω1 fun ys ω2 => ∃ xs y, ys = [y] ∧ ω2 l = some (.own xs) ∧ xs.length < sizeLine ∧ Q (.d .non) (ω2.put l (.own (xs ++ [y])))) := rfl
theorem aExtend_eq (to : AE) (t : AA) (ρ : SA) (ω : Om) (Q : AV → Om → Prop) : aExtend to t ρ ω Q = (to ρ ω fun x ω1 => ∃ l, x = .r (.ref l) ∧ (∃ zs, ω1 l = some (.own zs)) ∧ t ρ ω1 fun ys ω2 => ∃ xs y zs, ys = [y] ∧ ω2 l = some (.own xs) ∧ lstA ω2 y = some zs ∧ xs.length + zs.length ≤ sizeLine ∧ Q (.d .non) (ω2.put l (.own (xs ++ zs)))) := rfl
theorem aClear_eq (to : AE) (ρ : SA) (ω : Om) (Q : AV → Om → Prop) : aClear to ρ ω Q = (to ρ ω fun x ω1 => ∃ l xs, x = .r (.ref l) ∧ ω1 l = some (.own xs) ∧ Q (.d .non) (ω1.put l (.own []))) := rfl
theorem aRepr_eq (xs : List AV) (ω : Om) (Q : AV → Om → Prop) : aRepr xs ω Q = (∃ x d, xs = [x] ∧ datA ω x = some d ∧ (seqD d).isSome = true ∧ dep d ≤ 90 ∧ fit d = true ∧ wt d ≤ 1000000 ∧ Q (.d (.str (repD d))) ω) := rfl
theorem aSorted_eq (xs : List AV) (ω : Om) (Q : AV → Om → Prop) : aSorted xs ω Q = (∃ (x : AV) (W : List (List Int)), xs = [x] ∧ datA ω x = some (.lst (W.map wdD)) ∧ (∀ y ∈ W, y ≠ []) ∧ W.length < 64 ∧ Q (.d (.lst ((srtW W).map wdD))) ω) := rfl
theorem aIsA_eq (xs : List AV) (ω : Om) (Q : AV → Om → Prop) : aIsA xs ω Q = (∃ x d T, xs = [x, .r (.ty T)] ∧ datA ω x = some d ∧ T ∈ kinds ∧ Q (.d (.bl (isD T d))) ω) := rfl
theorem aCatL_eq (x : AV) (y : AV) (ω : Om) (Q : AV → Om → Prop) : aCatL x y ω Q = (∃ ds es, datA ω x = some (.lst ds) ∧ datA ω y = some (.lst es) ∧ ds.length + es.length ≤ sizeLine ∧ Q (.d (.lst (ds ++ es))) ω) := rfl
theorem aCatLO_eq (x : AV) (y : AV) (ω : Om) (Q : AV → Om → Prop) : aCatLO x y ω Q = (∃ xs ys, lstA ω x = some xs ∧ lstA ω y = some ys ∧ xs.length + ys.length ≤ sizeLine ∧ ∀ p, ω p = none → Q (.r (.ref p)) (ω.put p (.own (xs ++ ys)))) := rfl
theorem aRepL_eq (x : AV) (y : AV) (ω : Om) (Q : AV → Om → Prop) : aRepL x y ω Q = (∃ ds k, datA ω x = some (.lst ds) ∧ y = .d (.int k) ∧ -(2 ^ 63) ≤ k ∧ k < 2 ^ 63 ∧ ds.length * k.toNat ≤ sizeLine ∧ Q (.d (.lst (List.replicate k.toNat ds).flatten)) ω) := rfl
theorem aChain_eq (r r' : A2) (ta tb tc : AE) (ρ : SA) (ω : Om) (Q : AV → Om → Prop) : aChain r r' ta tb tc ρ ω Q = (ta ρ ω fun x ω1 => tb ρ ω1 fun y ω2 => r x y ω2 fun z ω3 => ∃ k, z = .d (.bl k) ∧ (if k = true then tc ρ ω3 fun w ω4 => r' y w ω4 Q else Q (.d (.bl false)) ω3)) := rfl
theorem aOrG_eq (ta tb : AE) (ρ : SA) (ω : Om) (Q : AV → Om → Prop) : aOrG ta tb ρ ω Q = (ta ρ ω fun x ω1 => ∃ c, truA ω1 x = some c ∧ if c = true then Q x ω1 else tb ρ ω1 Q) := rfl
theorem aAndG_eq (ta tb : AE) (ρ : SA) (ω : Om) (Q : AV → Om → Prop) : aAndG ta tb ρ ω Q = (ta ρ ω fun x ω1 => ∃ c, truA ω1 x = some c ∧ if c = true then tb ρ ω1 Q else Q x ω1) := rfl
theorem aNotG_eq (ta : AE) (ρ : SA) (ω : Om) (Q : AV → Om → Prop) : aNotG ta ρ ω Q = (ta ρ ω fun x ω1 => ∃ c, truA ω1 x = some c ∧ Q (.d (.bl (!c))) ω1) := rfl
theorem aiSeq_eq (te : AE) (ρ : SA) (ω : Om) (R : List AV → Om → Prop) : aiSeq te ρ ω R = (te ρ ω fun x ω1 => frzA ω1 x fun d ω2 => ∃ ds, seqD d = some ds ∧ R (ds.map AV.d) ω2) := rfl
theorem aiEnum_eq (ta : AA) (ρ : SA) (ω : Om) (R : List AV → Om → Prop) : aiEnum ta ρ ω R = (ta ρ ω fun xs ω1 => ∃ x, xs = [x] ∧ frzA ω1 x fun d ω2 => ∃ ds, seqD d = some ds ∧ R (enumA ds) ω2) := rfl
theorem aiZip_eq (ta : AA) (ρ : SA) (ω : Om) (R : List AV → Om → Prop) : aiZip ta ρ ω R = (ta ρ ω fun xs ω1 => ∃ x y, xs = [x, y] ∧ frzA ω1 x fun d ω2 => frzA ω2 y fun e ω3 => ∃ ds es, seqD d = some ds ∧ seqD e = some es ∧ R (zipA ds es) ω3) := rfl
theorem aReprX_eq (xs : List AV) (ω : Om) (Q : AV → Om → Prop) : aReprX xs ω Q = (∃ x d, xs = [x] ∧ datA ω x = some d ∧ notS d = true ∧ dep d ≤ 90 ∧ fit d = true ∧ wt d ≤ 1000000 ∧ Q (.d (.str (repD d))) ω) := rfl
theorem aSumU_eq (xs : List AV) (ω : Om) (Q : AV → Om → Prop) : aSumU xs ω Q = (∃ (x : AV) (d : D) (ns : List Int), xs = [x] ∧ datA ω x = some d ∧ seqD d = some (ns.map D.int) ∧ Q (.d (.int ns.sum)) ω) := rfl
theorem aComp_eq (src : List (Option Nat)) (wi : AI) (g : AG) (tc : AT) (l : AL) (ρ : SA) (ω : Om) (Q : AV → Om → Prop) : aComp src wi g tc l ρ ω Q = (wi ρ ω fun as ω1 => aLoop g tc l as [] (blkA src ρ) ω1 fun xs _ ω' => ∃ ds, und xs = some ds ∧ Q (.d (.lst ds)) ω') := rfl
theorem aCompO_eq (src : List (Option Nat)) (wi : AI) (g : AG) (tc : AT) (l : AL) (ρ : SA) (ω : Om) (Q : AV → Om → Prop) : aCompO src wi g tc l ρ ω Q = (wi ρ ω fun as ω1 => aLoop g tc l as [] (blkA src ρ) ω1 fun xs _ ω' => ∀ p, ω' p = none → Q (.r (.ref p)) (ω'.put p (.own xs))) := rfl
theorem aUn_eq (r : AV → Om → (AV → Om → Prop) → Prop) (ta : AE) (ρ : SA) (ω : Om) (Q : AV → Om → Prop) : aUn r ta ρ ω Q = (ta ρ ω fun x ω1 => r x ω1 Q) := rfl
theorem aCB_eq (r : List AV → Om → (AV → Om → Prop) → Prop) (t : AA) (ρ : SA) (ω : Om) (Q : AV → Om → Prop) : aCB r t ρ ω Q = (t ρ ω fun xs ω1 => r xs ω1 Q) := rfl
theorem aU_eq (f : Int → D) (x : AV) (ω : Om) (Q : AV → Om → Prop) : aU f x ω Q = (∃ i, x = .d (.int i) ∧ Q (.d (f i)) ω) := rfl
theorem aSGet_eq (kvs : List (Str × V)) (ty : AE) (ρ : SA) (ω : Om) (Q : AV → Om → Prop) : aSGet kvs ty ρ ω Q = (ty ρ ω fun y ω1 => ∃ x v d, y = .d (.str x) ∧ valS kvs x = some v ∧ vD v = some d ∧ Q (.d d) ω1) := rfl
theorem aAdd_int (i : Int) (y : AV) (ω : Om) (Q : AV → Om → Prop) : aAdd (.d (.int i)) y ω Q = (∃ j, y = .d (.int j) ∧ Q (.d (.int (i + j))) ω) := rfl
theorem aAdd_tup (ds : List D) (y : AV) (ω : Om) (Q : AV → Om → Prop) : aAdd (.d (.tup ds)) y ω Q = (∃ es, y = .d (.tup es) ∧ ds.length + es.length ≤ sizeLine ∧ Q (.d (.tup (ds ++ es))) ω) := rfl
theorem aAdd_lst (ds : List D) (y : AV) (ω : Om) (Q : AV → Om → Prop) : aAdd (.d (.lst ds)) y ω Q = (∃ es, datA ω y = some (.lst es) ∧ ds.length + es.length ≤ sizeLine ∧ Q (.d (.lst (ds ++ es))) ω) := by
  show (∃ ds' es, datA ω (.d (.lst ds)) = some (.lst ds') ∧ datA ω y = some (.lst es) ∧ ds'.length + es.length ≤ sizeLine ∧ Q (.d (.lst (ds' ++ es))) ω) = _
  simp only [datA, Option.some.injEq, D.lst.injEq, exists_eq_left', exists_and_left]
theorem aAdd_ref (l : Addr) (y : AV) (ω : Om) (Q : AV → Om → Prop) : aAdd (.r (.ref l)) y ω Q = (∃ ds es, datA ω (.r (.ref l)) = some (.lst ds) ∧ datA ω y = some (.lst es) ∧ ds.length + es.length ≤ sizeLine ∧ Q (.d (.lst (ds ++ es))) ω) := rfl
theorem aAddO_int (i : Int) (y : AV) (ω : Om) (Q : AV → Om → Prop) : aAddO (.d (.int i)) y ω Q = (∃ j, y = .d (.int j) ∧ Q (.d (.int (i + j))) ω) := rfl
theorem aAddO_lst (ds : List D) (y : AV) (ω : Om) (Q : AV → Om → Prop) : aAddO (.d (.lst ds)) y ω Q = (aCatLO (.d (.lst ds)) y ω Q) := rfl
theorem aAddO_ref (l : Addr) (y : AV) (ω : Om) (Q : AV → Om → Prop) : aAddO (.r (.ref l)) y ω Q = (aCatLO (.r (.ref l)) y ω Q) := rfl
theorem aMul_int (i : Int) (y : AV) (ω : Om) (Q : AV → Om → Prop) : aMul (.d (.int i)) y ω Q = (∃ j, y = .d (.int j) ∧ CMul i j ∧ Q (.d (.int (i * j))) ω) := rfl
theorem aMul_lst (ds : List D) (y : AV) (ω : Om) (Q : AV → Om → Prop) : aMul (.d (.lst ds)) y ω Q = aRepL (.d (.lst ds)) y ω Q := rfl
def slA (x : AV) (lo hi : Option Int) (ω : Om) (Q : AV → Om → Prop) : Prop := match x with
  | .d (.tup ds) => Q (.d (.tup (cutL ds lo hi))) ω
  | x => ∃ ds, datA ω x = some (.lst ds) ∧ Q (.d (.lst (cutL ds lo hi))) ω
theorem slA_tup (ds : List D) (lo hi : Option Int) (ω : Om) (Q : AV → Om → Prop) : slA (.d (.tup ds)) lo hi ω Q = Q (.d (.tup (cutL ds lo hi))) ω := rfl
theorem slA_lst (ds : List D) (lo hi : Option Int) (ω : Om) (Q : AV → Om → Prop) : slA (.d (.lst ds)) lo hi ω Q = Q (.d (.lst (cutL ds lo hi))) ω := by
  show (∃ ds', datA ω (.d (.lst ds)) = some (.lst ds') ∧ Q (.d (.lst (cutL ds' lo hi))) ω) = _
  simp only [datA, Option.some.injEq, D.lst.injEq, exists_eq_left']
theorem slA_ref (l : Addr) (lo hi : Option Int) (ω : Om) (Q : AV → Om → Prop) : slA (.r (.ref l)) lo hi ω Q = (∃ ds, datA ω (.r (.ref l)) = some (.lst ds) ∧ Q (.d (.lst (cutL ds lo hi))) ω) := rfl
theorem aSl_eq (te : AE) (tl th : AO) (ρ : SA) (ω : Om) (Q : AV → Om → Prop) : aSl te tl th ρ ω Q = (te ρ ω fun x ω1 => tl ρ ω1 fun lo ω2 => th ρ ω2 fun hi ω3 => slA x lo hi ω3 Q) := rfl
theorem frzA_d (ω : Om) (x : D) (K : D → Om → Prop) : frzA ω (.d x) K = K x ω := rfl
theorem frzA_r (ω : Om) (l : Addr) (K : D → Om → Prop) : frzA ω (.r (.ref l)) K = (match ω l with
    | some (.own xs) => ∃ ds, und xs = some ds ∧ K (.lst ds) (ω.put l (.frz ds))
    | some (.frz ds) => K (.lst ds) ω
    | _ => False) := rfl
theorem datA_d (ω : Om) (x : D) : datA ω (.d x) = some x := rfl
theorem datA_r (ω : Om) (l : Addr) : datA ω (.r (.ref l)) = (match ω l with
    | some (.own xs) => (und xs).map D.lst
    | some (.frz ds) => some (.lst ds)
    | _ => none) := rfl
theorem lstA_l (ω : Om) (ds : List D) : lstA ω (.d (.lst ds)) = some (ds.map AV.d) := rfl
theorem lstA_t (ω : Om) (ds : List D) : lstA ω (.d (.tup ds)) = none := rfl
theorem lstA_r (ω : Om) (l : Addr) : lstA ω (.r (.ref l)) = (match ω l with
    | some (.own xs) => some xs
    | some (.frz ds) => some (ds.map AV.d)
    | _ => none) := rfl
theorem tupA_t (ds : List D) : tupA (.d (.tup ds)) = some (ds.map AV.d) := rfl
theorem tupA_l (ds : List D) : tupA (.d (.lst ds)) = none := rfl
theorem tupA_r (v : V) : tupA (.r v) = none := rfl
theorem truA_b (ω : Om) (b : Bool) : truA ω (.d (.bl b)) = some b := rfl
theorem truA_i (ω : Om) (i : Int) : truA ω (.d (.int i)) = some (i != 0) := rfl
theorem truA_n (ω : Om) : truA ω (.d .non) = some false := rfl
theorem truA_t (ω : Om) (ds : List D) : truA ω (.d (.tup ds)) = some (!ds.isEmpty) := rfl
theorem truA_l (ω : Om) (ds : List D) : truA ω (.d (.lst ds)) = some (!ds.isEmpty) := by simp [truA, lstA]
theorem truA_r (ω : Om) (l : Addr) : truA ω (.r (.ref l)) = (lstA ω (.r (.ref l))).map fun xs => !xs.isEmpty := rfl
theorem und_cons (x : D) (r : List AV) : und (.d x :: r) = (und r).map (x :: ·) := rfl
theorem und_nil : und [] = some [] := rfl
theorem lenA_t (ω : Om) (ds : List D) : lenA ω (.d (.tup ds)) = some ds.length := by simp [lenA, tupA]
theorem lenA_l (ω : Om) (ds : List D) : lenA ω (.d (.lst ds)) = some ds.length := by simp [lenA, tupA, lstA]
theorem lenA_r (ω : Om) (l : Addr) : lenA ω (.r (.ref l)) = (lstA ω (.r (.ref l))).map List.length := rfl
theorem seqD_t (ds : List D) : seqD (.tup ds) = some ds := rfl
theorem seqD_l (ds : List D) : seqD (.lst ds) = some ds := rfl
theorem aForL_nil (g : AG) (tb : AS) (D : AEnds) (ρ : SA) (ω : Om) : aForL g tb D [] ρ ω = D.nx ρ ω := rfl
theorem aForL_cons (g : AG) (tb : AS) (D : AEnds) (a : AV) (as : List AV) (ρ : SA) (ω : Om) : aForL g tb D (a :: as) ρ ω = (g a ρ ω fun ρ1 ω1 => tb { nx := aForL g tb D as, ct := aForL g tb D as, bk := D.nx, rt := D.rt } ρ1 ω1) := rfl
theorem aLoop_nil (g : AG) (tc : AT) (l : AL) (xs : List AV) (ρ : SA) (ω : Om) (K : List AV → SA → Om → Prop) : aLoop g tc l [] xs ρ ω K = K xs ρ ω := rfl
theorem aLoop_cons (g : AG) (tc : AT) (l : AL) (a : AV) (as xs : List AV) (ρ : SA) (ω : Om) (K : List AV → SA → Om → Prop) : aLoop g tc l (a :: as) xs ρ ω K = (g a ρ ω fun ρ1 ω1 => tc ρ1 ω1 fun b ω2 => if b = true then l xs ρ1 ω2 (fun xs' ρ' ω' => aLoop g tc l as xs' ρ' ω' K) else aLoop g tc l as xs ρ1 ω2 K) := rfl
theorem for_ix {g : AG} {tb : AS} {D : AEnds} {as : List AV} {ρ : SA} {ω : Om} (I : Nat → SA → Om → Prop) (h0 : I 0 ρ ω)
    (hs : ∀ (i : Nat) (a : AV) (ρ : SA) (ω : Om) (N : SA → Om → Prop), as[i]? = some a → I i ρ ω → (∀ ρ' ω', I (i + 1) ρ' ω' → N ρ' ω') → g a ρ ω fun ρ1 ω1 => tb { nx := N, ct := N, bk := D.nx, rt := D.rt } ρ1 ω1)
    (hd : ∀ ρ ω, I as.length ρ ω → D.nx ρ ω) : aForL g tb D as ρ ω := by
  have key : ∀ (n i : Nat) (ρ : SA) (ω : Om), i + n = as.length → I i ρ ω → aForL g tb D (as.drop i) ρ ω := by
    intro n
    induction n with
    | zero => intro i ρ ω hi h; rw [List.drop_eq_nil_of_le (by omega)]; exact hd ρ ω (by rw [← hi]; exact h)
    | succ n ih =>
      intro i ρ ω hi h
      obtain ⟨a, ha, hdr⟩ := drop_cons (as := as) (i := i) (by omega)
      rw [hdr]
      exact hs i a ρ ω _ ha h fun ρ' ω' h' => ih (i + 1) ρ' ω' (by omega) h'
  simpa using key as.length 0 ρ ω (by omega) h0
theorem for_D {g : AG} {tb : AS} {D : AEnds} {ds : List L2.D} {ρ : SA} {ω : Om} (I : Nat → SA → Om → Prop) (h0 : I 0 ρ ω)
    (hs : ∀ (i : Nat) (d : L2.D) (ρ : SA) (ω : Om) (N : SA → Om → Prop), ds[i]? = some d → I i ρ ω → (∀ ρ' ω', I (i + 1) ρ' ω' → N ρ' ω') → g (.d d) ρ ω fun ρ1 ω1 => tb { nx := N, ct := N, bk := D.nx, rt := D.rt } ρ1 ω1)
    (hd : ∀ ρ ω, I ds.length ρ ω → D.nx ρ ω) : aForL g tb D (ds.map AV.d) ρ ω :=
  for_ix I h0 (fun i a ρ ω N ha h k => by
    rw [List.getElem?_map, Option.map_eq_some_iff] at ha
    obtain ⟨d, h1, rfl⟩ := ha
    exact hs i d ρ ω N h1 h k) (fun ρ ω h => hd ρ ω (by simpa using h))
theorem for_rng {g : AG} {tb : AS} {D : AEnds} {lo : Int} {n : Nat} {ρ : SA} {ω : Om} (I : Nat → SA → Om → Prop) (h0 : I 0 ρ ω)
    (hs : ∀ (i : Nat) (ρ : SA) (ω : Om) (N : SA → Om → Prop), i < n → I i ρ ω → (∀ ρ' ω', I (i + 1) ρ' ω' → N ρ' ω') → g (.d (.int (lo + (i : Nat)))) ρ ω fun ρ1 ω1 => tb { nx := N, ct := N, bk := D.nx, rt := D.rt } ρ1 ω1)
    (hd : ∀ ρ ω, I n ρ ω → D.nx ρ ω) : aForL g tb D (rngA lo n) ρ ω :=
  for_ix I h0 (fun i a ρ ω N ha h k => by
    unfold rngA at ha
    rw [List.getElem?_map, Option.map_eq_some_iff] at ha
    obtain ⟨j, h1, rfl⟩ := ha
    obtain ⟨hj, rfl⟩ := List.getElem?_eq_some_iff.mp h1
    simp only [List.getElem_range, List.length_range] at hj ⊢
    exact hs i ρ ω N hj h k) (fun ρ ω h => hd ρ ω (by simpa [rngA] using h))
theorem loop_ix {g : AG} {tc : AT} {l : AL} {as xs : List AV} {ρ : SA} {ω : Om} {K : List AV → SA → Om → Prop} (I : Nat → List AV → SA → Om → Prop) (h0 : I 0 xs ρ ω)
    (hs : ∀ (i : Nat) (a : AV) (xs : List AV) (ρ : SA) (ω : Om) (N : List AV → SA → Om → Prop), as[i]? = some a → I i xs ρ ω → (∀ xs' ρ' ω', I (i + 1) xs' ρ' ω' → N xs' ρ' ω') → g a ρ ω fun ρ1 ω1 => tc ρ1 ω1 fun b ω2 => if b = true then l xs ρ1 ω2 N else N xs ρ1 ω2)
    (hd : ∀ xs ρ ω, I as.length xs ρ ω → K xs ρ ω) : aLoop g tc l as xs ρ ω K := by
  have key : ∀ (n i : Nat) (xs : List AV) (ρ : SA) (ω : Om), i + n = as.length → I i xs ρ ω → aLoop g tc l (as.drop i) xs ρ ω K := by
    intro n
    induction n with
    | zero => intro i xs ρ ω hi h; rw [List.drop_eq_nil_of_le (by omega)]; exact hd xs ρ ω (by rw [← hi]; exact h)
    | succ n ih =>
      intro i xs ρ ω hi h
      obtain ⟨a, ha, hdr⟩ := drop_cons (as := as) (i := i) (by omega)
      rw [hdr]
      exact hs i a xs ρ ω (fun xs' ρ' ω' => aLoop g tc l (as.drop (i + 1)) xs' ρ' ω' K) ha h fun xs' ρ' ω' h' => ih (i + 1) xs' ρ' ω' (by omega) h'
  simpa using key as.length 0 xs ρ ω (by omega) h0
theorem loop_D {g : AG} {tc : AT} {l : AL} {ds : List D} {xs : List AV} {ρ : SA} {ω : Om} {K : List AV → SA → Om → Prop} (I : Nat → List AV → SA → Om → Prop) (h0 : I 0 xs ρ ω)
    (hs : ∀ (i : Nat) (d : D) (xs : List AV) (ρ : SA) (ω : Om) (N : List AV → SA → Om → Prop), ds[i]? = some d → I i xs ρ ω → (∀ xs' ρ' ω', I (i + 1) xs' ρ' ω' → N xs' ρ' ω') → g (.d d) ρ ω fun ρ1 ω1 => tc ρ1 ω1 fun b ω2 => if b = true then l xs ρ1 ω2 N else N xs ρ1 ω2)
    (hd : ∀ xs ρ ω, I ds.length xs ρ ω → K xs ρ ω) : aLoop g tc l (ds.map AV.d) xs ρ ω K :=
  loop_ix I h0 (fun i a xs ρ ω N ha h k => by
    rw [List.getElem?_map, Option.map_eq_some_iff] at ha
    obtain ⟨d, h1, rfl⟩ := ha
    exact hs i d xs ρ ω N h1 h k) (fun xs ρ ω h => hd xs ρ ω (by simpa using h))
theorem comp_fm {tc : AT} {te : AE} {ds : List D} {v0 : Option AV} {rest : SA} {ω : Om} {K : List AV → SA → Om → Prop} (p : D → Bool) (f : D → D)
    (ht : ∀ d ∈ ds, ∀ Q : Bool → Om → Prop, Q (p d) ω → tc (some (.d d) :: rest) ω Q) (he : ∀ d ∈ ds, p d = true → ∀ Q : AV → Om → Prop, Q (.d (f d)) ω → te (some (.d d) :: rest) ω Q) (hz : ds.length ≤ sizeLine)
    (hk : ∀ ρ, K (((ds.filter p).map f).map AV.d) ρ ω) : aLoop (agName 0) tc (aLast te) (ds.map AV.d) [] (v0 :: rest) ω K := by
  refine loop_D (fun i xs ρ ω' => ω' = ω ∧ (∃ v, ρ = v :: rest) ∧ xs = (((ds.take i).filter p).map f).map AV.d) ⟨rfl, ⟨_, rfl⟩, rfl⟩ ?_ ?_
  · rintro i d xs ρ ω' N hd ⟨rfl, ⟨v, rfl⟩, rfl⟩ kN
    have hi := (List.getElem?_eq_some_iff.mp hd).1
    have hm := List.mem_of_getElem? hd
    have et : ds.take (i + 1) = ds.take i ++ [d] := by rw [List.take_succ, hd]; rfl
    rw [agName_eq, List.set_cons_zero]
    refine ht d hm _ ?_
    cases hp : p d with
    | true =>
      rw [if_pos rfl, aLast_eq]
      refine he d hm hp _ ⟨?_, kN _ _ _ ⟨rfl, ⟨_, rfl⟩, ?_⟩⟩
      · rw [List.length_map, List.length_map]
        have := List.length_filter_le p (ds.take i)
        rw [List.length_take] at this
        omega
      · rw [et, List.filter_append]
        simp [hp]
    | false =>
      rw [if_neg Bool.false_ne_true]
      refine kN _ _ _ ⟨rfl, ⟨_, rfl⟩, ?_⟩
      rw [et, List.filter_append]
      simp [hp]
  · rintro xs ρ ω' ⟨rfl, _, rfl⟩
    rw [List.take_length]
    exact hk ρ
theorem comp_m {te : AE} {ds : List D} {v0 : Option AV} {rest : SA} {ω : Om} {K : List AV → SA → Om → Prop} (f : D → D)
    (he : ∀ d ∈ ds, ∀ Q : AV → Om → Prop, Q (.d (f d)) ω → te (some (.d d) :: rest) ω Q) (hz : ds.length ≤ sizeLine)
    (hk : ∀ ρ, K ((ds.map f).map AV.d) ρ ω) : aLoop (agName 0) aNoTest (aLast te) (ds.map AV.d) [] (v0 :: rest) ω K :=
  comp_fm (fun _ => true) f (fun d hd Q q => q) (fun d hd _ Q q => he d hd Q q) hz (fun ρ => by rw [List.filter_eq_self.mpr (fun _ _ => rfl)]; exact hk ρ)
structure Pn where
  f : Int
  x : Int
  i : Int
  h : 0 ≤ f
def penO (c : Pn) : OC := .own [.d (.int c.f), .d (.int c.x), .d (.int c.i)]
def PenAt (ω : Om) (p : Addr) : Prop := ∃ c, ω p = some (penO c)
theorem PenAt.other {ω : Om} {p l : Addr} {o : OC} (h : PenAt ω p) (e : p ≠ l) : PenAt (ω.put l o) p := by
  obtain ⟨c, h⟩ := h
  exact ⟨c, by rw [Om.put_ne e]; exact h⟩
theorem PenAt.ne {ω : Om} {p l : Addr} (h : PenAt ω p) (e : ω l = none) : p ≠ l := fun z => by
  obtain ⟨c, h⟩ := h
  subst z
  rw [e] at h; cases h
theorem Rep.pen {F : Fs} {H : Hp} {ω : Om} {p : Addr} (rp : Rep F H ω) (h : PenAt ω p) : ∃ c : Pn, H p = some (.lst [.int c.f, .int c.x, .int c.i]) := by
  obtain ⟨c, h⟩ := h
  obtain ⟨vs, e1, e2⟩ := rp.own p _ h
  obtain ⟨v, r, rfl, h1, v2, r2, rfl, h2, v3, r3, rfl, h3, h4⟩ := e2
  cases h4
  cases rv_int h1
  cases rv_int h2
  cases rv_int h3
  exact ⟨c, e1⟩
theorem LP.pen {F : Fs} {H H' : Hp} {ω : Om} {Q : VK} {Q' : AV → Om → Prop} {p : Addr} (k : LP RV F H ω Q' Q) (rp : Rep F H ω) (h : PenAt ω p) (kp : Keep p H H') {f x i : Int} (hp : H' p = some (.lst [.int f, .int x, .int i])) (hf : 0 ≤ f) {d : D} {v : V} (hn : noL d = true) (hd : Dat H' d v)
    (q : ∀ c : Pn, Q' (.d d) (ω.put p (penO c))) : Q v H' := by
  obtain ⟨c0, h0⟩ := h
  have nF : F p = false := by
    cases e : F p with
    | false => rfl
    | true => have := (rp.hid p e).1; rw [h0] at this; cases this
  have fr : Fr F H ω H' (ω.put p (penO ⟨f, x, i, hf⟩)) := ⟨fun b o e1 e2 e3 => by
    have hb : b ≠ p := fun z => by subst z; rw [h0] at e1; cases e1
    exact ⟨kp b o hb e3, by rw [Om.put_ne hb]; exact e1⟩, fun b e => by
    obtain ⟨z1, vs, z2⟩ := rp.hid b e
    have hb : b ≠ p := fun z => by subst z; rw [nF] at e; cases e
    rw [z2, kp b _ hb z2]⟩
  have rp2 : Rep F H' (ω.put p (penO ⟨f, x, i, hf⟩)) := by
    refine ⟨fun l xs e => ?_, fun l ds e => ?_, fun b e => ?_, fun l ks e => (by
      have hl : l ≠ p := fun z => (by subst z; rw [Om.put_same] at e; cases e)
      rw [Om.put_ne hl] at e; obtain ⟨vs, e1, e2⟩ := rp.dic l ks e; exact ⟨vs, kp l _ hl e1, e2.same fr.same⟩)⟩
    · by_cases hl : l = p
      · subst hl
        rw [Om.put_same] at e
        cases e
        exact ⟨_, hp, _, _, rfl, by simp [RV, Dat], _, _, rfl, by simp [RV, Dat], _, _, rfl, by simp [RV, Dat], rfl⟩
      · rw [Om.put_ne hl] at e
        obtain ⟨vs, e1, e2⟩ := rp.own l xs e
        exact ⟨vs, kp l _ hl e1, e2.same fr.same⟩
    · by_cases hl : l = p
      · subst hl; rw [Om.put_same] at e; cases e
      · rw [Om.put_ne hl] at e
        exact (rp.frz l ds e).same fr.same
    · obtain ⟨z1, vs, z2⟩ := rp.hid b e
      have hb : b ≠ p := fun z => by subst z; rw [nF] at e; cases e
      exact ⟨by rw [Om.put_ne hb]; exact z1, vs, kp b _ hb z2⟩
  exact k (.d d) _ v H' rp2 fr (Dat.t rp2.stays hn hd) (q _)
end L2
namespace L2
open PySem PySem.Spec PyProof.Rows
section
variable {α : Type} (a b c e : α) (l : List α)
theorem atI_of {xs : List α} {x : α} (j : Nat) {i : Int} (hi : i = (j : Int)) (h : xs[j]? = some x) : atI xs i = some x := by
  subst hi
  have hj := (List.getElem?_eq_some_iff.mp h).1
  unfold atI ixN
  rw [if_pos (by omega), if_pos (by omega)]
  simpa using h
theorem atI_0 : atI (a :: l) 0 = some a := atI_of 0 rfl rfl
theorem atI_1 : atI (a :: b :: l) 1 = some b := atI_of 1 rfl rfl
theorem atI_2 : atI (a :: b :: c :: l) 2 = some c := atI_of 2 rfl rfl
theorem atI_3 : atI (a :: b :: c :: e :: l) 3 = some e := atI_of 3 rfl rfl
end
theorem sz1 : (1 ≤ sizeLine) = True := eq_true (by decide)
theorem sz2 : (2 ≤ sizeLine) = True := eq_true (by decide)
theorem sz3 : (3 ≤ sizeLine) = True := eq_true (by decide)
theorem sz4 : (4 ≤ sizeLine) = True := eq_true (by decide)
theorem sz5 : (5 ≤ sizeLine) = True := eq_true (by decide)
theorem sz6 : (6 ≤ sizeLine) = True := eq_true (by decide)
theorem sz7 : (7 ≤ sizeLine) = True := eq_true (by decide)
theorem sz8 : (8 ≤ sizeLine) = True := eq_true (by decide)
theorem sz9 : (9 ≤ sizeLine) = True := eq_true (by decide)
theorem sz10 : (10 ≤ sizeLine) = True := eq_true (by decide)
theorem sz11 : (11 ≤ sizeLine) = True := eq_true (by decide)
theorem sz12 : (12 ≤ sizeLine) = True := eq_true (by decide)
theorem ixN_30 : ixN 3 0 = some 0 := rfl
theorem ixN_31 : ixN 3 1 = some 1 := rfl
theorem ixN_32 : ixN 3 2 = some 2 := rfl
theorem eqD_int (a b : Int) : eqD (.int a) (.int b) = (a == b) := by simp [eqD]
theorem eqD_str (a b : Str) : eqD (.str a) (.str b) = (a == b) := by simp [eqD]
theorem eqD_bl (a b : Bool) : eqD (.bl a) (.bl b) = (a == b) := by simp [eqD]
theorem eqD_nn : eqD .non .non = true := by simp [eqD]
theorem eqD_tn (a : List D) : eqD (.tup a) .non = false := by simp [eqD]
theorem eqD_ln (a : List D) : eqD (.lst a) .non = false := by simp [eqD]
theorem dep_int (a : Int) : dep (.int a) = 0 := by simp [dep]
theorem dep_str (a : Str) : dep (.str a) = 0 := by simp [dep]
theorem dep_bl (a : Bool) : dep (.bl a) = 0 := by simp [dep]
theorem dep_non : dep .non = 0 := by simp [dep]
theorem intD_int (a : Int) : intD (.int a) = some a := rfl
theorem intD_bl (a : Bool) : intD (.bl a) = some (if a then 1 else 0) := rfl
theorem boolD_int (a : Int) : boolD (.int a) = some (a != 0) := rfl
theorem boolD_bl (a : Bool) : boolD (.bl a) = some a := rfl
theorem le_dec {n m : Nat} (h : n ≤ 1000) : n ≤ sizeLine := Nat.le_trans h (by decide)
end L2
set_option Elab.async false
set_option linter.all false
set_option autoImplicit false
set_option maxRecDepth 100000
set_option maxHeartbeats 1000000
namespace L2
open PySem PySem.Spec PyProof.Rows
def Om.only (ω' ω : Om) : Om := fun b => if (ω b).isSome = true then ω' b else none
def Ex (ω ω' : Om) : Prop := ∀ b, (ω b).isSome = true → ω' b = ω b
theorem Ex.refl (ω : Om) : Ex ω ω := fun _ _ => rfl
theorem Ex.trans {ω ω1 ω2 : Om} (a : Ex ω ω1) (b : Ex ω1 ω2) : Ex ω ω2 := fun c h => (b c (by rw [a c h]; exact h)).trans (a c h)
theorem Ex.none {ω ω' : Om} (h : Ex ω ω') {l : Addr} (e : ω' l = none) : ω l = none := by
  cases z : ω l with
  | none => rfl
  | some c => have := h l (by rw [z]; rfl); rw [e, z] at this; cases this
theorem Ex.new {ω ω' : Om} (h : Ex ω ω') {l : Addr} {c : OC} (e : ω' l = Option.none) : Ex ω (ω'.put l c) := fun b hb => by
  have : b ≠ l := fun z => by subst z; rw [h.none e] at hb; cases hb
  rw [Om.put_ne this]; exact h b hb
theorem Ex.over {ω ω' : Om} (h : Ex ω ω') {l : Addr} {c : OC} (e : ω l = Option.none) : Ex ω (ω'.put l c) := fun b hb => by
  have : b ≠ l := fun z => by subst z; rw [e] at hb; cases hb
  rw [Om.put_ne this]; exact h b hb
theorem Ex.put {ω ω' : Om} (h : Ex ω ω') {l : Addr} {c : OC} : Ex (ω.put l c) (ω'.put l c) := fun b hb => by
  by_cases z : b = l
  · subst z; rw [Om.put_same, Om.put_same]
  · rw [Om.put_ne z] at hb ⊢; rw [Om.put_ne z]; exact h b hb
theorem Ex.put2 {ω ω' : Om} {l : Addr} {c e : OC} (h : Ex (ω.put l c) ω') : Ex (ω.put l e) (ω'.put l e) := by
  have := h.put (l := l) (c := e)
  rwa [Om.put_put] at this
theorem Ex.pen {ω ω' : Om} {p : Addr} {c : Pn} (h : Ex (ω.put p (penO c)) ω') : PenAt ω' p := ⟨c, (h p (by rw [Om.put_same]; rfl)).trans Om.put_same⟩
theorem only_self (ω : Om) : ω.only ω = ω := by
  funext b; unfold Om.only
  cases e : ω b <;> simp
theorem only_ex {ω ω' : Om} (h : Ex ω ω') : ω'.only ω = ω := by
  funext b; unfold Om.only
  cases e : ω b with
  | none => simp
  | some c => simp only [Option.isSome_some, if_true]; rw [h b (by rw [e]; rfl), e]
theorem only_put {ω ω' : Om} {p : Addr} {c : OC} (h : Ex (ω.put p c) ω') (hp : (ω p).isSome = true) : ω'.only ω = ω.put p c := by
  funext b; unfold Om.only
  by_cases hb : b = p
  · subst hb; rw [if_pos hp, h b (by rw [Om.put_same]; rfl)]
  · rw [Om.put_ne hb]
    cases e : ω b with
    | none => simp
    | some o => simp only [Option.isSome_some, if_true]; rw [h b (by rw [Om.put_ne hb, e]; rfl), Om.put_ne hb, e]
theorem PenAt.some {ω : Om} {p : Addr} (h : PenAt ω p) : (ω p).isSome = true := by obtain ⟨c, h⟩ := h; rw [h]; rfl
theorem Rep.only {F : Fs} {H : Hp} {ω ω' : Om} (rp : Rep F H ω') : Rep F H (ω'.only ω) ∧ Same (cut F H ω') (cut F H (ω'.only ω)) := by
  have ho : ∀ b, ow (ω' b) = false → ow ((ω'.only ω) b) = false := fun b h => by
    unfold Om.only
    split
    · exact h
    · rfl
  have sm : Same (cut F H ω') (cut F H (ω'.only ω)) := fun b o e => by
    obtain ⟨h, f, e⟩ := cut_some.mp e
    exact cut_some.mpr ⟨ho b h, f, e⟩
  have un : ∀ b c, (ω'.only ω) b = some c → ω' b = some c := fun b c e => by
    unfold Om.only at e
    split at e
    · exact e
    · cases e
  refine ⟨⟨fun l xs e => ?_, fun l ds e => (rp.frz l ds (un _ _ e)).same sm, fun b f => ?_, fun l ks e => (by obtain ⟨vs, e1, e2⟩ := rp.dic l ks (un _ _ e); exact ⟨vs, e1, e2.same sm⟩)⟩, sm⟩
  · obtain ⟨vs, e1, e2⟩ := rp.own l xs (un _ _ e)
    exact ⟨vs, e1, e2.same sm⟩
  · obtain ⟨h1, h2⟩ := rp.hid b f
    refine ⟨?_, h2⟩
    unfold Om.only
    rw [h1]; simp
theorem Fr.only {F : Fs} {H H' : Hp} {ω ω' : Om} (fr : Fr F H ω H' ω') : Fr F H ω H' (ω'.only ω) := ⟨fun b o h f e => by
  obtain ⟨x, y⟩ := fr.st b o h f e
  refine ⟨x, ?_⟩
  unfold Om.only
  split
  · exact y
  · rfl, fr.hd⟩
theorem Fun.okD {P : Program} {w : World} {K : PySem.W.Frag} {mg : Str → Option Value} {base : Heap} {x qual : Str} {st : Stmt} {f : Addr} {fd : FuncData} {N ps : List Str} {k : Nat} {sp : ASp} (F : Fun K x qual st f fd) (S : FnScope N ps (defScope st)) (len : ∀ xs ω Q, sp xs ω Q → xs.length = ps.length)
    (hbody : ∀ (cdv : Value) (A : Around) (outer : List Env) (s : Shared) (H : Hp) (E : XK), Room k (A.deeper (envOfC qual (defScope st) s.heap.objs.size f cdv)) →
      ∃ t t', PSs (cxOf CX0 P w K mg base N qual (defScope st) f cdv A outer s H E).nox (defBody st) t ∧ RefS t t' ∧ ∀ xs ω Q', sp xs ω Q' → t' { nx := fun _ ω' => Q' (.d .non) (ω'.only ω), rt := fun a ω' => ∃ d, a = .d d ∧ Q' (.d d) (ω'.only ω) } (startA N xs) ω) : FnOk P w K mg base CX0 (k + 1) f fd ps (lift sp) := by
  refine F.ok S (fun vs H Q E h => ?_) (fun cdv A outer s H vs Q E hr h => ?_)
  · obtain ⟨F, xs, ω, Q', rp, rv, h, _⟩ := h
    rw [rv.length, len xs ω Q' h]
  · obtain ⟨t, t', h1, h2, h3⟩ := hbody cdv A outer s H E hr
    obtain ⟨F, xs, ω, Q', rp, rv, h, kq⟩ := h
    refine ⟨t, h1, h2.run F H ω _ _ _ _ rp (RS.start rv) (h3 xs ω Q' h) ⟨?_, ?_, fun _ _ _ _ _ _ _ z => z.elim, fun _ _ _ _ _ _ _ z => z.elim⟩⟩
    · exact fun ρ' ω' σ' H' e1 e2 e3 q => kq (.d .non) (ω'.only ω) .non H' e1.only.1 e2.only (by simp [RV, Dat]) q
    · rintro a ω' v H' e1 e2 e3 ⟨d, rfl, q⟩
      exact kq (.d d) (ω'.only ω) v H' e1.only.1 e2.only (e3.same e1.only.2) q
def wl : Nat → List (List Int)
  | 0 => [[]]
  | n + 1 => (wl n).flatMap fun w => [w ++ [0], w ++ [1]]
theorem wl_len : ∀ n, (wl n).length = 2 ^ n
  | 0 => rfl
  | n + 1 => by
    have h : ∀ ws : List (List Int), (ws.flatMap fun w => [w ++ [0], w ++ [1]]).length = 2 * ws.length := fun ws => by
      induction ws with
      | nil => rfl
      | cons a r ih => rw [List.flatMap_cons, List.length_append, ih]; simp; omega
    rw [wl, h, wl_len n, Nat.pow_succ]; omega
theorem wl_mem : ∀ {n : Nat} {w : List Int}, w ∈ wl n → w.length = n ∧ ∀ x ∈ w, x = 0 ∨ x = 1
  | 0, w, h => by simp [wl] at h; rw [h]; simp
  | n + 1, w, h => by
    simp only [wl, List.mem_flatMap] at h
    obtain ⟨v, hv, h⟩ := h
    obtain ⟨h1, h2⟩ := wl_mem hv
    simp only [List.mem_cons, List.not_mem_nil, or_false] at h
    rcases h with rfl | rfl <;> refine ⟨by simp [h1], fun x hx => ?_⟩ <;> rcases List.mem_append.mp hx with hx | hx
    · exact h2 x hx
    · rw [List.mem_singleton.mp hx]; exact .inl rfl
    · exact h2 x hx
    · rw [List.mem_singleton.mp hx]; exact .inr rfl
theorem wl_le {n : Nat} (h : n ≤ 5) : (wl n).length ≤ 32 := by
  rw [wl_len]
  exact Nat.pow_le_pow_right (by decide) h
theorem wl_nd0 : ∀ n : Fin 6, (wl n.val).Nodup := by decide +kernel
theorem wl_nd {n : Nat} (h : n ≤ 5) : (wl n).Nodup := wl_nd0 ⟨n, by omega⟩
def Wds (n : Nat) (ws : List (List Int)) : Prop := ws.Nodup ∧ ∀ w ∈ ws, w ∈ wl n
theorem Wds.le {n : Nat} {ws : List (List Int)} (h : Wds n ws) (hn : n ≤ 5) : ws.length ≤ 32 := by
  have := h.1.length_le_of_subset (l₂ := wl n) (fun w hw => h.2 w hw)
  have := wl_le hn
  omega
theorem Wds.sub {n : Nat} {ws : List (List Int)} (h : ws.Sublist (wl n)) (hn : n ≤ 5) : Wds n ws := ⟨h.nodup (wl_nd hn), fun w hw => h.mem hw⟩
theorem eqDs_ints : ∀ a b : List Int, eqDs (a.map D.int) (b.map D.int) = decide (a = b)
  | [], [] => by simp [eqDs]
  | [], _ :: _ => by simp [eqDs]
  | _ :: _, [] => by simp [eqDs]
  | x :: a, y :: b => by
    simp only [List.map_cons, eqDs, eqD, eqDs_ints a b, List.cons.injEq]
    by_cases h1 : x = y <;> by_cases h2 : a = b <;> simp [h1, h2]
theorem eqD_wd (a b : List Int) : eqD (wdD a) (wdD b) = decide (a = b) := by simp only [wdD, eqD]; exact eqDs_ints a b
theorem dep_wd (w : List Int) : dep (wdD w) = 1 := by simp [wdD, dep, deps_ints]
theorem deps_wds (ws : List (List Int)) : deps (ws.map wdD) ≤ 1 := deps_le fun d hd => by
  obtain ⟨w, _, rfl⟩ := List.mem_map.mp hd
  rw [dep_wd]
  exact Nat.le_refl _
theorem inD_wd (a : List Int) (ws : List (List Int)) : inD (wdD a) (ws.map wdD) = decide (a ∈ ws) := by
  unfold inD
  rw [Bool.eq_iff_iff, List.any_eq_true, decide_eq_true_iff]
  constructor
  · rintro ⟨d, hd, e⟩
    obtain ⟨w, hw, rfl⟩ := List.mem_map.mp hd
    rw [eqD_wd, decide_eq_true_iff] at e
    exact e ▸ hw
  · intro h
    exact ⟨wdD a, List.mem_map.mpr ⟨a, h, rfl⟩, by rw [eqD_wd]; simp⟩
theorem map_get {α β : Type} {f : α → β} {xs : List α} {i : Nat} {y : β} (h : (xs.map f)[i]? = some y) : ∃ x, xs[i]? = some x ∧ y = f x := by
  rw [List.getElem?_map] at h
  cases e : xs[i]? with
  | none => rw [e] at h; cases h
  | some x => rw [e] at h; cases h; exact ⟨x, rfl, rfl⟩
theorem map_nth {α : Type} {f : α → AV} {xs : List α} {i : Int} (h0 : 0 ≤ i) (h1 : i < xs.length) : ∃ x, x ∈ xs ∧ xs[i.toNat]? = some x ∧ atI (xs.map f) i = some (f x) := by
  obtain ⟨j, rfl⟩ := Int.eq_ofNat_of_zero_le h0
  have hj : j < xs.length := by omega
  exact ⟨xs[j], List.getElem_mem hj, by simp [List.getElem?_eq_getElem hj], atI_of j rfl (by rw [List.getElem?_map, List.getElem?_eq_getElem hj]; rfl)⟩
theorem wd_at {w : List Int} {i : Int} (h0 : 0 ≤ i) (h1 : i < w.length) : atI ((w.map D.int).map AV.d) i = some (.d (.int (w.getD i.toNat 0))) := by
  obtain ⟨j, rfl⟩ := Int.eq_ofNat_of_zero_le h0
  have hj : j < w.length := by omega
  refine atI_of j rfl ?_
  rw [List.getElem?_map, List.getElem?_map, List.getElem?_eq_getElem hj]
  simp [List.getD_eq_getElem?_getD, List.getElem?_eq_getElem hj]
theorem aAdd_wd (x : List Int) (b : Int) (ω : Om) (Q : AV → Om → Prop) : aAdd (.d (wdD x)) (.d (.tup [.int b])) ω Q = (x.length + 1 ≤ sizeLine ∧ Q (.d (wdD (x ++ [b]))) ω) := by
  unfold wdD
  rw [aAdd_tup]
  simp
theorem aAdd_wds (x y : List Int) (ω : Om) (Q : AV → Om → Prop) : aAdd (.d (wdD x)) (.d (wdD y)) ω Q = (x.length + y.length ≤ sizeLine ∧ Q (.d (wdD (x ++ y))) ω) := by
  unfold wdD
  rw [aAdd_tup]
  simp
theorem tupA_wd (x : List Int) : tupA (.d (wdD x)) = some ((x.map D.int).map AV.d) := rfl
theorem lstA_wd (ω : Om) (x : List Int) : lstA ω (.d (wdD x)) = none := rfl
theorem lenA_wd (ω : Om) (x : List Int) : lenA ω (.d (wdD x)) = some x.length := by simp [lenA, tupA_wd]
theorem seqD_wd (x : List Int) : seqD (wdD x) = some (x.map D.int) := rfl
theorem cutL_map {α β : Type} (f : α → β) (xs : List α) (lo hi : Option Int) : cutL (xs.map f) lo hi = (cutL xs lo hi).map f := by
  unfold cutL
  rw [List.length_map, List.map_take, List.map_drop]
theorem slA_wd (x : List Int) (lo hi : Option Int) (ω : Om) (Q : AV → Om → Prop) : slA (.d (wdD x)) lo hi ω Q = Q (.d (wdD (cutL x lo hi))) ω := by
  show Q (.d (.tup (cutL (x.map D.int) lo hi))) ω = _
  rw [cutL_map]; rfl
theorem truA_wd (ω : Om) (x : List Int) : truA ω (.d (wdD x)) = some (!x.isEmpty) := by
  show some (!(x.map D.int).isEmpty) = _
  simp
inductive Sy where
  | is (i b : Int)
  | jn (an : Bool) (l r : Sy)
namespace Sy
def d : Sy → D
  | .is i b => .tup [.str "is", .int i, .int b]
  | .jn an l r => .tup [.str (if an then "and" else "or"), l.d, r.d]
def ok (n : Nat) : Sy → Prop
  | .is i b => 0 ≤ i ∧ i < n ∧ (b = 0 ∨ b = 1)
  | .jn _ l r => l.ok n ∧ r.ok n
def dp : Sy → Nat
  | .is _ _ => 0
  | .jn _ l r => 1 + max l.dp r.dp
def up : Sy → Prop
  | .is _ b => b = 1
  | .jn _ l r => l.up ∧ r.up
def val (w : List Int) : Sy → Bool
  | .is i b => decide (w.getD i.toNat 0 = b)
  | .jn an l r => if an then val w l && val w r else val w l || val w r
end Sy
inductive Ta where
  | en (i : Int)
  | nd (y : Bool) (ws : List (List Int)) (l r : Ta)
namespace Ta
def d : Ta → D
  | .en i => .tup [.str "end", .int i]
  | .nd y ws l r => .tup [.str (if y then "yes" else "no"), .tup (ws.map wdD), l.d, r.d]
def ok (n : Nat) : Ta → Prop
  | .en i => 0 ≤ i ∧ i < n
  | .nd _ ws l r => Wds n ws ∧ l.ok n ∧ r.ok n
def dp : Ta → Nat
  | .en _ => 0
  | .nd _ _ l r => 1 + max l.dp r.dp
def size : Ta → Nat
  | .en _ => 1
  | .nd _ _ l r => l.size + r.size + 1
def bit (y n : List Int) (hy : Bool) (ws : List (List Int)) : Bool := decide ((if hy then y else n) ∈ ws)
def way (y n : List Int) : Ta → List Int
  | .en _ => []
  | .nd h ws a b => if bit y n h ws then 1 :: way y n b else 0 :: way y n a
def fin (y n : List Int) : Ta → Int
  | .en i => i
  | .nd h ws a b => if bit y n h ws then fin y n b else fin y n a
end Ta
theorem log2_le {i : Int} (h0 : 0 ≤ i) (h1 : i ≤ 64) : i.natAbs.log2 ≤ 6 := by
  have h8 : ∀ n : Fin 65, n.val.log2 ≤ 6 := by decide +kernel
  exact h8 ⟨i.natAbs, by omega⟩
theorem wt_bits : ∀ {w : List Int}, (∀ x ∈ w, x = 0 ∨ x = 1) → wts (w.map D.int) ≤ 6 * w.length ∧ fits (w.map D.int) = true
  | [], _ => by simp [wts, fits]
  | a :: w, h => by
    obtain ⟨i1, i2⟩ := wt_bits fun x hx => h x (List.mem_cons_of_mem _ hx)
    have e : a.natAbs.log2 = 0 := by rcases h a List.mem_cons_self with rfl | rfl <;> decide
    simp only [List.map_cons, wts, fits, wt, fit, i2, e, List.length_cons]
    exact ⟨by omega, rfl⟩
theorem wt_wd {n : Nat} {w : List Int} (hn : n ≤ 5) (h : w ∈ wl n) : wt (wdD w) ≤ 40 ∧ fit (wdD w) = true := by
  obtain ⟨h1, h2⟩ := wl_mem h
  obtain ⟨i1, i2⟩ := wt_bits h2
  simp only [wdD, wt, fit, i2]
  exact ⟨by omega, trivial⟩
theorem wt_ws {n : Nat} (hn : n ≤ 5) : ∀ {ws : List (List Int)}, (∀ w ∈ ws, w ∈ wl n) → wts (ws.map wdD) ≤ 50 * ws.length ∧ fits (ws.map wdD) = true
  | [], _ => by simp [wts, fits]
  | a :: ws, h => by
    obtain ⟨i1, i2⟩ := wt_ws hn fun w hw => h w (List.mem_cons_of_mem _ hw)
    obtain ⟨b1, b2⟩ := wt_wd hn (h a List.mem_cons_self)
    simp only [List.map_cons, wts, fits, b1, b2, i2, List.length_cons]
    exact ⟨by omega, rfl⟩
theorem rep_len : (reprText ("end" : Str)).length = 5 ∧ (reprText ("yes" : Str)).length = 5 ∧ (reprText ("no" : Str)).length = 4 := by decide +kernel
theorem Ta.rep {n : Nat} (hn : n ≤ 5) : ∀ {u : Ta}, u.ok n → wt u.d ≤ 3000 * u.size ∧ fit u.d = true ∧ dep u.d ≤ u.dp + 3
  | .en i, ⟨i0, i1⟩ => by
    have hl := log2_le i0 (by omega)
    simp only [Ta.d, wt, wts, fit, fits, dep, deps, Ta.size, Ta.dp, rep_len.1, Bool.and_true, Bool.true_and, decide_eq_true_eq]
    omega
  | .nd y ws a b, ⟨hw, ha, hb⟩ => by
    obtain ⟨a1, a2, a3⟩ := Ta.rep hn ha
    obtain ⟨b1, b2, b3⟩ := Ta.rep hn hb
    obtain ⟨w1, w2⟩ := wt_ws (ws := ws) hn hw.2
    have w3 := deps_wds ws
    have wl' := hw.le hn
    have hr : (reprText (if y then "yes" else "no" : Str)).length ≤ 5 := by cases y <;> simp [rep_len]
    simp only [Ta.d, wt, wts, fit, fits, dep, deps, Ta.size, Ta.dp, a2, b2, w2, Bool.and_true, true_and]
    refine ⟨by omega, ?_⟩
    omega
theorem sne_0_1 : (("end" : Str) = ("yes" : Str)) = False := eq_false (by decide +kernel)
theorem sne_0_2 : (("end" : Str) = ("no" : Str)) = False := eq_false (by decide +kernel)
theorem sne_0_3 : (("end" : Str) = ("is" : Str)) = False := eq_false (by decide +kernel)
theorem sne_0_4 : (("end" : Str) = ("and" : Str)) = False := eq_false (by decide +kernel)
theorem sne_0_5 : (("end" : Str) = ("or" : Str)) = False := eq_false (by decide +kernel)
theorem sne_0_6 : (("end" : Str) = ("any" : Str)) = False := eq_false (by decide +kernel)
theorem sne_0_7 : (("end" : Str) = ("rising" : Str)) = False := eq_false (by decide +kernel)
theorem sne_0_8 : (("end" : Str) = ("leaves" : Str)) = False := eq_false (by decide +kernel)
theorem sne_0_9 : (("end" : Str) = ("depth" : Str)) = False := eq_false (by decide +kernel)
theorem sne_1_0 : (("yes" : Str) = ("end" : Str)) = False := eq_false (by decide +kernel)
theorem sne_1_2 : (("yes" : Str) = ("no" : Str)) = False := eq_false (by decide +kernel)
theorem sne_1_3 : (("yes" : Str) = ("is" : Str)) = False := eq_false (by decide +kernel)
theorem sne_1_4 : (("yes" : Str) = ("and" : Str)) = False := eq_false (by decide +kernel)
theorem sne_1_5 : (("yes" : Str) = ("or" : Str)) = False := eq_false (by decide +kernel)
theorem sne_1_6 : (("yes" : Str) = ("any" : Str)) = False := eq_false (by decide +kernel)
theorem sne_1_7 : (("yes" : Str) = ("rising" : Str)) = False := eq_false (by decide +kernel)
theorem sne_1_8 : (("yes" : Str) = ("leaves" : Str)) = False := eq_false (by decide +kernel)
theorem sne_1_9 : (("yes" : Str) = ("depth" : Str)) = False := eq_false (by decide +kernel)
theorem sne_2_0 : (("no" : Str) = ("end" : Str)) = False := eq_false (by decide +kernel)
theorem sne_2_1 : (("no" : Str) = ("yes" : Str)) = False := eq_false (by decide +kernel)
theorem sne_2_3 : (("no" : Str) = ("is" : Str)) = False := eq_false (by decide +kernel)
theorem sne_2_4 : (("no" : Str) = ("and" : Str)) = False := eq_false (by decide +kernel)
theorem sne_2_5 : (("no" : Str) = ("or" : Str)) = False := eq_false (by decide +kernel)
theorem sne_2_6 : (("no" : Str) = ("any" : Str)) = False := eq_false (by decide +kernel)
theorem sne_2_7 : (("no" : Str) = ("rising" : Str)) = False := eq_false (by decide +kernel)
theorem sne_2_8 : (("no" : Str) = ("leaves" : Str)) = False := eq_false (by decide +kernel)
theorem sne_2_9 : (("no" : Str) = ("depth" : Str)) = False := eq_false (by decide +kernel)
theorem sne_3_0 : (("is" : Str) = ("end" : Str)) = False := eq_false (by decide +kernel)
theorem sne_3_1 : (("is" : Str) = ("yes" : Str)) = False := eq_false (by decide +kernel)
theorem sne_3_2 : (("is" : Str) = ("no" : Str)) = False := eq_false (by decide +kernel)
theorem sne_3_4 : (("is" : Str) = ("and" : Str)) = False := eq_false (by decide +kernel)
theorem sne_3_5 : (("is" : Str) = ("or" : Str)) = False := eq_false (by decide +kernel)
theorem sne_3_6 : (("is" : Str) = ("any" : Str)) = False := eq_false (by decide +kernel)
theorem sne_3_7 : (("is" : Str) = ("rising" : Str)) = False := eq_false (by decide +kernel)
theorem sne_3_8 : (("is" : Str) = ("leaves" : Str)) = False := eq_false (by decide +kernel)
theorem sne_3_9 : (("is" : Str) = ("depth" : Str)) = False := eq_false (by decide +kernel)
theorem sne_4_0 : (("and" : Str) = ("end" : Str)) = False := eq_false (by decide +kernel)
theorem sne_4_1 : (("and" : Str) = ("yes" : Str)) = False := eq_false (by decide +kernel)
theorem sne_4_2 : (("and" : Str) = ("no" : Str)) = False := eq_false (by decide +kernel)
theorem sne_4_3 : (("and" : Str) = ("is" : Str)) = False := eq_false (by decide +kernel)
theorem sne_4_5 : (("and" : Str) = ("or" : Str)) = False := eq_false (by decide +kernel)
theorem sne_4_6 : (("and" : Str) = ("any" : Str)) = False := eq_false (by decide +kernel)
theorem sne_4_7 : (("and" : Str) = ("rising" : Str)) = False := eq_false (by decide +kernel)
theorem sne_4_8 : (("and" : Str) = ("leaves" : Str)) = False := eq_false (by decide +kernel)
theorem sne_4_9 : (("and" : Str) = ("depth" : Str)) = False := eq_false (by decide +kernel)
theorem sne_5_0 : (("or" : Str) = ("end" : Str)) = False := eq_false (by decide +kernel)
theorem sne_5_1 : (("or" : Str) = ("yes" : Str)) = False := eq_false (by decide +kernel)
theorem sne_5_2 : (("or" : Str) = ("no" : Str)) = False := eq_false (by decide +kernel)
theorem sne_5_3 : (("or" : Str) = ("is" : Str)) = False := eq_false (by decide +kernel)
theorem sne_5_4 : (("or" : Str) = ("and" : Str)) = False := eq_false (by decide +kernel)
theorem sne_5_6 : (("or" : Str) = ("any" : Str)) = False := eq_false (by decide +kernel)
theorem sne_5_7 : (("or" : Str) = ("rising" : Str)) = False := eq_false (by decide +kernel)
theorem sne_5_8 : (("or" : Str) = ("leaves" : Str)) = False := eq_false (by decide +kernel)
theorem sne_5_9 : (("or" : Str) = ("depth" : Str)) = False := eq_false (by decide +kernel)
theorem sne_6_0 : (("any" : Str) = ("end" : Str)) = False := eq_false (by decide +kernel)
theorem sne_6_1 : (("any" : Str) = ("yes" : Str)) = False := eq_false (by decide +kernel)
theorem sne_6_2 : (("any" : Str) = ("no" : Str)) = False := eq_false (by decide +kernel)
theorem sne_6_3 : (("any" : Str) = ("is" : Str)) = False := eq_false (by decide +kernel)
theorem sne_6_4 : (("any" : Str) = ("and" : Str)) = False := eq_false (by decide +kernel)
theorem sne_6_5 : (("any" : Str) = ("or" : Str)) = False := eq_false (by decide +kernel)
theorem sne_6_7 : (("any" : Str) = ("rising" : Str)) = False := eq_false (by decide +kernel)
theorem sne_6_8 : (("any" : Str) = ("leaves" : Str)) = False := eq_false (by decide +kernel)
theorem sne_6_9 : (("any" : Str) = ("depth" : Str)) = False := eq_false (by decide +kernel)
theorem sne_7_0 : (("rising" : Str) = ("end" : Str)) = False := eq_false (by decide +kernel)
theorem sne_7_1 : (("rising" : Str) = ("yes" : Str)) = False := eq_false (by decide +kernel)
theorem sne_7_2 : (("rising" : Str) = ("no" : Str)) = False := eq_false (by decide +kernel)
theorem sne_7_3 : (("rising" : Str) = ("is" : Str)) = False := eq_false (by decide +kernel)
theorem sne_7_4 : (("rising" : Str) = ("and" : Str)) = False := eq_false (by decide +kernel)
theorem sne_7_5 : (("rising" : Str) = ("or" : Str)) = False := eq_false (by decide +kernel)
theorem sne_7_6 : (("rising" : Str) = ("any" : Str)) = False := eq_false (by decide +kernel)
theorem sne_7_8 : (("rising" : Str) = ("leaves" : Str)) = False := eq_false (by decide +kernel)
theorem sne_7_9 : (("rising" : Str) = ("depth" : Str)) = False := eq_false (by decide +kernel)
theorem sne_8_0 : (("leaves" : Str) = ("end" : Str)) = False := eq_false (by decide +kernel)
theorem sne_8_1 : (("leaves" : Str) = ("yes" : Str)) = False := eq_false (by decide +kernel)
theorem sne_8_2 : (("leaves" : Str) = ("no" : Str)) = False := eq_false (by decide +kernel)
theorem sne_8_3 : (("leaves" : Str) = ("is" : Str)) = False := eq_false (by decide +kernel)
theorem sne_8_4 : (("leaves" : Str) = ("and" : Str)) = False := eq_false (by decide +kernel)
theorem sne_8_5 : (("leaves" : Str) = ("or" : Str)) = False := eq_false (by decide +kernel)
theorem sne_8_6 : (("leaves" : Str) = ("any" : Str)) = False := eq_false (by decide +kernel)
theorem sne_8_7 : (("leaves" : Str) = ("rising" : Str)) = False := eq_false (by decide +kernel)
theorem sne_8_9 : (("leaves" : Str) = ("depth" : Str)) = False := eq_false (by decide +kernel)
theorem sne_9_0 : (("depth" : Str) = ("end" : Str)) = False := eq_false (by decide +kernel)
theorem sne_9_1 : (("depth" : Str) = ("yes" : Str)) = False := eq_false (by decide +kernel)
theorem sne_9_2 : (("depth" : Str) = ("no" : Str)) = False := eq_false (by decide +kernel)
theorem sne_9_3 : (("depth" : Str) = ("is" : Str)) = False := eq_false (by decide +kernel)
theorem sne_9_4 : (("depth" : Str) = ("and" : Str)) = False := eq_false (by decide +kernel)
theorem sne_9_5 : (("depth" : Str) = ("or" : Str)) = False := eq_false (by decide +kernel)
theorem sne_9_6 : (("depth" : Str) = ("any" : Str)) = False := eq_false (by decide +kernel)
theorem sne_9_7 : (("depth" : Str) = ("rising" : Str)) = False := eq_false (by decide +kernel)
theorem sne_9_8 : (("depth" : Str) = ("leaves" : Str)) = False := eq_false (by decide +kernel)
theorem invA (F : Nat → SA → Om → Prop) : ∃ Pv : Nat → SA → Om → Prop, ∀ i ρ ω, Pv i ρ ω ↔ F i ρ ω := ⟨F, fun _ _ _ => Iff.rfl⟩
def om2 (ω : Om) (p l : Addr) (c A : OC) : Om := (ω.put p c).put l A
def om3 (ω : Om) (p l1 l2 : Addr) (c A B : OC) : Om := ((ω.put p c).put l1 A).put l2 B
section
variable {ω : Om} {p l l1 l2 : Addr} {c c' A A' B B' : OC}
theorem om2_p (h : p ≠ l) : om2 ω p l c A p = some c := by unfold om2; rw [Om.put_ne h, Om.put_same]
theorem om2_l : om2 ω p l c A l = some A := by unfold om2; rw [Om.put_same]
theorem om2_pp (h : p ≠ l) : (om2 ω p l c A).put p c' = om2 ω p l c' A := by unfold om2; rw [Om.put_comm h, Om.put_put]
theorem om2_pl : (om2 ω p l c A).put l A' = om2 ω p l c A' := by unfold om2; rw [Om.put_put]
theorem om3_p (h1 : p ≠ l1) (h2 : p ≠ l2) : om3 ω p l1 l2 c A B p = some c := by unfold om3; rw [Om.put_ne h2, Om.put_ne h1, Om.put_same]
theorem om3_1 (h : l1 ≠ l2) : om3 ω p l1 l2 c A B l1 = some A := by unfold om3; rw [Om.put_ne h, Om.put_same]
theorem om3_2 : om3 ω p l1 l2 c A B l2 = some B := by unfold om3; rw [Om.put_same]
theorem om3_pp (h1 : p ≠ l1) (h2 : p ≠ l2) : (om3 ω p l1 l2 c A B).put p c' = om3 ω p l1 l2 c' A B := by unfold om3; rw [Om.put_comm h2, Om.put_comm h1, Om.put_put]
theorem om3_p1 (h : l1 ≠ l2) : (om3 ω p l1 l2 c A B).put l1 A' = om3 ω p l1 l2 c A' B := by unfold om3; rw [Om.put_comm h, Om.put_put]
theorem om3_p2 : (om3 ω p l1 l2 c A B).put l2 B' = om3 ω p l1 l2 c A B' := by unfold om3; rw [Om.put_put]
theorem put_free {q : Addr} {o : OC} (h : ω.put p o q = none) : q ≠ p ∧ ω q = none := by
  have : q ≠ p := fun z => by subst z; rw [Om.put_same] at h; cases h
  exact ⟨this, by rwa [Om.put_ne this] at h⟩
end
structure Ne4 (p l1 l2 l3 : Addr) : Prop where
  p1 : p ≠ l1
  p2 : p ≠ l2
  p3 : p ≠ l3
  a : l1 ≠ l2
  b : l1 ≠ l3
  c : l2 ≠ l3
section
variable {ω : Om} {p l1 l2 l3 : Addr} {c c' A A' B B' C C' : OC} (h : Ne4 p l1 l2 l3)
include h
end
end L2
set_option Elab.async false
set_option linter.all false
set_option autoImplicit false
set_option maxRecDepth 100000
set_option maxHeartbeats 1000000
namespace L2
open PySem PySem.Spec PyProof.Rows
section
variable {P : Program} {w : World} {K : PySem.W.Frag} {mg : Str → Option Value} {base : Heap}
structure Cs (n : Nat) (ys zs : List (List Int)) : Prop where
  y : Wds n ys
  z : Wds n zs
  y1 : ys ≠ []
  z1 : zs ≠ []
theorem seq_cut {t u : AS} {D : AEnds} {ρ : SA} {ω : Om} (I : SA → Om → Prop) (h1 : ∀ N : SA → Om → Prop, (∀ ρ' ω', I ρ' ω' → N ρ' ω') → t { D with nx := N } ρ ω) (h2 : ∀ ρ' ω', I ρ' ω' → u D ρ' ω') : aSeq t u D ρ ω := h1 (u D) h2
theorem cutL_sub {α : Type} (xs : List α) (lo hi : Option Int) : (cutL xs lo hi).Sublist xs := (List.take_sublist _ _).trans (List.drop_sublist _ _)
theorem datA_own {ω : Om} {l : Addr} {ds : List D} (h : ω l = some (.own (ds.map AV.d))) : datA ω (.r (.ref l)) = some (.lst ds) := by
  rw [datA_r, h]; simp only [und_map, Option.map_some]
theorem datA_frz {ω : Om} {l : Addr} {ds : List D} (h : ω l = some (.frz ds)) : datA ω (.r (.ref l)) = some (.lst ds) := by
  rw [datA_r, h]
def b01 (b : Bool) : Int := if b then 1 else 0
theorem aPop_eq2 (to : AE) (ρ : SA) (ω : Om) (Q : AV → Om → Prop) : aPop to ρ ω Q = (to ρ ω fun x ω1 => ∃ l xs y, x = .r (.ref l) ∧ ω1 l = some (.own xs) ∧ xs.getLast? = some y ∧ Q y (ω1.put l (.own xs.dropLast))) := by
  unfold aPop
  simp only [List.getLast?_eq_getElem?]
theorem emp_concat {α : Type} (A : List α) (x : α) : (A ++ [x]).isEmpty = false := by cases A <;> rfl
theorem last_concat {α : Type} (A : List α) (x : α) : (A ++ [x]).getLast? = some x := by simp
theorem dropl_concat {α : Type} (A : List α) (x : α) : (A ++ [x]).dropLast = A := by simp
end
end L2
set_option Elab.async false
set_option linter.all false
set_option autoImplicit false
set_option maxRecDepth 100000
set_option maxHeartbeats 1000000
namespace L2
open PySem PySem.Spec PyProof.Rows
def cloA (f : Addr) (caps : List V) (cA : List AV) : AV := .p (.ref f) (fun G => RVs G cA caps)
def aCallV (i : Nat) (f : Addr) (caps : List V) (cA : List AV) (sp : ASp) (t : AA) : AE := fun ρ ω Q => ρ[i]? = some (some (cloA f caps cA)) ∧ t ρ ω fun xs ω1 => sp xs ω1 Q
theorem aCallV_eq (i : Nat) (f : Addr) (caps : List V) (cA : List AV) (sp : ASp) (t : AA) (ρ : SA) (ω : Om) (Q : AV → Om → Prop) : aCallV i f caps cA sp t ρ ω Q = (ρ[i]? = some (some (cloA f caps cA)) ∧ t ρ ω fun xs ω1 => sp xs ω1 Q) := rfl
def capV (js : List Nat) (σ : St) (caps : List V) : Prop := caps.length = js.length ∧ ∀ (k j : Nat) (v : V), js[k]? = some j → caps[k]? = some v → σ[j]? = some (some v)
def capA : List Nat → SA → Option (List AV)
  | [], _ => some []
  | j :: js, ρ => match ρ[j]?, capA js ρ with
    | some (some a), some r => some (a :: r)
    | _, _ => none
theorem cap_of {G : Hp} {ρ : SA} {σ : St} (rs : RS G ρ σ) : ∀ {js : List Nat} {cA : List AV}, capA js ρ = some cA → ∃ caps, capV js σ caps ∧ RVs G cA caps
  | [], cA, h => by cases h; exact ⟨[], ⟨rfl, fun _ _ _ h => by simp at h⟩, rfl⟩
  | j :: js, cA, h => by
    simp only [capA] at h
    cases e1 : ρ[j]? with
    | none => rw [e1] at h; simp at h
    | some o =>
      cases o with
      | none => rw [e1] at h; simp at h
      | some a =>
        cases e2 : capA js ρ with
        | none => rw [e1, e2] at h; simp at h
        | some r =>
          rw [e1, e2] at h
          simp at h
          subst h
          obtain ⟨caps, ⟨c1, c2⟩, c3⟩ := cap_of rs e2
          obtain ⟨v, v1, v2⟩ := rs.2 j a e1
          refine ⟨v :: caps, ⟨by simp [c1], fun k i u h1 h2 => ?_⟩, v, caps, rfl, v2, c3⟩
          cases k with
          | zero => simp at h1 h2; subst h1 h2; exact v1
          | succ k => simp at h1 h2; exact c2 k i u h1 h2
def aFold (j1 j2 : List Nat) (s1 s2 : List AV → ASp) (ta tb : AE) : AE := fun ρ ω Q => ta ρ ω fun x ω0 => tb ρ ω0 fun y ω1 => ∃ (lw : Str) (u : Tr) (g : Tr → D) (a1 a2 : List AV), y = .d (.str lw) ∧ x = .d u.d ∧ u.ok lw ∧ u.size ≤ 100000 ∧ capA j1 ρ = some a1 ∧ capA j2 ρ = some a2 ∧
  (∀ x, Tr.lf x ∈ u.post → ∀ ω1 Q1, Q1 (.d (g (.lf x))) ω1 → s1 a1 [.d (Tr.lf x).d] ω1 Q1) ∧ (∀ x l r, Tr.nd x l r ∈ u.post → ∀ ω1 Q1, Q1 (.d (g (.nd x l r))) ω1 → s2 a2 [.d (Tr.nd x l r).d, .d (g l), .d (g r)] ω1 Q1) ∧ Q (.d (g u)) ω1
theorem aFold_eq (j1 j2 : List Nat) (s1 s2 : List AV → ASp) (ta tb : AE) (ρ : SA) (ω : Om) (Q : AV → Om → Prop) : aFold j1 j2 s1 s2 ta tb ρ ω Q = (ta ρ ω fun x ω0 => tb ρ ω0 fun y ω1 => ∃ (lw : Str) (u : Tr) (g : Tr → D) (a1 a2 : List AV), y = .d (.str lw) ∧ x = .d u.d ∧ u.ok lw ∧ u.size ≤ 100000 ∧ capA j1 ρ = some a1 ∧ capA j2 ρ = some a2 ∧
  (∀ x, Tr.lf x ∈ u.post → ∀ ω1 Q1, Q1 (.d (g (.lf x))) ω1 → s1 a1 [.d (Tr.lf x).d] ω1 Q1) ∧ (∀ x l r, Tr.nd x l r ∈ u.post → ∀ ω1 Q1, Q1 (.d (g (.nd x l r))) ω1 → s2 a2 [.d (Tr.nd x l r).d, .d (g l), .d (g r)] ω1 Q1) ∧ Q (.d (g u)) ω1) := rfl
theorem capA_len {ρ : SA} : ∀ {js : List Nat} {cA : List AV}, capA js ρ = some cA → cA.length = js.length
  | [], cA, h => by cases h; rfl
  | j :: js, cA, h => by
    simp only [capA] at h
    cases e1 : ρ[j]? with
    | none => rw [e1] at h; simp at h
    | some o =>
      cases o with
      | none => rw [e1] at h; simp at h
      | some a =>
        cases e2 : capA js ρ with
        | none => rw [e1, e2] at h; simp at h
        | some r =>
          rw [e1, e2] at h
          simp at h
          subst h
          simp [capA_len e2]
theorem FunT.okD {P : Program} {w : World} {K : PySem.W.Frag} {mg : Str → Option Value} {base : Heap} {x qual : Str} {st : Stmt} {f c p : Addr} {fd : FuncData} {N ps : List Str} {k : Nat} {sp : ASp} (F : FunT K x qual st f fd c p) (S : FnScope N ps (defScope st)) (len : ∀ xs ω Q, sp xs ω Q → xs.length = ps.length)
    (hbody : ∀ (A : Around) (outer : List Env) (s : Shared) (H : Hp) (E : XK), Room k (A.deeper (envOfC qual (defScope st) s.heap.objs.size f (.ref c))) →
      ∃ t t', PSs (cxOf CX0 P w K mg base N qual (defScope st) f (.ref c) A outer s H E).nox (defBody st) t ∧ RefS t t' ∧ ∀ xs ω Q', sp xs ω Q' → t' { nx := fun _ ω' => Q' (.d .non) (ω'.only ω), rt := fun a ω' => ∃ d, a = .d d ∧ Q' (.d d) (ω'.only ω) } (startA N xs) ω) : FnOk P w K mg base CX0 (k + 1) f fd ps (lift sp) := by
  refine F.ok S (fun vs H Q E h => ?_) (fun A outer s H vs Q E hr h => ?_)
  · obtain ⟨F, xs, ω, Q', rp, rv, h, _⟩ := h
    rw [rv.length, len xs ω Q' h]
  · obtain ⟨t, t', h1, h2, h3⟩ := hbody A outer s H E hr
    obtain ⟨F, xs, ω, Q', rp, rv, h, kq⟩ := h
    refine ⟨t, h1, h2.run F H ω _ _ _ _ rp (RS.start rv) (h3 xs ω Q' h) ⟨?_, ?_, fun _ _ _ _ _ _ _ z => z.elim, fun _ _ _ _ _ _ _ z => z.elim⟩⟩
    · exact fun ρ' ω' σ' H' e1 e2 e3 q => kq (.d .non) (ω'.only ω) .non H' e1.only.1 e2.only (by simp [RV, Dat]) q
    · rintro a ω' v H' e1 e2 e3 ⟨d, rfl, q⟩
      exact kq (.d d) (ω'.only ω) v H' e1.only.1 e2.only (e3.same e1.only.2) q
end L2
set_option Elab.async false
set_option linter.all false
set_option autoImplicit false
set_option maxRecDepth 100000
set_option maxHeartbeats 1000000
namespace L2
open PySem PySem.Spec PyProof.Rows
structure RefR (t2 t : TS) (t' : AS) : Prop where
  run : ∀ (F : Fs) (H : Hp) (ω : Om) (σ : St) (ρ : SA) (D : Ends) (D' : AEnds), Rep F H ω → RS (cut F H ω) ρ σ → t' D' ρ ω → LE F H ω D' { D with nx := t2 D } → t D σ H
section
variable {t t1 t2 u : TS} {t1' u' : AS} {N : SA → Om → Prop} {m : Nat}
end
end L2
set_option Elab.async false
set_option linter.all false
set_option autoImplicit false
set_option maxRecDepth 100000
set_option maxHeartbeats 1000000
namespace L2
open PySem PySem.Spec PyProof.Rows
def bestL (c : Int → Int → Bool) (ns : List Int) : Int := ns.getD (argBest (fun i j => c (ns.getD i 0) (ns.getD j 0)) (ns.length - 1)) 0
def maxL : List Int → Int := bestL fun a b => decide (a > b)
def minL : List Int → Int := bestL fun a b => decide (a < b)
def aMaxU : AC := fun xs ω Q => ∃ (x : AV) (d : D) (ns : List Int), xs = [x] ∧ datA ω x = some d ∧ seqD d = some (ns.map D.int) ∧ ns ≠ [] ∧ Q (.d (.int (maxL ns))) ω
def aMinU : AC := fun xs ω Q => ∃ (x : AV) (d : D) (ns : List Int), xs = [x] ∧ datA ω x = some d ∧ seqD d = some (ns.map D.int) ∧ ns ≠ [] ∧ Q (.d (.int (minL ns))) ω
theorem aMaxU_eq (xs : List AV) (ω : Om) (Q : AV → Om → Prop) : aMaxU xs ω Q = (∃ (x : AV) (d : D) (ns : List Int), xs = [x] ∧ datA ω x = some d ∧ seqD d = some (ns.map D.int) ∧ ns ≠ [] ∧ Q (.d (.int (maxL ns))) ω) := rfl
theorem aMinU_eq (xs : List AV) (ω : Om) (Q : AV → Om → Prop) : aMinU xs ω Q = (∃ (x : AV) (d : D) (ns : List Int), xs = [x] ∧ datA ω x = some d ∧ seqD d = some (ns.map D.int) ∧ ns ≠ [] ∧ Q (.d (.int (minL ns))) ω) := rfl
theorem rvs_rep {G : Hp} {xs : List AV} {vs : List V} (h : RVs G xs vs) : ∀ n : Nat, RVs G (List.replicate n xs).flatten (List.replicate n vs).flatten
  | 0 => rfl
  | n + 1 => by
    simp only [List.replicate_succ, List.flatten_cons]
    exact h.append (rvs_rep h n)
def aRepO : A2 := fun x y ω Q => ∃ xs k, lstA ω x = some xs ∧ y = .d (.int k) ∧ -(2 ^ 63) ≤ k ∧ k < 2 ^ 63 ∧ xs.length * k.toNat ≤ sizeLine ∧ ∀ p, ω p = none → Q (.r (.ref p)) (ω.put p (.own (List.replicate k.toNat xs).flatten))
theorem aRepO_eq (x y : AV) (ω : Om) (Q : AV → Om → Prop) : aRepO x y ω Q = (∃ xs k, lstA ω x = some xs ∧ y = .d (.int k) ∧ -(2 ^ 63) ≤ k ∧ k < 2 ^ 63 ∧ xs.length * k.toNat ≤ sizeLine ∧ ∀ p, ω p = none → Q (.r (.ref p)) (ω.put p (.own (List.replicate k.toNat xs).flatten))) := rfl
theorem o_repO : Ref2 (rOr (rI CMul fun i j => .int (i * j)) rRep) aRepO := ⟨fun F H ω v u x y Q Q' rp h1 h2 ⟨xs, k', e1, e2, b1, b2, z, q⟩ k => by
  subst e2
  obtain ⟨a, vs, rfl, z1, z2⟩ := lst_of rp h1 e1
  exact .inr ⟨a, k', vs, rfl, rv_int h2, z1, b1, b2, by rw [z2.length]; exact z, k.own rp (rvs_rep z2 _) q⟩⟩
def aFoldD (j1 : List Nat) (s1 : List AV → ASp) (s2 : ASp) (ta tb : AE) : AE := fun ρ ω Q => ta ρ ω fun x ω0 => tb ρ ω0 fun y ω1 => ∃ (lw : Str) (u : Tr) (g : Tr → D) (a1 : List AV), y = .d (.str lw) ∧ x = .d u.d ∧ u.ok lw ∧ u.size ≤ 100000 ∧ capA j1 ρ = some a1 ∧
  (∀ x, Tr.lf x ∈ u.post → ∀ ω1 Q1, Q1 (.d (g (.lf x))) ω1 → s1 a1 [.d (Tr.lf x).d] ω1 Q1) ∧ (∀ x l r, Tr.nd x l r ∈ u.post → ∀ ω1 Q1, Q1 (.d (g (.nd x l r))) ω1 → s2 [.d (Tr.nd x l r).d, .d (g l), .d (g r)] ω1 Q1) ∧ Q (.d (g u)) ω1
theorem aFoldD_eq (j1 : List Nat) (s1 : List AV → ASp) (s2 : ASp) (ta tb : AE) (ρ : SA) (ω : Om) (Q : AV → Om → Prop) : aFoldD j1 s1 s2 ta tb ρ ω Q = (ta ρ ω fun x ω0 => tb ρ ω0 fun y ω1 => ∃ (lw : Str) (u : Tr) (g : Tr → D) (a1 : List AV), y = .d (.str lw) ∧ x = .d u.d ∧ u.ok lw ∧ u.size ≤ 100000 ∧ capA j1 ρ = some a1 ∧
  (∀ x, Tr.lf x ∈ u.post → ∀ ω1 Q1, Q1 (.d (g (.lf x))) ω1 → s1 a1 [.d (Tr.lf x).d] ω1 Q1) ∧ (∀ x l r, Tr.nd x l r ∈ u.post → ∀ ω1 Q1, Q1 (.d (g (.nd x l r))) ω1 → s2 [.d (Tr.nd x l r).d, .d (g l), .d (g r)] ω1 Q1) ∧ Q (.d (g u)) ω1) := rfl
theorem capTwoR {b : Heap} {x y : Str} {c d : Addr} {v z : V} {u p : Value} (hne : x ≠ y) (hcd : c ≠ d) (h : b.IsCell c (some u)) (r : RelV v u) (h' : b.IsCell d (some p)) (r' : RelV z p) : CapOk b [(y, d), (x, c)] [x, y] [v, z] := by
  have lk : ∀ k e, ([(y, d), (x, c)] : List (Str × Addr)).lookup k = some e → (k = x ∧ e = c) ∨ (k = y ∧ e = d) := fun k e q => by
    rw [List.lookup_cons] at q
    cases z1 : k == y with
    | true => rw [z1] at q; cases q; exact .inr ⟨eq_of_beq z1, rfl⟩
    | false =>
      rw [z1] at q
      simp only [List.lookup_cons] at q
      cases z2 : k == x with
      | true => rw [z2] at q; cases q; exact .inl ⟨eq_of_beq z2, rfl⟩
      | false => rw [z2] at q; cases q
  refine ⟨rfl, fun k e q => ?_, fun k1 k2 e q1 q2 => ?_, fun j k w h1 h2 => ?_⟩
  · rcases lk k e q with ⟨rfl, _⟩ | ⟨rfl, _⟩ <;> simp
  · rcases lk k1 e q1 with ⟨rfl, rfl⟩ | ⟨rfl, rfl⟩ <;> rcases lk k2 _ q2 with ⟨rfl, e2⟩ | ⟨rfl, e2⟩
    · rfl
    · exact absurd e2 hcd
    · exact absurd e2.symm hcd
    · rfl
  · cases j with
    | zero =>
      simp at h1 h2
      subst h1 h2
      have hb : (x == y) = false := by
        cases q : x == y with
        | false => rfl
        | true => exact absurd (eq_of_beq q) hne
      exact ⟨c, u, by simp [List.lookup, hb], h, r⟩
    | succ j =>
      cases j with
      | zero =>
        simp at h1 h2
        subst h1 h2
        exact ⟨d, p, by simp [List.lookup], h', r'⟩
      | succ j => simp at h1
theorem comp_gix {g : AG} {te : AE} {as : List AV} {rs : List D} {ρ : SA} {ω : Om} {K : List AV → SA → Om → Prop} (R : SA → Prop) (h0 : R ρ) (hl : rs.length = as.length) (hz : as.length ≤ sizeLine)
    (he : ∀ (i : Nat) (a : AV) (r : D) (ρ : SA) (N : SA → Om → Prop), as[i]? = some a → rs[i]? = some r → R ρ → (∀ ρ1, R ρ1 → (∀ Q : AV → Om → Prop, Q (.d r) ω → te ρ1 ω Q) → N ρ1 ω) → g a ρ ω N)
    (hk : ∀ ρ, R ρ → K (rs.map AV.d) ρ ω) : aLoop g aNoTest (aLast te) as [] ρ ω K := by
  refine loop_ix (fun i xs ρ ω' => ω' = ω ∧ R ρ ∧ xs = (rs.take i).map AV.d) ⟨rfl, h0, rfl⟩ ?_ ?_
  · rintro i a xs ρ ω' N ha ⟨rfl, hR, rfl⟩ kN
    have hi := (List.getElem?_eq_some_iff.mp ha).1
    have hr : rs[i]? = some rs[i] := List.getElem?_eq_getElem (by omega)
    refine he i a _ ρ _ ha hr hR fun ρ1 hR1 h => ?_
    rw [aNoTest_eq, if_pos rfl, aLast_eq]
    refine h _ ⟨by rw [List.length_map, List.length_take]; omega, kN _ _ _ ⟨rfl, hR1, ?_⟩⟩
    rw [show rs.take (i + 1) = rs.take i ++ [rs[i]] from by rw [List.take_succ, hr]; rfl, List.map_append]
    rfl
  · rintro xs ρ ω' ⟨rfl, hR, rfl⟩
    rw [← hl, List.take_length]
    exact hk ρ hR
theorem comp_ix {te : AE} {as : List AV} {rs : List D} {v0 : Option AV} {rest : SA} {ω : Om} {K : List AV → SA → Om → Prop} (hl : rs.length = as.length) (hz : as.length ≤ sizeLine)
    (he : ∀ (i : Nat) (a : AV) (r : D), as[i]? = some a → rs[i]? = some r → ∀ Q : AV → Om → Prop, Q (.d r) ω → te (some a :: rest) ω Q)
    (hk : ∀ ρ, K (rs.map AV.d) ρ ω) : aLoop (agName 0) aNoTest (aLast te) as [] (v0 :: rest) ω K :=
  comp_gix (fun ρ => ∃ v, ρ = v :: rest) ⟨_, rfl⟩ hl hz (fun i a r ρ N ha hr ⟨v, e⟩ k => by
    subst e
    rw [agName_eq, List.set_cons_zero]
    exact k _ ⟨_, rfl⟩ (he i a r ha hr)) (fun ρ _ => hk ρ)
end L2
set_option Elab.async false
set_option linter.all false
set_option autoImplicit false
set_option maxRecDepth 100000
set_option maxHeartbeats 1000000
namespace L2
open PySem PySem.Spec PyProof.Rows
def scrL (K : PySem.W.Frag) (a : Addr) (ns : List Int) : AV := .p (.ref a) (fun H => SqL K H a (ns.map V.int))
def aIxS (K : PySem.W.Frag) : A2 := fun x y ω Q => ∃ (a : Addr) (ns : List Int) (i v : Int), x = scrL K a ns ∧ y = .d (.int i) ∧ atI ns i = some v ∧ Q (.d (.int v)) ω
def aLenS (K : PySem.W.Frag) : AC := fun xs ω Q => ∃ (a : Addr) (ns : List Int), xs = [scrL K a ns] ∧ Q (.d (.int ns.length)) ω
def aListS (K : PySem.W.Frag) : AC := fun xs ω Q => ∃ (a : Addr) (ns : List Int), xs = [scrL K a ns] ∧ Q (.d (.lst (ns.map D.int))) ω
theorem aIxS_eq (K : PySem.W.Frag) (x y : AV) (ω : Om) (Q : AV → Om → Prop) : aIxS K x y ω Q = (∃ (a : Addr) (ns : List Int) (i v : Int), x = scrL K a ns ∧ y = .d (.int i) ∧ atI ns i = some v ∧ Q (.d (.int v)) ω) := rfl
theorem aLenS_eq (K : PySem.W.Frag) (xs : List AV) (ω : Om) (Q : AV → Om → Prop) : aLenS K xs ω Q = (∃ (a : Addr) (ns : List Int), xs = [scrL K a ns] ∧ Q (.d (.int ns.length)) ω) := rfl
theorem aListS_eq (K : PySem.W.Frag) (xs : List AV) (ω : Om) (Q : AV → Om → Prop) : aListS K xs ω Q = (∃ (a : Addr) (ns : List Int), xs = [scrL K a ns] ∧ Q (.d (.lst (ns.map D.int))) ω) := rfl
def aPar (i j : Nat) (ta : AA) : AS := fun D ρ ω => ta ρ ω fun xs ω1 => ∃ v w, xs = [v, w] ∧ D.nx ((ρ.set i (some v)).set j (some w)) ω1
theorem aPar_eq (i j : Nat) (ta : AA) (D : AEnds) (ρ : SA) (ω : Om) : aPar i j ta D ρ ω = (ta ρ ω fun xs ω1 => ∃ v w, xs = [v, w] ∧ D.nx ((ρ.set i (some v)).set j (some w)) ω1) := rfl
theorem FnOk.any {P : Program} {w : World} {K : PySem.W.Frag} {mg : Str → Option Value} {base : Heap} {k : Nat} {f : Addr} {fd : FuncData} {ps : List Str} {ι : Type} {sp : ι → ASp} (h : ∀ i, FnOk P w K mg base CX0 k f fd ps (lift (sp i))) : FnOk P w K mg base CX0 k f fd ps (lift fun xs ω Q => ∃ i, sp i xs ω Q) :=
  ⟨fun vs H Q E ⟨F, xs, ω, Q', rp, rv, ⟨i, s⟩, kq⟩ => (h i).len vs H Q E ⟨F, xs, ω, Q', rp, rv, s, kq⟩, fun A outer s H args us vs Q E hr he hb hv ⟨F, xs, ω, Q', rp, rv, ⟨i, q⟩, kq⟩ => (h i).run A outer s H args us vs Q E hr he hb hv ⟨F, xs, ω, Q', rp, rv, q, kq⟩⟩
theorem comp_gf {α : Type} {g : AG} {tc : AT} {te : AE} {as : List AV} {xs : List α} {ρ : SA} {ω : Om} {K : List AV → SA → Om → Prop} (R : SA → Prop) (h0 : R ρ) (enc : α → AV) (p : α → Bool) (f : α → D) (ea : as = xs.map enc) (hz : xs.length ≤ sizeLine)
    (he : ∀ (x : α) (ρ : SA) (N : SA → Om → Prop), x ∈ xs → R ρ → (∀ ρ1, R ρ1 → (∀ Q : Bool → Om → Prop, Q (p x) ω → tc ρ1 ω Q) → (p x = true → ∀ Q : AV → Om → Prop, Q (.d (f x)) ω → te ρ1 ω Q) → N ρ1 ω) → g (enc x) ρ ω N)
    (hk : ∀ ρ, R ρ → K (((xs.filter p).map f).map AV.d) ρ ω) : aLoop g tc (aLast te) as [] ρ ω K := by
  subst ea
  refine loop_ix (fun i ys ρ ω' => ω' = ω ∧ R ρ ∧ ys = (((xs.take i).filter p).map f).map AV.d) ⟨rfl, h0, rfl⟩ ?_ ?_
  · rintro i a ys ρ ω' N ha ⟨rfl, hR, rfl⟩ kN
    rw [List.getElem?_map, Option.map_eq_some_iff] at ha
    obtain ⟨x, hx, rfl⟩ := ha
    have hi := (List.getElem?_eq_some_iff.mp hx).1
    have et : xs.take (i + 1) = xs.take i ++ [x] := by rw [List.take_succ, hx]; rfl
    refine he x ρ _ (List.mem_of_getElem? hx) hR fun ρ1 hR1 h1 h2 => h1 _ ?_
    cases hp : p x with
    | true =>
      rw [if_pos rfl, aLast_eq]
      refine h2 hp _ ⟨?_, kN _ _ _ ⟨rfl, hR1, ?_⟩⟩
      · rw [List.length_map, List.length_map]
        have := List.length_filter_le p (xs.take i)
        rw [List.length_take] at this
        omega
      · rw [et, List.filter_append]
        simp [hp]
    | false =>
      rw [if_neg Bool.false_ne_true]
      refine kN _ _ _ ⟨rfl, hR1, ?_⟩
      rw [et, List.filter_append]
      simp [hp]
  · rintro ys ρ ω' ⟨rfl, hR, rfl⟩
    rw [List.length_map, List.take_length]
    exact hk ρ hR
theorem comp_ft {α : Type} {tc : AT} {te : AE} {xs : List α} {v0 : Option AV} {rest : SA} {ω : Om} {K : List AV → SA → Om → Prop} (enc : α → D) (p : α → Bool) (f : α → D) (hz : xs.length ≤ sizeLine)
    (ht : ∀ x ∈ xs, ∀ Q : Bool → Om → Prop, Q (p x) ω → tc (some (.d (enc x)) :: rest) ω Q) (he : ∀ x ∈ xs, p x = true → ∀ Q : AV → Om → Prop, Q (.d (f x)) ω → te (some (.d (enc x)) :: rest) ω Q)
    (hk : ∀ ρ, K (((xs.filter p).map f).map AV.d) ρ ω) : aLoop (agName 0) tc (aLast te) ((xs.map enc).map AV.d) [] (v0 :: rest) ω K :=
  comp_gf (fun ρ => ∃ v, ρ = v :: rest) ⟨_, rfl⟩ (fun x => .d (enc x)) p f (by simp) hz (fun x ρ N hx ⟨v, e⟩ k => by
    subst e
    rw [agName_eq, List.set_cons_zero]
    exact k _ ⟨_, rfl⟩ (ht x hx) (he x hx)) (fun ρ _ => hk ρ)
structure Pq where
  a : Addr
  ns : List Int
  i : Int
  f : Int
  h0 : 0 ≤ i
  hf : 0 ≤ f
  hn : ns.length ≤ 63
def pqO (K : PySem.W.Frag) (c : Pq) : OC := .own [scrL K c.a c.ns, .d (.int c.i), .d (.int c.f)]
def PqAt (K : PySem.W.Frag) (ω : Om) (p : Addr) : Prop := ∃ c, ω p = some (pqO K c)
theorem PqAt.some {K : PySem.W.Frag} {ω : Om} {p : Addr} (h : PqAt K ω p) : (ω p).isSome = true := by obtain ⟨c, e⟩ := h; rw [e]; rfl
theorem PqAt.ne {K : PySem.W.Frag} {ω : Om} {p l : Addr} (h : PqAt K ω p) (hl : ω l = none) : p ≠ l := fun e => by obtain ⟨c, h⟩ := h; rw [e, hl] at h; cases h
theorem PqAt.other {K : PySem.W.Frag} {ω : Om} {p l : Addr} {A : OC} (h : PqAt K ω p) (hl : p ≠ l) : PqAt K (ω.put l A) p := by obtain ⟨c, h⟩ := h; exact ⟨c, by rw [Om.put_ne hl]; exact h⟩
end L2
set_option Elab.async false
set_option linter.all false
set_option autoImplicit false
set_option maxRecDepth 100000
set_option maxHeartbeats 1000000
namespace L2
open PySem PySem.Spec PyProof.Rows
section
variable {prog : Program} {w : World} {A : Around} {E : Value → Shared → Prop} {s : Shared}
end
def aTupRng (ta : AA) : AE := fun ρ ω Q => ta ρ ω fun xs ω1 => ∃ j : Int, xs = [.d (.int j)] ∧ 0 ≤ j ∧ j ≤ 1000 ∧ Q (.d (.tup ((List.range j.toNat).map fun i : Nat => D.int (i : Int)))) ω1
theorem aTupRng_eq (ta : AA) (ρ : SA) (ω : Om) (Q : AV → Om → Prop) : aTupRng ta ρ ω Q = (ta ρ ω fun xs ω1 => ∃ j : Int, xs = [.d (.int j)] ∧ 0 ≤ j ∧ j ≤ 1000 ∧ Q (.d (.tup ((List.range j.toNat).map fun i : Nat => D.int (i : Int)))) ω1) := rfl
end L2
set_option Elab.async false
set_option linter.all false
set_option autoImplicit false
set_option maxRecDepth 100000
set_option maxHeartbeats 1000000
namespace L2
open PySem PySem.Spec PyProof.Rows
def aAddS : A2 := fun x y ω Q => ∃ i j, x = .d (.str i) ∧ y = .d (.str j) ∧ i.length + j.length ≤ sizeLine ∧ Q (.d (.str (i ++ j))) ω
theorem aAddS_eq (x y : AV) (ω : Om) (Q : AV → Om → Prop) : aAddS x y ω Q = (∃ i j, x = .d (.str i) ∧ y = .d (.str j) ∧ i.length + j.length ≤ sizeLine ∧ Q (.d (.str (i ++ j))) ω) := rfl
def aIntS : AC := fun xs ω Q => ∃ (z : Str) (n : Int), xs = [.d (.str z)] ∧ PySem.intText? z = some n ∧ z.length ≤ 640 ∧ Q (.d (.int n)) ω
theorem aIntS_eq (xs : List AV) (ω : Om) (Q : AV → Om → Prop) : aIntS xs ω Q = (∃ (z : Str) (n : Int), xs = [.d (.str z)] ∧ PySem.intText? z = some n ∧ z.length ≤ 640 ∧ Q (.d (.int n)) ω) := rfl
def sgn (z : Str) : List D := z.cps.toList.map fun c => D.str ⟨#[c]⟩
def aiStr (te : AE) : AI := fun ρ ω R => te ρ ω fun x ω1 => ∃ z, x = .d (.str z) ∧ R ((sgn z).map AV.d) ω1
theorem aiStr_eq (te : AE) (ρ : SA) (ω : Om) (R : List AV → Om → Prop) : aiStr te ρ ω R = (te ρ ω fun x ω1 => ∃ z, x = .d (.str z) ∧ R ((sgn z).map AV.d) ω1) := rfl
def rngN (lo hi c : Int) : Nat := (if lo < hi then (hi - lo - 1) / c + 1 else 0).toNat
def rng3A (lo c : Int) (n : Nat) : List AV := (List.range n).map fun i : Nat => AV.d (.int (lo + (i : Int) * c))
def aiRng3 (ta : AA) : AI := fun ρ ω R => ta ρ ω fun xs ω1 => ∃ i j c : Int, xs = [.d (.int i), .d (.int j), .d (.int c)] ∧ 0 ≤ i ∧ i ≤ 1000 ∧ -1000 ≤ j ∧ j ≤ 1000 ∧ 1 ≤ c ∧ c ≤ 1000 ∧ R (rng3A i c (rngN i j c)) ω1
theorem aiRng3_eq (ta : AA) (ρ : SA) (ω : Om) (R : List AV → Om → Prop) : aiRng3 ta ρ ω R = (ta ρ ω fun xs ω1 => ∃ i j c : Int, xs = [.d (.int i), .d (.int j), .d (.int c)] ∧ 0 ≤ i ∧ i ≤ 1000 ∧ -1000 ≤ j ∧ j ≤ 1000 ∧ 1 ≤ c ∧ c ≤ 1000 ∧ R (rng3A i c (rngN i j c)) ω1) := rfl
def dist (ns : List Int) : Nat := (firstMet (fun i => ns.getD i 0) ns.length).length
def aLenSet (ta : AA) : AE := fun ρ ω Q => ta ρ ω fun xs ω1 => ∃ (x : AV) (ns : List Int), xs = [x] ∧ datA ω1 x = some (.lst (ns.map D.int)) ∧ ns.length ≤ 1000 ∧ Q (.d (.int (dist ns : Nat))) ω1
theorem aLenSet_eq (ta : AA) (ρ : SA) (ω : Om) (Q : AV → Om → Prop) : aLenSet ta ρ ω Q = (ta ρ ω fun xs ω1 => ∃ (x : AV) (ns : List Int), xs = [x] ∧ datA ω1 x = some (.lst (ns.map D.int)) ∧ ns.length ≤ 1000 ∧ Q (.d (.int (dist ns : Nat))) ω1) := rfl
end L2
set_option Elab.async false
set_option linter.all false
set_option autoImplicit false
set_option maxRecDepth 100000
set_option maxHeartbeats 1000000
namespace L2
open PySem PySem.Spec PyProof.Rows
def valA (kvs : List (Str × AV)) (k : Str) : Option AV := (kvs.find? fun p => decide (p.1 = k)).map (·.2)
def putA : List (Str × AV) → Str → AV → List (Str × AV)
  | [], k, a => [(k, a)]
  | p :: r, k, a => if p.1 = k then (k, a) :: r else p :: putA r k a
def ndK (kvs : List (Str × AV)) : Prop := (kvs.map (·.1)).Nodup
section
variable {G : Hp} {F : Fs} {H : Hp} {ω : Om}
theorem RKs.length : ∀ {kvs : List (Str × AV)} {ks : List (Key × V)}, RKs G kvs ks → ks.length = kvs.length
  | [], _, h => by cases h; rfl
  | _ :: _, _, ⟨v, r, h1, _, h3⟩ => by subst h1; simp [h3.length]
theorem RKs.get {k : Str} {a : AV} : ∀ {kvs : List (Str × AV)} {ks : List (Key × V)}, RKs G kvs ks → valA kvs k = some a → ∃ v, valV ks (Sum.inr k : Key) = some v ∧ RV G a v
  | [], _, _, e => by simp [valA] at e
  | p :: r, _, ⟨v, r', h1, h2, h3⟩, e => by
    subst h1
    by_cases hp : p.1 = k
    · rw [valA, List.find?_cons, decide_eq_true hp] at e
      cases e
      exact ⟨v, valV_pos (by rw [hp]), h2⟩
    · rw [valA, List.find?_cons, decide_eq_false hp] at e
      obtain ⟨u, e1, e2⟩ := h3.get (k := k) (a := a) e
      exact ⟨u, by rw [valV_neg (fun z => hp (Sum.inr.inj z))]; exact e1, e2⟩
theorem RKs.any {k : Str} : ∀ {kvs : List (Str × AV)} {ks : List (Key × V)}, RKs G kvs ks → (ks.any fun kv => decide (kv.1 = (Sum.inr k : Key))) = kvs.any fun p => decide (p.1 = k)
  | [], _, h => by cases h; rfl
  | p :: r, _, ⟨v, r', h1, h2, h3⟩ => by
    subst h1
    rw [List.any_cons, List.any_cons, h3.any]
    congr 1
    by_cases hp : p.1 = k
    · rw [decide_eq_true hp, decide_eq_true (by rw [hp])]
    · rw [decide_eq_false hp, decide_eq_false fun z => hp (Sum.inr.inj z)]
theorem RKs.keep {k : Str} {v : V} : ∀ {kvs : List (Str × AV)} {ks : List (Key × V)}, RKs G kvs ks → (kvs.any fun p => decide (p.1 = k)) = false → ks.map (fun kv => if kv.1 = (Sum.inr k : Key) then (kv.1, v) else kv) = ks
  | [], _, h, _ => by cases h; rfl
  | p :: r, _, ⟨u, r', h1, h2, h3⟩, e => by
    subst h1
    rw [List.any_cons, Bool.or_eq_false_iff] at e
    have hp : ¬ p.1 = k := of_decide_eq_false e.1
    rw [List.map_cons, h3.keep e.2, if_neg fun z => hp (Sum.inr.inj z)]
theorem RKs.put1 {k : Str} {a : AV} {v : V} (hv : RV G a v) : ∀ {kvs : List (Str × AV)} {ks : List (Key × V)}, RKs G kvs ks → ndK kvs → (kvs.any fun p => decide (p.1 = k)) = true → RKs G (putA kvs k a) (ks.map fun kv => if kv.1 = (Sum.inr k : Key) then (kv.1, v) else kv)
  | [], _, _, _, e => by simp at e
  | p :: r, _, ⟨u, r', h1, h2, h3⟩, nd, e => by
    subst h1
    unfold putA
    by_cases hp : p.1 = k
    · rw [if_pos hp, List.map_cons, if_pos (by rw [hp])]
      have hn : (r.any fun p => decide (p.1 = k)) = false := by
        rw [List.any_eq_false]
        intro q hq hk
        have hk := of_decide_eq_true hk
        have := (List.nodup_cons.mp nd).1
        exact this (List.mem_map.mpr ⟨q, hq, by rw [hk]; exact hp.symm⟩)
      rw [h3.keep hn]
      exact ⟨v, r', by rw [hp], hv, h3⟩
    · rw [if_neg hp, List.map_cons, if_neg fun z => hp (Sum.inr.inj z)]
      rw [List.any_cons, decide_eq_false hp, Bool.false_or] at e
      exact ⟨u, _, rfl, h2, h3.put1 hv (List.nodup_cons.mp nd).2 e⟩
theorem RKs.put {k : Str} {a : AV} {v : V} {kvs : List (Str × AV)} {ks : List (Key × V)} (h : RKs G kvs ks) (hv : RV G a v) (nd : ndK kvs) (e : (kvs.any fun p => decide (p.1 = k)) = true) : RKs G (putA kvs k a) (putK ks (Sum.inr k : Key) v) := by
  unfold putK
  rw [if_pos (by rw [h.any]; exact e)]
  exact h.put1 hv nd e
end
def aDGet (td ty : AE) : AE := fun ρ ω Q => td ρ ω fun x ω1 => ty ρ ω1 fun y ω2 => ∃ l kvs k a, x = .r (.ref l) ∧ ω2 l = some (.dic kvs) ∧ y = .d (.str k) ∧ valA kvs k = some a ∧ Q a ω2
theorem aDGet_eq (td ty : AE) (ρ : SA) (ω : Om) (Q : AV → Om → Prop) : aDGet td ty ρ ω Q = (td ρ ω fun x ω1 => ty ρ ω1 fun y ω2 => ∃ l kvs k a, x = .r (.ref l) ∧ ω2 l = some (.dic kvs) ∧ y = .d (.str k) ∧ valA kvs k = some a ∧ Q a ω2) := rfl
def aDPut (td ty tv : AE) : AS := fun D ρ ω => tv ρ ω fun v ω1 => td ρ ω1 fun x ω2 => ty ρ ω2 fun y ω3 => ∃ l kvs k, x = .r (.ref l) ∧ ω3 l = some (.dic kvs) ∧ y = .d (.str k) ∧ ndK kvs ∧ (kvs.any fun p => decide (p.1 = k)) = true ∧ kvs.length < sizeLine ∧ D.nx ρ (ω3.put l (.dic (putA kvs k v)))
theorem aDPut_eq (td ty tv : AE) (D : AEnds) (ρ : SA) (ω : Om) : aDPut td ty tv D ρ ω = (tv ρ ω fun v ω1 => td ρ ω1 fun x ω2 => ty ρ ω2 fun y ω3 => ∃ l kvs k, x = .r (.ref l) ∧ ω3 l = some (.dic kvs) ∧ y = .d (.str k) ∧ ndK kvs ∧ (kvs.any fun p => decide (p.1 = k)) = true ∧ kvs.length < sizeLine ∧ D.nx ρ (ω3.put l (.dic (putA kvs k v)))) := rfl
def aVals : List AE → SA → Om → (List AV → Om → Prop) → Prop
  | [], _, ω, Q => Q [] ω
  | t :: r, ρ, ω, Q => t ρ ω fun x ω1 => aVals r ρ ω1 fun xs ω2 => Q (x :: xs) ω2
theorem aVals_nil (ρ : SA) (ω : Om) (Q : List AV → Om → Prop) : aVals [] ρ ω Q = Q [] ω := rfl
theorem aVals_cons (t : AE) (r : List AE) (ρ : SA) (ω : Om) (Q : List AV → Om → Prop) : aVals (t :: r) ρ ω Q = (t ρ ω fun x ω1 => aVals r ρ ω1 fun xs ω2 => Q (x :: xs) ω2) := rfl
def aDisp (ks : List Str) (ts : List AE) : AE := fun ρ ω Q => ks.Nodup ∧ ks.length ≤ 15 ∧ ∀ p, ω p = none → aVals ts ρ (ω.put p (.dic [])) fun xs ω1 => ω1 p = some (.dic []) ∧ xs.length = ks.length ∧ Q (.r (.ref p)) (ω1.put p (.dic (ks.zip xs)))
theorem aDisp_eq (ks : List Str) (ts : List AE) (ρ : SA) (ω : Om) (Q : AV → Om → Prop) : aDisp ks ts ρ ω Q = (ks.Nodup ∧ ks.length ≤ 15 ∧ ∀ p, ω p = none → aVals ts ρ (ω.put p (.dic [])) fun xs ω1 => ω1 p = some (.dic []) ∧ xs.length = ks.length ∧ Q (.r (.ref p)) (ω1.put p (.dic (ks.zip xs)))) := rfl
inductive RefPs : List (TE × TE) → List Str → List AE → Prop
  | nil : RefPs [] [] []
  | cons {k : Str} {tv : TE} {tv' : AE} {r : List (TE × TE)} {ks : List Str} {ts : List AE} : RefE tv tv' → RefPs r ks ts → RefPs ((tC (.str k), tv) :: r) (k :: ks) (tv' :: ts)
theorem RefPs.go {trs : List (TE × TE)} {ks : List Str} {ts : List AE} (h : RefPs trs ks ts) : ∀ {F : Fs} {H : Hp} {ω : Om} {σ : St} {ρ : SA} {Q : List (V × V) → Hp → Prop} {Q' : List AV → Om → Prop}, Rep F H ω → RS (cut F H ω) ρ σ → aVals ts ρ ω Q' →
    (∀ (xs : List AV) (ω1 : Om) (vs : List V) (H1 : Hp), Rep F H1 ω1 → Fr F H ω H1 ω1 → RVs (cut F H1 ω1) xs vs → vs.length = ks.length → Q' xs ω1 → Q ((ks.zip vs).map fun p => (V.str p.1, p.2)) H1) → tPairs trs σ H Q := by
  induction h with
  | nil => intro F H ω σ ρ Q Q' rp rs w k; exact k [] ω [] H rp .refl rfl rfl w
  | @cons kk tv tv' r ks ts hv hr ih =>
    intro F H ω σ ρ Q Q' rp rs w k
    refine hv.go rp rs w fun x ω1 v H1 rp1 fr1 rs1 rv1 q1 => ih rp1 rs1 q1 fun xs ω2 vs H2 rp2 fr2 rvs hl q2 => ?_
    exact k (x :: xs) ω2 (v :: vs) H2 rp2 (fr1.trans fr2) ⟨v, vs, rfl, rv1.same fr2.same, rvs⟩ (by simp [hl]) q2
def aNilS (K : PySem.W.Frag) (neg : Bool) : A2 := fun x y ω Q => ∃ (a : Addr) (ns : List Int), x = scrL K a ns ∧ datA ω y = some (.lst []) ∧ Q (.d (.bl (if neg then !ns.isEmpty else ns.isEmpty))) ω
theorem aNilS_eq (K : PySem.W.Frag) (neg : Bool) (x y : AV) (ω : Om) (Q : AV → Om → Prop) : aNilS K neg x y ω Q = (∃ (a : Addr) (ns : List Int), x = scrL K a ns ∧ datA ω y = some (.lst []) ∧ Q (.d (.bl (if neg then !ns.isEmpty else ns.isEmpty))) ω) := rfl
end L2
set_option Elab.async false
set_option linter.all false
set_option autoImplicit false
set_option maxRecDepth 100000
set_option maxHeartbeats 1000000
namespace L2
open PySem PySem.Spec PyProof.Rows
def tx (l : List Nat) : Str := ⟨l.toArray⟩
def jn (s : List Nat) : List (List Nat) → List Nat
  | [] => []
  | [x] => x
  | x :: y :: r => x ++ s ++ jn s (y :: r)
def aStrI : AC := fun xs ω Q => ∃ i : Int, xs = [.d (.int i)] ∧ i.natAbs.log2 < 1920 ∧ Q (.d (.str (Str.ofString (toString i)))) ω
theorem aStrI_eq (xs : List AV) (ω : Om) (Q : AV → Om → Prop) : aStrI xs ω Q = (∃ i : Int, xs = [.d (.int i)] ∧ i.natAbs.log2 < 1920 ∧ Q (.d (.str (Str.ofString (toString i)))) ω) := rfl
def aJoin (to : AE) (t : AA) : AE := fun ρ ω Q => to ρ ω fun x ω1 => ∃ z, x = .d (.str z) ∧ t ρ ω1 fun ys ω2 => ∃ y ss, ys = [y] ∧ datA ω2 y = some (.lst (ss.map D.str)) ∧ JoinOk z ss = true ∧ Q (.d (.str (Str.join z ss))) ω2
theorem aJoin_eq (to : AE) (t : AA) (ρ : SA) (ω : Om) (Q : AV → Om → Prop) : aJoin to t ρ ω Q = (to ρ ω fun x ω1 => ∃ z, x = .d (.str z) ∧ t ρ ω1 fun ys ω2 => ∃ y ss, ys = [y] ∧ datA ω2 y = some (.lst (ss.map D.str)) ∧ JoinOk z ss = true ∧ Q (.d (.str (Str.join z ss))) ω2) := rfl
def aEnds (to : AE) (t : AA) : AE := fun ρ ω Q => to ρ ω fun x ω1 => ∃ z, x = .d (.str z) ∧ t ρ ω1 fun ys ω2 => ∃ y, ys = [.d (.str y)] ∧ Q (.d (.bl (Txt.endswith z y))) ω2
theorem aEnds_eq (to : AE) (t : AA) (ρ : SA) (ω : Om) (Q : AV → Om → Prop) : aEnds to t ρ ω Q = (to ρ ω fun x ω1 => ∃ z, x = .d (.str z) ∧ t ρ ω1 fun ys ω2 => ∃ y, ys = [.d (.str y)] ∧ Q (.d (.bl (Txt.endswith z y))) ω2) := rfl
def aIxZ : A2 := fun x y ω Q => ∃ z i c, x = .d (.str z) ∧ y = .d (.int i) ∧ z.length ≤ sizeLine ∧ atI z.cps.toList i = some c ∧ Q (.d (.str (tx [c]))) ω
theorem aIxZ_eq (x y : AV) (ω : Om) (Q : AV → Om → Prop) : aIxZ x y ω Q = (∃ z i c, x = .d (.str z) ∧ y = .d (.int i) ∧ z.length ≤ sizeLine ∧ atI z.cps.toList i = some c ∧ Q (.d (.str (tx [c]))) ω) := rfl
def aSlX (te : AE) (tl th : AO) : AE := fun ρ ω Q => te ρ ω fun x ω1 => tl ρ ω1 fun lo ω2 => th ρ ω2 fun hi ω3 => ∃ z : Str, x = .d (.str z) ∧ z.length ≤ sizeLine ∧ Q (.d (.str (Txt.slice z lo hi))) ω3
theorem aSlX_eq (te : AE) (tl th : AO) (ρ : SA) (ω : Om) (Q : AV → Om → Prop) : aSlX te tl th ρ ω Q = (te ρ ω fun x ω1 => tl ρ ω1 fun lo ω2 => th ρ ω2 fun hi ω3 => ∃ z : Str, x = .d (.str z) ∧ z.length ≤ sizeLine ∧ Q (.d (.str (Txt.slice z lo hi))) ω3) := rfl
def aMulS : A2 := fun x y ω Q => ∃ (z : Str) (i : Int), x = .d (.str z) ∧ y = .d (.int i) ∧ 0 ≤ i ∧ i ≤ 1 ∧ z.length ≤ sizeLine ∧ Q (.d (.str (if i = 1 then z else Str.empty))) ω
theorem aMulS_eq (x y : AV) (ω : Om) (Q : AV → Om → Prop) : aMulS x y ω Q = (∃ (z : Str) (i : Int), x = .d (.str z) ∧ y = .d (.int i) ∧ 0 ≤ i ∧ i ≤ 1 ∧ z.length ≤ sizeLine ∧ Q (.d (.str (if i = 1 then z else Str.empty))) ω) := rfl
def aOrS (ta tb : AE) : AE := fun ρ ω Q => ta ρ ω fun x ω1 => ∃ z : Str, x = .d (.str z) ∧ z.length ≤ sizeLine ∧ if z.length = 0 then tb ρ ω1 Q else Q x ω1
theorem aOrS_eq (ta tb : AE) (ρ : SA) (ω : Om) (Q : AV → Om → Prop) : aOrS ta tb ρ ω Q = (ta ρ ω fun x ω1 => ∃ z : Str, x = .d (.str z) ∧ z.length ≤ sizeLine ∧ if z.length = 0 then tb ρ ω1 Q else Q x ω1) := rfl
inductive PFs (X : Cx) : List Expr → List TE → Prop
  | nil : PFs X [] []
  | cons {e : Expr} {t : TE} {es : List Expr} {ts : List TE} : PE X e t → PFs X es ts → PFs X (e :: es) (t :: ts)
def fmtA (x : AV) : Option Str := match x with
  | .d (.int i) => if i.natAbs.log2 < 1920 then some (Str.ofString (toString i)) else none
  | .d (.str z) => if z.length ≤ sizeLine then some z else none
  | _ => none
def aFmt (te : AE) : AE := fun ρ ω Q => te ρ ω fun x ω1 => ∃ z, fmtA x = some z ∧ Q (.d (.str z)) ω1
theorem aFmt_eq (te : AE) (ρ : SA) (ω : Om) (Q : AV → Om → Prop) : aFmt te ρ ω Q = (te ρ ω fun x ω1 => ∃ z, fmtA x = some z ∧ Q (.d (.str z)) ω1) := rfl
def aFs : List AE → Str → AE
  | [], acc => fun ρ ω Q => Q (.d (.str acc)) ω
  | t :: ts, acc => fun ρ ω Q => t ρ ω fun x ω1 => ∃ y : Str, x = .d (.str y) ∧ acc.length + y.length ≤ sizeLine ∧ aFs ts (acc ++ y) ρ ω1 Q
theorem aFs_nil (acc : Str) (ρ : SA) (ω : Om) (Q : AV → Om → Prop) : aFs [] acc ρ ω Q = Q (.d (.str acc)) ω := rfl
theorem aFs_cons (t : AE) (ts : List AE) (acc : Str) (ρ : SA) (ω : Om) (Q : AV → Om → Prop) : aFs (t :: ts) acc ρ ω Q = (t ρ ω fun x ω1 => ∃ y : Str, x = .d (.str y) ∧ acc.length + y.length ≤ sizeLine ∧ aFs ts (acc ++ y) ρ ω1 Q) := rfl
inductive RefFs : List TE → List AE → Prop
  | nil : RefFs [] []
  | cons {t : TE} {t' : AE} {ts : List TE} {ts' : List AE} : RefE t t' → RefFs ts ts' → RefFs (t :: ts) (t' :: ts')
end L2
set_option Elab.async false
set_option linter.all false
set_option autoImplicit false
set_option maxRecDepth 100000
set_option maxHeartbeats 1000000
namespace L2
open PySem PySem.Spec PyProof.Rows
theorem comp_st {β : Type} {te : AE} {as : List AV} {v0 : Option AV} {rest : SA} {ω : Om} {K : List AV → SA → Om → Prop} (S : Om → Prop) (enc : β → D) (R : Nat → β → Prop) (h0 : S ω) (hz : as.length ≤ sizeLine)
    (he : ∀ (i : Nat) (a : AV), as[i]? = some a → ∀ ω, S ω → ∀ Q : AV → Om → Prop, (∀ b ω', R i b → S ω' → Q (.d (enc b)) ω') → te (some a :: rest) ω Q)
    (hk : ∀ (bs : List β) (ρ : SA) (ω' : Om), bs.length = as.length → (∀ i b, bs[i]? = some b → R i b) → S ω' → K ((bs.map enc).map AV.d) ρ ω') : aLoop (agName 0) aNoTest (aLast te) as [] (v0 :: rest) ω K := by
  refine loop_ix (fun i xs ρ ω' => ∃ v bs, S ω' ∧ ρ = v :: rest ∧ xs = (bs.map enc).map AV.d ∧ bs.length = i ∧ ∀ j b, bs[j]? = some b → R j b) ⟨_, [], h0, rfl, rfl, rfl, fun j b h => by simp at h⟩ ?_ ?_
  · rintro i a xs ρ ω' N ha ⟨v, bs, hS, rfl, rfl, hl, hR⟩ kN
    have hi := (List.getElem?_eq_some_iff.mp ha).1
    rw [agName_eq, List.set_cons_zero, aNoTest_eq, if_pos rfl, aLast_eq]
    refine he i a ha _ hS _ fun b ω2 hb hS2 => ⟨by rw [List.length_map, List.length_map]; omega, kN _ _ _ ⟨_, bs ++ [b], hS2, rfl, by simp, by simp [hl], fun j b' hj => ?_⟩⟩
    by_cases hjl : j < bs.length
    · rw [List.getElem?_append_left hjl] at hj
      exact hR j b' hj
    · rw [List.getElem?_append_right (by omega)] at hj
      have hj0 : j - bs.length = 0 := by
        cases e : j - bs.length with
        | zero => rfl
        | succ m => rw [e] at hj; simp at hj
      rw [hj0] at hj
      simp at hj
      subst hj
      have : j = i := by omega
      subst this
      exact hb
  · rintro xs ρ ω' ⟨v, bs, hS, rfl, rfl, hl, hR⟩
    exact hk bs _ _ hl hR hS
end L2
set_option Elab.async false
set_option linter.all false
set_option autoImplicit false
set_option maxRecDepth 100000
set_option maxHeartbeats 1000000
namespace L2
open PySem PySem.Spec PyProof.Rows
theorem RVs.takeA {G : Hp} : ∀ {xs : List AV} {us : List V} (j : Nat), RVs G xs us → RVs G (xs.take j) (us.take j) ∧ RVs G (xs.drop j) (us.drop j)
  | xs, us, 0, h => ⟨by simp [RVs], by simpa using h⟩
  | [], us, j + 1, h => by cases h; exact ⟨rfl, rfl⟩
  | x :: xs, us, j + 1, h => by
    obtain ⟨v, r, rfl, h1, h2⟩ := h
    obtain ⟨h3, h4⟩ := RVs.takeA j h2
    exact ⟨⟨v, _, rfl, h1, h3⟩, h4⟩
def aInsert (to : AE) (t : AA) : AE := fun ρ ω Q => to ρ ω fun x ω1 => ∃ l, x = .r (.ref l) ∧ (∃ zs, ω1 l = some (.own zs)) ∧ t ρ ω1 fun ys ω2 => ∃ (xs : List AV) (j : Nat) (y : AV), ys = [.d (.int j), y] ∧ ω2 l = some (.own xs) ∧ j ≤ xs.length ∧ xs.length < sizeLine ∧ Q (.d .non) (ω2.put l (.own (xs.take j ++ y :: xs.drop j)))
theorem aInsert_eq (to : AE) (t : AA) (ρ : SA) (ω : Om) (Q : AV → Om → Prop) : aInsert to t ρ ω Q = (to ρ ω fun x ω1 => ∃ l, x = .r (.ref l) ∧ (∃ zs, ω1 l = some (.own zs)) ∧ t ρ ω1 fun ys ω2 => ∃ (xs : List AV) (j : Nat) (y : AV), ys = [.d (.int j), y] ∧ ω2 l = some (.own xs) ∧ j ≤ xs.length ∧ xs.length < sizeLine ∧ Q (.d .non) (ω2.put l (.own (xs.take j ++ y :: xs.drop j)))) := rfl
def aPopAt (to : AE) (t : AA) : AE := fun ρ ω Q => to ρ ω fun x ω1 => ∃ l, x = .r (.ref l) ∧ (∃ zs, ω1 l = some (.own zs)) ∧ t ρ ω1 fun ys ω2 => ∃ (xs : List AV) (j : Nat) (y : AV), ys = [.d (.int j)] ∧ ω2 l = some (.own xs) ∧ xs.length ≤ 1000000 ∧ xs[j]? = some y ∧ Q y (ω2.put l (.own (xs.eraseIdx j)))
theorem aPopAt_eq (to : AE) (t : AA) (ρ : SA) (ω : Om) (Q : AV → Om → Prop) : aPopAt to t ρ ω Q = (to ρ ω fun x ω1 => ∃ l, x = .r (.ref l) ∧ (∃ zs, ω1 l = some (.own zs)) ∧ t ρ ω1 fun ys ω2 => ∃ (xs : List AV) (j : Nat) (y : AV), ys = [.d (.int j)] ∧ ω2 l = some (.own xs) ∧ xs.length ≤ 1000000 ∧ xs[j]? = some y ∧ Q y (ω2.put l (.own (xs.eraseIdx j)))) := rfl
def aReverse (to : AE) : AE := fun ρ ω Q => to ρ ω fun x ω1 => ∃ l xs, x = .r (.ref l) ∧ ω1 l = some (.own xs) ∧ Q (.d .non) (ω1.put l (.own xs.reverse))
theorem aReverse_eq (to : AE) (ρ : SA) (ω : Om) (Q : AV → Om → Prop) : aReverse to ρ ω Q = (to ρ ω fun x ω1 => ∃ l xs, x = .r (.ref l) ∧ ω1 l = some (.own xs) ∧ Q (.d .non) (ω1.put l (.own xs.reverse))) := rfl
section
variable {K : PySem.W.Frag} {to : TE} {to' : AE} {t : TA} {t' : AA}
end
end L2
set_option Elab.async false
set_option linter.all false
set_option autoImplicit false
set_option maxRecDepth 100000
set_option maxHeartbeats 1000000
namespace L2
open PySem PySem.Spec PyProof.Rows PySem.W
def CXx (P : Program) (w : World) : CXT := fun outer H s E e s' => ∃ (a C t : Addr) (H' : Hp) (B : Heap), e = .ref a ∧ s'.os = s.os ∧ AllBare s'.gens ∧ Un (frs outer) [] H H' s.heap s'.heap ∧ HOk P w H' B ∧
  Heap.FlyingW B outer a (.ref C) (.ref t) s'.heap ∧ (∀ b o, s.heap.get? b = some o → H b = none → b ∉ frs outer → B.get? b = some o) ∧ (∀ b o, s.heap.get? b = some o → b ∉ frs outer → ∃ o', B.get? b = some o') ∧ E (.ref a) (some C) H'
theorem get_of_objOk {P : Program} {w : World} {H : Hp} {h : Heap} {a : Addr} {o : HO} (x : ObjOk P w H h a o) : ∃ u, h.get? a = some u := by
  cases o with
  | lst xs => obtain ⟨_, _, _, _, e⟩ := x; exact ⟨_, e⟩
  | tup xs => obtain ⟨_, _, _, _, e, _⟩ := x; exact ⟨_, e⟩
  | dK kvs => obtain ⟨_, _, _, _, o, _, _, e, _⟩ := x; exact ⟨_, e⟩
  | dT kvs => obtain ⟨_, _, _, _, o, _, _, e, _⟩ := x; exact ⟨_, e⟩
  | set S n => obtain ⟨o, _, _, _, e, _⟩ := x; exact ⟨_, e⟩
  | ins C dx fs => obtain ⟨_, _, _, e, _⟩ := x; exact ⟨_, e⟩
  | own y => obtain ⟨_, e⟩ := x; exact ⟨_, e⟩
  | xd fs => obtain ⟨_, ⟨_, _, _, e, _⟩, _⟩ := x; exact ⟨_, e⟩
  | rng lo hi => obtain ⟨_, _, _, e⟩ := x; exact ⟨_, e⟩
  | frz ob u => obtain ⟨e, _⟩ := x; exact ⟨_, e⟩
  | tbl ps => obtain ⟨qs, e, _⟩ := x; exact ⟨_, e⟩
  | met f y => exact ⟨_, show h.get? a = some _ from x⟩
  | ext φ => obtain ⟨_, ⟨_, e⟩, _⟩ := x; exact ⟨_, e⟩
section
variable {P : Program} {w : World} {K : PySem.W.Frag} {mg : Str → Option Value} {base : Heap} {N : List Str} {qual : Str} {scope : Scope} {f : Addr} {cd : Value} {A : Around} {outer : List Env} {s₀ : Shared} {H₀ : Hp} {E : XK}
theorem raise_leaves {pins : List (Addr × Obj)} {σ : St} {H : Hp} {s1 : Shared} {h' : Heap} {e C : Addr} {vs : List Value} (I : Inv (cxOf (CXx P w) P w K mg base N qual scope f cd A outer s₀ H₀ E) pins σ H s1) (hx : Heap.MadeExcOf s1.heap h' e (.ref C) vs) (hE : E (.ref e) (some C) H) :
    (cxOf (CXx P w) P w K mg base N qual scope f cd A outer s₀ H₀ E).xe (.ref e) { s1 with heap := h' } := by
  have hfr := I.ok.frames
  have hst : s1.heap.FunFrames base (envOfC qual scope s₀.heap.objs.size f cd :: outer) := I.stack
  have hin : ∀ env ∈ (envOfC qual scope s₀.heap.objs.size f cd :: outer), ∀ b, env.frame = some b → b ∈ frs (envOfC qual scope s₀.heap.objs.size f cd :: outer) := fun env he b hb => List.mem_filterMap.mpr ⟨env, he, hb⟩
  have hfs : ∀ b, b ∈ frs (envOfC qual scope s₀.heap.objs.size f cd :: outer) → b = s₀.heap.objs.size ∨ b ∈ frs outer := fun b hb => by
    obtain ⟨env, he, hf⟩ := List.mem_filterMap.mp hb
    rcases List.mem_cons.mp he with rfl | he
    · exact .inl (Option.some.inj hf).symm
    · exact .inr (List.mem_filterMap.mpr ⟨env, he, hf⟩)
  have hB : ∀ b o, s1.heap.get? b = some o → b ≠ s₀.heap.objs.size → b ∉ frs outer → (hideAll s1.heap (frs (envOfC qual scope s₀.heap.objs.size f cd :: outer))).get? b = some o := fun b o hb h1 h2 => hideAll_get _ hb fun hm => (hfs b hm).elim h1 h2
  have lt0 : ∀ b o, s₀.heap.get? b = some o → b ≠ s₀.heap.objs.size := fun b o hb => Nat.ne_of_lt (Heap.lt_size hb)
  have nex : ∀ b : Addr, b ∉ (cxOf (CXx P w) P w K mg base N qual scope f cd A outer s₀ H₀ E).ex := fun b z => absurd (show b ∈ ([] : List Addr) from z) (by simp)
  refine wpAny_leaves_madeW (base := hideAll s1.heap (frs (envOfC qual scope s₀.heap.objs.size f cd :: outer))) hfr rfl (fun b o q => of_hideAll _ q) (funFrames_hide hst hin) hx fun h'' t x1 x2 x3 x4 => ?_
  have stay := x1.1
  have keep : ∀ b o, s₀.heap.get? b = some o → H₀ b = none → b ∉ frs outer → (hideAll s1.heap (frs (envOfC qual scope s₀.heap.objs.size f cd :: outer))).get? b = some o := fun b o hb hn ho => hB b o (I.base.keep b o hb hn ho (nex b)) (lt0 b o hb) ho
  have there : ∀ b o, s₀.heap.get? b = some o → b ∉ frs outer → ∃ o', (hideAll s1.heap (frs (envOfC qual scope s₀.heap.objs.size f cd :: outer))).get? b = some o' := fun b o hb ho => by
    obtain ⟨o', q⟩ := I.base.there b o hb (nex b)
    exact ⟨o', hB b o' q (lt0 b o hb) ho⟩
  have slot : ∀ b o, s₀.heap.get? b = some o → H₀ b = none → b ∈ frs outer → ∃ sl, h''.get? b = some { o with slots := sl } := fun b o hb hn ho => by
    obtain ⟨sl, q⟩ := I.base.slot b o hb hn ho (nex b)
    obtain ⟨_, o2, q2, nf⟩ := hst.mem (b := b) (by
      obtain ⟨env, he, hf⟩ := List.mem_filterMap.mp ho
      exact List.mem_filterMap.mpr ⟨env, List.mem_cons_of_mem _ he, hf⟩)
    rw [q] at q2
    cases q2
    obtain ⟨sl2, q3⟩ := x4 b _ (hx.keeps b _ q) nf
    exact ⟨sl2, q3⟩
  refine ⟨e, C, t, H, _, rfl, I.os, I.bare, ⟨fun b o hb hn ho _ => stay b o (keep b o hb hn ho), fun b o hb hn ho _ => slot b o hb hn ho, fun b o hb hn _ => I.base.free b o hb hn (nex b), fun b o hb _ => ?_, I.base.tups, I.base.frzs, I.base.tbls⟩, ?_, x1, keep, there, hE⟩
  · by_cases ho : b ∈ frs outer
    · by_cases hn : H₀ b = none
      · obtain ⟨sl, q⟩ := slot b o hb hn ho
        exact ⟨_, q⟩
      · exact absurd (I.ok.frf b ho) hn
    · obtain ⟨o', q⟩ := there b o hb ho
      exact ⟨o', stay b o' q⟩
  · intro a o ha
    have nf : ∀ b u, H b = some u → b ∉ frs (envOfC qual scope s₀.heap.objs.size f cd :: outer) := fun b u hu hm => by
      have := I.stkFree b hm
      rw [hu] at this; cases this
    refine (I.hok a o ha).stay (fun b u hb q => hideAll_get _ q ?_) (fun _ q => q) (fun _ _ q => q) fun _ _ _ q => q
    rcases hb with rfl | hb
    · exact nf _ _ ha
    · exact nf _ _ hb
end
abbrev vErr : List Value := [.type "ValueError", .type "Exception", .type "BaseException", .type "object"]
theorem own_cls {K : PySem.W.Frag} {h : Heap} {mg : Str → Option Value} {x : Str} {C : Addr} (X : K.In h) (b : mg x = some (.ref C)) (z : excIn K C vErr "ValueError.__new__" = true) : OwnCls x C vErr "ValueError.__new__" mg h := by
  unfold excIn at z
  split at z
  case h_2 => cases z
  case h_1 dd cd sl lk =>
    split at z
    case h_2 => cases z
    case h_1 C1 bm k0 k1 k2 k3 n k5 em es =>
      simp only [Bool.and_eq_true, beq_iff_eq, Bool.not_eq_true'] at z
      obtain ⟨⟨⟨⟨⟨e1, e2⟩, nodel⟩, tl⟩, nsok⟩, noinit⟩ := z
      subst e1 e2
      obtain ⟨nm, bs, mro, ns, qn, hd, sn, sub, ab, col, del⟩ := cd
      dsimp only at em nodel nsok noinit
      subst em nodel
      obtain ⟨l⟩ := sl
      simp only at es
      subst es
      exact ⟨b, bm, ns, nm, qn, bs, hd, sn, sub, ab, col, dd, k0, k1, k2, k3, k5, _, X _ _ lk, .of_isNs (isNs_of_in X nsok), nsMap_none_of_in X nsok noinit, tail_of_in X tl⟩
def tRaise (C : Addr) (E : XK) (t : TA) : TS := fun _ σ H => t σ H fun vs H1 => vs.length ≤ 1000 ∧ ∀ e, E (.ref e) (some C) H1
section
variable {P : Program} {w : World} {K : PySem.W.Frag} {mg : Str → Option Value} {base : Heap} {N : List Str} {qual : Str} {scope : Scope} {f : Addr} {cd : Value} {A : Around} {outer : List Env} {s₀ : Shared} {H₀ : Hp} {E : XK}
theorem ps_raise {x : Str} {C : Addr} {e0 : Expr} {es : List Expr} {t : TA} {np cpos pos : Pos} (hr : (A.deeper (envOfC qual scope s₀.heap.objs.size f cd)).handled = none) (hg : Gl (cxOf (CXx P w) P w K mg base N qual scope f cd A outer s₀ H₀ E) x) (hm : mg x = some (.ref C)) (hC : excIn K C vErr "ValueError.__new__" = true)
    (ha : PA (cxOf (CXx P w) P w K mg base N qual scope f cd A outer s₀ H₀ E).nox (e0 :: es) t) (hdb : (x == ("__debug__" : Str)) = false := by decide)
    (he : starEach (e0 :: es) (envOfC qual scope s₀.heap.objs.size f cd) = (false, eval e0 (envOfC qual scope s₀.heap.objs.size f cd)) :: starEach es (envOfC qual scope s₀.heap.objs.size f cd) := by rfl) (hpl : (backTo cpos (starEach es (envOfC qual scope s₀.heap.objs.size f cd))).any (·.1) = false := by rfl) :
    PS (cxOf (CXx P w) P w K mg base N qual scope f cd A outer s₀ H₀ E) (.Raise (some (.Call (.Name x np) (e0 :: es) [] cpos)) none pos) (tRaise C E t) := .mk <| by
  intro pins s σ H D I h
  obtain ⟨tl, NN, nm, q, bs, hdct, sn, sub, ab, col, dd, k0, k1, k2, k3, k5, mN, hCo, hN, hni, T⟩ := (own_cls (mg := mg) I.ok.mod.kin hm hC).obj
  refine wpAny_Raise_call_subU (C := C) (nm := nm) (q := q) (N := NN) (bs := bs) (bm := tl) (hdct := hdct) (sn := sn) (sub := sub) (ab := ab) (col := col) (dd := dd) (k0 := k0) (k1 := k1) (k2 := k2) (k3 := k3) (k5 := k5)
    PySem.F.excBase_ValueError (by decide) PySem.F.excBase_ValueError (mN := mN) (T.hasType PySem.F.excBase_ValueError.hasBase) hr ?_ hni (ld_glob I hg hm ⟨rfl, ?_⟩ hdb)
  · show (backTo cpos (starEach (e0 :: es) (envOfC qual scope s₀.heap.objs.size f cd))).any (·.1) = false
    rw [he]
    show (false || (backTo cpos (starEach es (envOfC qual scope s₀.heap.objs.size f cd))).any (·.1)) = false
    rw [hpl]; rfl
  · have ev := ha cpos pins s σ H _ (I.wish _) h
    show wpAny _ _ (evalArgs (.ref C) true (backTo cpos (starEach (e0 :: es) (envOfC qual scope s₀.heap.objs.size f cd))) []) _ _ _
    have ev : wpAny (model P w) (A.deeper (envOfC qual scope s₀.heap.objs.size f cd)) (spliced (backTo cpos (starEach (e0 :: es) (envOfC qual scope s₀.heap.objs.size f cd)))) _ _ s := ev
    rw [he] at ev ⊢
    refine Calls.evalArgs_plain (wpAny_mono ev (fun us s2 hz => ?_) fun _ _ z => False.elim z)
    obtain ⟨vs, H1, I1, rv, hl, hE⟩ := hz
    have I1 := I1.unwish
    exact ⟨rfl, by rw [← rv.length]; exact Nat.le_of_lt (small1000 hl), I1.bk _ _ hCo, hN.keeps I1.bk, T.keeps I1.bk, fun h' e hx => raise_leaves I1 hx (hE e)⟩
end
end L2
set_option Elab.async false
set_option linter.all false
set_option autoImplicit false
set_option maxRecDepth 100000
set_option maxHeartbeats 1000000
namespace L2
open PySem PySem.Spec PySem.Calls PyProof.Rows PySem.W PySem.Builtin PySem.Builtin.ObjectAttr PySem.Builtin.Getset_descriptor
def excOk (K : PySem.W.Frag) (D : Addr) : Bool := (findIn K (.ref D) "__getattribute__" == some (some (.builtin "BaseException.__getattribute__")) && findIn K (.ref D) "__getattr__" == some none) && (clsIn K D).isSome && (findIn K (.ref D) "__class__" == some (some (.builtin "object.__class__"))) && (specialIn K (.builtin "object.__class__") "__get__" == some (some (.builtin "getset_descriptor.__get__"))) && (takesIn K (.builtin "object.__class__") == some true) && (mroIn K D (.type "object") == some true && mroIn K D (.type "BaseException") == some true) && excIn K D vErr "ValueError.__new__"
def ExcAt (x D : Addr) (h : Heap) : Prop := ∃ o, h.get? x = some o ∧ o.cls = .ref D
theorem ExcAt.ty {x D : Addr} {h : Heap} (e : ExcAt x D h) (M : Model) : Looks M h (typeOf (.ref x)) (.ref D) := by
  obtain ⟨o, h1, h2⟩ := e
  exact h2 ▸ (Looks.ld h1).andThen .now
theorem looks_data {K : PySem.W.Frag} {M : Model} {h : Heap} (X : K.In h) {x C : Addr} {name : Str} {a g : Value} (ha : findIn K (.ref C) name = some (some a)) (hg : specialIn K a "__get__" = some (some g)) (ht : takesIn K a = some true) : Looks M h (find (.ref x) (.ref C) name) (.bind g a) := by
  refine (looks_findIn (M := M) X ha).andThen ((looks_specialIn (M := M) X hg).andThen ?_)
  have dd : Looks M h (dataDescriptor? (some a) (some g)) (some (g, a)) := (looks_takesIn (M := M) X ht).andThen .now
  exact dd.andThen (Looks.tag .now)
section
variable {prog : Program} {w : World} {A : Around} {E : Value → Shared → Prop} {s : Shared} {K : PySem.W.Frag} {x D : Addr}
theorem exc_class {Q : Option Value → Shared → Prop} (X : K.In s.heap) (e : ExcAt x D s.heap) (ok : excOk K D = true) (h : Q (some (.ref D)) { s with toks := s.toks + 1 }) : wpAny (model prog w) A (getAttr? (.ref x) "__class__") Q E s := by
  unfold excOk at ok
  simp only [Bool.and_eq_true, beq_iff_eq] at ok
  obtain ⟨⟨⟨⟨⟨⟨⟨hga, hgn⟩, _⟩, ha⟩, hn⟩, htk⟩, hm, hmb⟩, hex⟩ := ok
  obtain ⟨hh, gs, dr, tt, os⟩ := s
  have T0 := e.ty (model prog w)
  have T1 := looks_findIn (M := model prog w) X hga
  have T2 := looks_data (M := model prog w) (x := x) X ha hn htk
  have T3 := looks_findIn (M := model prog w) X hgn
  have T4 := looks_mroIn (M := model prog w) X hm
  unfold getAttr? getAttrBy? getAttrBy
  refine wpAny_bind (wpAny_mkText (wpAny_bind (wpAny_attempt (wpAny_holding (wpAny_bind (T0.at (wpAny_bind (T1.at ?_))))))))
  dsimp only
  rw [if_neg (by rw [show (Value.builtin "BaseException.__getattribute__" == Value.builtin "object.__getattribute__") = false from by decide +kernel, Bool.and_false]; exact Bool.false_ne_true)]
  have T5 := looks_mroIn (M := model prog w) X hmb
  unfold getAttrByItsOwn hookBefore callGetattribute boundAndCalled
  show wpAny _ _ (typeLookup (.ref D) "__getattr__" >>= _) _ _ _
  refine wpAny_bind (T3.at (wpAny_bind (wpAny_attempt (wpAny_holding ?_))))
  show wpAny _ _ (bindSpecial (.builtin "BaseException.__getattribute__") (.ref x) >>= _) _ _ _
  refine wpAny_bind (wpAny_of_eq (PySem.F.attrBase_ValueError.ga.bind _) (wpAny_call (codeAny_call_builtin PySem.F.attrBase_ValueError.ga.plain PySem.F.entry_bexc_ga ?_)))
  have ck : ∀ {Q : Unit → Shared → Prop} {E : Value → Shared → Prop} {A : Around} {nv : Value}, Q () ⟨hh, gs, dr, tt + 1, os⟩ → wpAny (model prog w) A (checkBuiltinCall "BaseException.__getattribute__" ⟨[.ref x, nv], []⟩) Q E ⟨hh, gs, dr, tt + 1, os⟩ := fun {Q E A nv} q => by
    have b1 : builtinKind "BaseException.__getattribute__" = some .slot := by decide +kernel
    have b2 : splitId "BaseException.__getattribute__" = some ("BaseException", "__getattribute__") := by decide +kernel
    have b3 := F.args_bexc_ga (.ref x) nv
    simp only [checkBuiltinCall, b1, b2]
    refine wpAny_bind ?_
    unfold isInstance
    refine wpAny_bind (T0.at (T5.at ?_))
    rw [if_neg (by decide)]
    unfold argsOk at b3
    first | (rw [b3]; exact wpAny_pure q) | (refine wpAny_of_eq b3 q)
  refine ck ?_
  repeat (first | with_reducible refine wpAny_bind (T0.at ?_) | with_reducible refine T0.at ?_ | with_reducible refine wpAny_bind (T2.at ?_) | with_reducible refine T2.at ?_ | wp_step)
  refine codeAny_call_builtin KF.slot_gs.plain KF.entry_gs (KF.slot_gs.check _ _ _ _ _ _ _ _ KF.type_class (KF.args_gs _ _ _) ?_)
  unfold Builtin.«getset_descriptor.__get__» descrGet
  rw [dga_obj]
  refine wpAny_bind (wpAny_pure ?_)
  unfold descrGetter descrCheckInstance descrNameAndClass isInstance
  simp only [KF.owner_class]
  repeat lk
  refine ⟨Code.quiet_builtin _ (by decide +kernel), codeAny_builtin KF.entry_class ?_⟩
  unfold Builtin.«object.__class__» shownTypeOf
  repeat lk
  first | exact h | (repeat (first | assumption | wp_step))
theorem kitx_exc (ok : excOk K D = true) : KitX K (.ref x) (.ref D) (ExcAt x D) where
  ty := fun M h _ e => e.ty M
  it := fun M h X _ => by
    unfold excOk at ok
    simp only [Bool.and_eq_true, beq_iff_eq] at ok
    obtain ⟨⟨⟨⟨⟨⟨_, hc⟩, _⟩, _⟩, _⟩, _⟩, _⟩ := ok
    unfold clsIn at hc
    split at hc
    · rename_i c' d' cd' sl' lk
      intro A' Q' E' s' k q
      unfold isType loadHead
      exact wpAny_bind (wpAny_loadPart (k _ _ (X _ _ lk)) (wpAny_pure q))
    · cases hc
  ne := fun h tp dd its n sl X htp => by
    unfold excOk at ok
    simp only [Bool.and_eq_true, beq_iff_eq] at ok
    obtain ⟨⟨⟨⟨⟨⟨_, hc⟩, _⟩, _⟩, _⟩, _⟩, _⟩ := ok
    refine Bool.eq_false_iff.mpr fun q => ?_
    have e : D = tp := Value.ref.inj (beq_iff_eq.mp q)
    subst e
    unfold clsIn at hc
    split at hc
    · rename_i c' d' cd' sl' lk
      have z := (X _ _ lk).symm.trans htp
      cases z
    · cases hc
  ca := fun X e k => exc_class X e ok k
end
def excO (a C : Addr) : HO := .ext (ExcAt a C)
def clV : V → Option Value
  | .ref a => some (.ref a)
  | .ty n => some (.type n)
  | _ => none
theorem clV_of {v : V} {u c : Value} (r : RelV v u) (h : clV v = some c) : u = c := by
  cases v <;> simp [clV] at h <;> subst h <;> exact r
def isX (K : PySem.W.Frag) (H : Hp) (f : Value → Option Bool) (x : V) (b : Bool) : Prop := (x = .non ∧ f (.type "NoneType") = some b) ∨ ∃ a C, x = .ref a ∧ H a = some (excO a C) ∧ excOk K C = true ∧ f (.ref C) = some b
def rIsX (K : PySem.W.Frag) : List V → Hp → VK → Prop := fun xs H Q => ∃ x c cv b, xs = [x, c] ∧ clV c = some cv ∧ isX K H (fun t => kitOne K t cv) x b ∧ Q (.bl b) H
theorem call_isX {X : Cx} (K : PySem.W.Frag) (hK : X.K = K) : CallR X (.builtin "isinstance") (rIsX K) := by
  subst hK
  intro pins s σ H xs us Q I r h
  obtain ⟨x, c, cv, b, rfl, hc, hx, q⟩ := h
  obtain ⟨u1, u2, rfl, r1, r2⟩ := Vals.two r
  have e2 := clV_of r2 hc
  subst e2
  rcases hx with ⟨rfl, hb⟩ | ⟨a, C, rfl, ha, ok, hb⟩
  · obtain rfl : u1 = Value.none := r1
    exact kia_one kitx_none I.kIn trivial hb (by intro z; cases z) fun tk => ⟨.bl b, H, I.tok tk, rfl, q⟩
  · obtain rfl : u1 = Value.ref a := r1
    exact kia_one (kitx_exc ok) I.kIn (I.hok a _ ha).1 hb (by intro z; cases z) fun tk => ⟨.bl b, H, I.tok tk, rfl, q⟩
def clVs : List V → Option (List Value)
  | [] => some []
  | v :: r => match clV v, clVs r with
    | some c, some cs => some (c :: cs)
    | _, _ => none
theorem clVs_of : ∀ {vs : List V} {us cs : List Value}, Vals vs us → clVs vs = some cs → us = cs
  | [], us, cs, r, h => by cases r; cases h; rfl
  | v :: vs, us, cs, r, h => by
    cases r with
    | cons r1 rr =>
      simp only [clVs] at h
      split at h
      · rename_i c cs' h1 h2
        cases h
        rw [clV_of r1 h1, clVs_of rr h2]
      · cases h
def rIsXT (K : PySem.W.Frag) : List V → Hp → VK → Prop := fun xs H Q => ∃ x tp cs cvs b, xs = [x, .ref tp] ∧ H tp = some (.tup cs) ∧ clVs cs = some cvs ∧ isX K H (fun t => kitAny K t cvs) x b ∧ Q (.bl b) H
theorem call_isXT {X : Cx} (K : PySem.W.Frag) (hK : X.K = K) : CallR X (.builtin "isinstance") (rIsXT K) := by
  subst hK
  intro pins s σ H xs us Q I r h
  obtain ⟨x, tp, cs, cvs, b, rfl, ht, hc, hx, q⟩ := h
  obtain ⟨u1, u2, rfl, r1, r2⟩ := Vals.two r
  obtain rfl : u2 = Value.ref tp := r2
  obtain ⟨_, its, rv, ot, e1, e2, e3⟩ := I.hok tp _ ht
  have e4 := clVs_of rv hc
  subst e4
  obtain ⟨n, e3⟩ := e3
  obtain ⟨oc, od, oda, osl⟩ := ot
  dsimp only at e2 e3
  subst e2 e3
  rcases hx with ⟨rfl, hb⟩ | ⟨a, C, rfl, ha, ok, hb⟩
  · obtain rfl : u1 = Value.none := r1
    exact kia_tup kitx_none I.kIn trivial e1 hb (by intro z; cases z) fun tk => ⟨.bl b, H, I.tok tk, rfl, q⟩
  · obtain rfl : u1 = Value.ref a := r1
    exact kia_tup (kitx_exc ok) I.kIn (I.hok a _ ha).1 e1 hb (by intro z; cases z) fun tk => ⟨.bl b, H, I.tok tk, rfl, q⟩
theorem Inv.track {X : Cx} {pins : List (Addr × Obj)} {σ : St} {H : Hp} {s : Shared} (J : Inv X pins σ H s) {a : Addr} {o : HO} (hn : H a = none) (h0 : X.s₀.heap.get? a = none) (hL : a ≠ X.env.locals) (hC : ∀ x c, X.env.cells.lookup x = some c → c ≠ a)
    (hp : ∀ p ∈ X.pn ++ pins, p.1 ≠ a) (ho : ObjOk X.prog X.w (upd H a o) s.heap a o) : Inv X pins σ (upd H a o) s := by
  have ne : ∀ b u, H b = some u → b ≠ a := fun b u h z => by subst z; rw [hn] at h; cases h
  refine ⟨J.ok, J.os, J.bare, ⟨J.base.keep, J.base.slot, fun b ob h1 h2 h3 => ?_, J.base.there, fun b xs h => ?_, fun b ob u h => ?_, fun b ps h => ?_⟩, J.loc, J.cell, ?_, fun x c h => ?_, fun p hm => ?_, fun b u h => ?_, J.len⟩
  · rw [upd_ne (fun z => by subst z; rw [h0] at h1; cases h1)]
    exact J.base.free b ob h1 h2 h3
  · have := J.base.tups b xs h
    rw [upd_ne (ne b _ this)]; exact this
  · have := J.base.frzs b ob u h
    rw [upd_ne (ne b _ this)]; exact this
  · obtain ⟨more, this⟩ := J.base.tbls b ps h
    exact ⟨more, by rw [upd_ne (ne b _ this)]; exact this⟩
  · rw [upd_ne (Ne.symm hL)]; exact J.free
  · rw [upd_ne (hC x c h)]; exact J.freeC x c h
  · obtain ⟨z1, z2, z3, z4, z5⟩ := J.pin p hm
    exact ⟨z1, by rw [upd_ne (hp p hm)]; exact z2, z3, z4, z5⟩
  · by_cases hb : b = a
    · subst hb; rw [upd_same] at h; cases h; exact ho
    · rw [upd_ne hb] at h
      exact (J.hok b u h).stay (fun _ _ _ q => q) (fun c q => by rw [upd_ne (ne c _ q)]; exact q) (fun c xs q => by rw [upd_ne (ne c _ q)]; exact q) fun c o' u' q => by rw [upd_ne (ne c _ q)]; exact q
def PEX (X : Cx) (CX : CXT) (e : Expr) (t : XK → TE) : Prop := ∀ (pins : List (Addr × Obj)) (s : Shared) (σ : St) (H : Hp) (Q : VK) (E : XK), Inv X pins σ H s → t E σ H Q →
  wpAny (model X.prog X.w) X.A (eval e X.env) (EP X pins σ Q) (fun x s' => ∃ H1 s1, Inv X pins σ H1 s1 ∧ CX X.stack H1 s1 E x s') s
section
variable {X : Cx} {CX : CXT} {k : Nat} {f : Addr} {fd : FuncData} {ps : List Str} {sp : Sp} {x : Str} {p pos : Pos} {e : Expr} {es : List Expr} {t : TA}
theorem pex_call (F : FnOk X.prog X.w X.K X.mg X.base CX k f fd ps sp) (hr : Room k X.A) (hg : Gl X x) (hm : X.mg x = some (.ref f)) (hk : PySem.W.keepIn X.K (.ref f) = true) (hb : Binds X.K fd ps [])
    (ha : PA X.nox (e :: es) t) (hdb : (x == ("__debug__" : Str)) = false := by decide) (he : starEach (e :: es) X.env = (false, eval e X.env) :: starEach es X.env := by rfl) (hpl : (backTo pos (starEach es X.env)).any (·.1) = false := by rfl) :
    PEX X CX (.Call (.Name x p) (e :: es) [] pos) (fun E => tCall sp [] E t) := by
  intro pins s σ H Q E I h
  refine wpAny_Call_Name_kw (ld_glob I hg hm ?_ hdb)
  refine PySem.W.callWith_K (h₀ := X.base) I.ok.mod.kin hk (wpAny_mono (ha pos pins s σ H _ (I.wish _) h) (fun us s1 ⟨vs, H1, I1, r, q⟩ => ⟨I1.kIn, ?_⟩) fun _ _ z => False.elim z) he hpl
  have I1 := I1.unwish
  have q : sp (vs ++ []) H1 Q E := q
  rw [List.append_nil] at q
  have hl : (us ++ []).length = ps.length := by rw [List.append_nil, ← r.length]; exact F.len _ _ _ _ q
  have hbb := hb s1 us I1.kIn hl
  rw [List.append_nil] at hbb
  refine wpAny_call (codeAny_mono (F.run X.A X.stack s1 H1 ⟨us, []⟩ us vs Q E hr I1.env0 hbb r q) fun r s' hq => ?_)
  cases r with
  | error e => exact ⟨H1, s1, I1, hq⟩
  | ok fl =>
    cases fl with
    | ret u => exact I1.after hq
    | next => exact False.elim hq
    | brk => exact False.elim hq
    | cont => exact False.elim hq
end
end L2
set_option Elab.async false
set_option linter.all false
set_option autoImplicit false
set_option maxRecDepth 100000
set_option maxHeartbeats 1000000
namespace L2
open PySem PySem.Spec PySem.Calls PyProof.Rows PySem.W
section
variable {X : Cx} {pins : List (Addr × Obj)} {σ : St} {H : Hp} {s : Shared}
theorem name_goes {M : Model} {A : Around} {E : Value → Shared → Prop} {i : Nat} {n : Str} {pos : Pos} {Q : Unit → Shared → Prop} (J : Inv X pins σ H s) (hN : X.N.Nodup) (hi : X.N[i]? = some n) (hl : X.env.scope.names.lookup n = some .local)
    (h : ∀ s', Inv X pins (σ.set i none) H s' → Q () s') : wpAny M A (do bindName X.env n .none; unbindBehindTheSuite X.env n pos) Q E s := by
  have hcls : (X.env.scope.kind == .class || (X.env.scope.kind == .module && X.env.locals != X.env.globals)) = false := by rw [J.ok.kind]; rfl
  obtain ⟨m, hn, hk⟩ := J.loc
  refine wpAny_nameGoes_keeps hl hn hcls fun h' v hn' hs => h _ ?_
  have at' : ∀ b o, b ≠ X.env.locals → s.heap.get? b = some o → h'.get? b = some o := fun b o hb q => (hs.2 b hb).trans q
  have ne0 : ∀ b o, X.s₀.heap.get? b = some o → b ≠ X.env.locals := fun b o e => Nat.ne_of_lt (Nat.lt_of_lt_of_le (Heap.lt_size e) J.ok.above)
  have cel : ∀ x c v, X.env.cells.lookup x = some c → s.heap.IsCell c v → h'.IsCell c v := fun x c v e ⟨o, q1, q2⟩ => ⟨o, at' c o (J.cne x c e) q1, q2⟩
  refine ⟨J.ok, J.os, J.bare, ⟨fun b o e1 e2 e3 e4 => at' b o (ne0 b o e1) (J.base.keep b o e1 e2 e3 e4), fun b o e1 e2 e3 e4 => ?_, J.base.free, fun b o e1 e2 => ?_, J.base.tups, J.base.frzs, J.base.tbls⟩, ⟨_, hn', fun j x w h1 h2 h3 => ?_⟩, fun x c e => ?_, J.free, J.freeC, fun p hp => ?_, fun b o e => ?_, ?_⟩
  · obtain ⟨sl, q⟩ := J.base.slot b o e1 e2 e3 e4
    exact ⟨sl, at' b _ (ne0 b o e1) q⟩
  · obtain ⟨o', q⟩ := J.base.there b o e1 e2
    exact ⟨o', at' b _ (ne0 b o e1) q⟩
  · have hji : j ≠ i := fun z => by
      subst z
      rw [List.getElem?_set] at h2
      simp only [if_true] at h2
      split at h2 <;> cases h2
    rw [List.getElem?_set_ne (Ne.symm hji)] at h2
    obtain ⟨u, r, l⟩ := hk j x w h1 h2 h3
    have hxn : x ≠ n := fun z => by
      subst z
      have b1 := List.getElem?_eq_some_iff.mp h1
      have b2 := List.getElem?_eq_some_iff.mp hi
      exact hji ((List.getElem_inj hN).mp (b1.2.trans b2.2.symm))
    refine ⟨u, r, ?_⟩
    rcases l with ⟨l1, l2⟩ | ⟨l1, c, l2, l3⟩
    · exact .inl ⟨l1, by show (if x = n then v else m x) = some u; rw [if_neg hxn]; exact l2⟩
    · exact .inr ⟨l1, c, l2, cel x c _ l2 l3⟩
  · obtain ⟨v, q⟩ := J.cell x c e
    exact ⟨v, cel x c v e q⟩
  · obtain ⟨z1, z2, z3, z4, z5⟩ := J.pin p hp
    exact ⟨at' _ _ z3 z1, z2, z3, z4, z5⟩
  · have nl : ∀ b u, H b = some u → b ≠ X.env.locals := fun b u q z => by subst z; rw [J.free] at q; cases q
    refine (J.hok b o e).stay (fun c u hc q => at' c u ?_ q) (fun _ q => q) (fun _ _ q => q) fun _ _ _ q => q
    rcases hc with rfl | hc
    · exact nl _ _ e
    · exact nl _ _ hc
  · rw [List.length_set]; exact J.len
end
def PSX (X : Cx) (CX : CXT) (st : Stmt) (t : XK → TS) : Prop := ∀ (pins : List (Addr × Obj)) (s : Shared) (σ : St) (H : Hp) (D : Ends) (E : XK), Inv X pins σ H s → t E D σ H →
  wpAny (model X.prog X.w) X.A (exec st X.env) (SP X pins D) (fun x s' => ∃ H1 s1, Inv X pins σ H1 s1 ∧ CX X.stack H1 s1 E x s') s
section
variable {X : Cx} {CX : CXT} {e : Expr} {te : XK → TE} {pos : Pos}
theorem psx_expr (he : PEX X CX e te) (hs : swapsWith e none pos.line X.env = pure false := by rfl) : PSX X CX (.Expr e pos) (fun E => tDrop (te E)) := by
  intro pins s σ H D E I h
  exact wpAny_Expr_any (thn (he pins s σ H _ E I h) fun v s1 ⟨x, H1, I1, r1, q1⟩ => ⟨σ, H1, I1, q1⟩) I.quiet hs
end
def tTry (K : PySem.W.Frag) (T : Addr) (i j : Nat) (tb : XK → TS) : TS := fun D σ H => tb (fun x C H' => ∀ a c, x = .ref a → C = some c → H' a = none → exmOne K (.ref c) (.ref T) = some true ∧ D.nx ((σ.set i none).set j (some (.ref a))) (upd H' a (excO a c))) D σ H
def Cx.inX (X : Cx) (e : Value) : Cx := { X with A := X.A.mark (some e), calm := false, xe := fun _ _ => False }
theorem Inv.inX {X : Cx} {pins : List (Addr × Obj)} {σ : St} {H : Hp} {s : Shared} (I : Inv X pins σ H s) (e : Value) : Inv (X.inX e) pins σ H s :=
  ⟨⟨I.ok.mod, I.ok.kind, I.ok.glob, I.ok.blt, I.ok.above, I.ok.inj, I.ok.has, I.ok.cab, fun z => (nomatch z), I.ok.frames, I.ok.stk, I.ok.exf, I.ok.bs, I.ok.bsz, I.ok.noex, I.ok.exfs, I.ok.funs, I.ok.frf, I.ok.tt⟩, I.os, I.bare, I.base, I.loc, I.cell, I.free, I.freeC, I.pin, I.hok, I.len⟩
theorem Inv.outX {X : Cx} {e : Value} {pins : List (Addr × Obj)} {σ : St} {H : Hp} {s : Shared} (ok : X.Ok) (I : Inv (X.inX e) pins σ H s) : Inv X pins σ H s := ⟨ok, I.os, I.bare, I.base, I.loc, I.cell, I.free, I.freeC, I.pin, I.hok, I.len⟩
theorem ps_try {X : Cx} {st : Stmt} {tb : XK → TS} {T : Addr} {tn n z : Str} {i j : Nat} {tp np zp ap hp pos : Pos} (hS : X.stack = X.env :: X.outer) (hF : X.env.frame = some X.env.locals) (hX : X.ex = []) (hb : PSX X (CXx X.prog X.w) st tb)
    (hg : Gl X tn) (hm : X.mg tn = some (.ref T)) (hN : X.N.Nodup) (hi : X.N[i]? = some n) (hj : X.N[j]? = some z) (hij : i ≠ j) (hn : X.env.scope.names.lookup n = some .local) (hz : X.env.scope.names.lookup z = some .local)
    (hdb : (tn == ("__debug__" : Str)) = false := by decide) (hdn : (n == ("__debug__" : Str)) = false := by decide) (hcn : (n == ("__classdict__" : Str)) = false := by decide)
    (hs : ∀ v : Value, swapsWith (.Name n np) (some (.Name z zp)) ap.line X.env = pure false := by intro _; rfl) :
    PS X (.Try [st] [.ExceptHandler (some (.Name tn tp)) (some n) [.Assign [.Name z zp] (.Name n np) ap] hp] [] [] pos) (tTry X.K T i j tb) := .mk <| by
  intro pins s σ H D I h
  refine wpAny_Try_except (wpAny_execs_cons (wpAny_mono (hb pins s σ H D _ I h) (fun f s1 q => ?_) fun x s' hx => ?_))
  · cases f with
    | next => exact wpAny_execs_nil (wpAny_execs_nil q)
    | ret v => exact q
    | brk => exact q
    | cont => exact q
  obtain ⟨H1, s1, I1, a, C, t, H', B, rfl, os, bare, un, hok, fl, keep, there, hE⟩ := hx
  have hfr : X.A.frames = some (X.env :: X.outer) := by rw [← hS]; exact I1.ok.frames
  rw [hS] at un keep there fl
  have hBa : B.get? a = none := fl.2.1
  have hna : H' a = none := by
    cases q : H' a with
    | none => rfl
    | some u =>
      obtain ⟨o, e⟩ := get_of_objOk (hok a u q)
      rw [hBa] at e; cases e
  obtain ⟨hex, hnx⟩ := hE a C rfl rfl hna
  have fst := I1.stack
  rw [hS] at fst
  have nonf : ∀ b o, s1.heap.get? b = some o → b ∈ frs (X.env :: X.outer) → ∀ vs, o.data ≠ .fields vs := fun b o hb ho => by
    obtain ⟨_, o2, q2, nf⟩ := fst.mem (b := b) ho
    rw [hb] at q2; cases q2; exact nf
  refine wpAny_looks_onW hfr hF fl fun h2 held up2 => wpAny_landsW held fun h3 fl3 up3 => ?_
  have back : ∀ h4 : Heap, Heap.FlyingW B (X.env :: X.outer) a (.ref C) (.ref t) h4 → s'.heap.UpToSlots h4 → Inv X pins σ (upd H' a (excO a C)) { s' with heap := h4 } := fun h4 fl4 up4 => by
    have stay := fl4.1
    have un4 : Un (frs X.stack) [] H1 H' s1.heap h4 := by
      rw [hS]
      have slot : ∀ b o, s1.heap.get? b = some o → H1 b = none → b ∈ frs (X.env :: X.outer) → ∃ sl, h4.get? b = some { o with slots := sl } := fun b o hb hn ho => by
        obtain ⟨sl1, q1⟩ := un.slot b o hb hn ho (by simp)
        obtain ⟨sl2, q2⟩ := up4 b _ q1 (nonf b o hb ho)
        exact ⟨sl2, q2⟩
      refine ⟨fun b o hb hn ho _ => stay b o (keep b o hb hn ho), fun b o hb hn ho _ => slot b o hb hn ho, un.free, fun b o hb _ => ?_, un.tups, un.frzs, un.tbls⟩
      by_cases ho : b ∈ frs (X.env :: X.outer)
      · obtain ⟨sl, q⟩ := slot b o hb (I1.stkFree b (by rw [hS]; exact ho)) ho
        exact ⟨_, q⟩
      · obtain ⟨o', q⟩ := there b o hb ho
        exact ⟨o', stay b o' q⟩
    have J : Inv X pins σ H' { s' with heap := h4 } := I1.call' (s' := { s' with heap := h4 }) os un4 (hok.kept stay) bare (fun b z => absurd z (by simp))
    have ex4 : ExcAt a C h4 := fl4.there
    have inB : ∀ b o, s1.heap.get? b = some o → b ∉ frs (X.env :: X.outer) → b ≠ a := fun b o hb ho z => by
      subst z
      obtain ⟨o', q⟩ := there b o hb ho
      rw [hBa] at q; cases q
    have fields : ∃ oe vs, h4.get? a = some oe ∧ oe.data = .fields vs := by
      obtain ⟨oe, vs, q1, _, q2, _⟩ := fl4.first
      exact ⟨oe, vs, q1, q2⟩
    have nfr : a ∉ frs (X.env :: X.outer) := fun hm => by
      obtain ⟨_, o2, q2, nf⟩ := fl4.2.2.1.mem (b := a) hm
      obtain ⟨oe, vs, q3, q4⟩ := fields
      rw [q3] at q2; cases q2
      exact nf vs q4
    have hL : a ≠ X.env.locals := fun z => nfr (by
      unfold frs
      rw [List.filterMap_cons, hF]
      exact z ▸ List.mem_cons_self)
    have inS : ∀ b o, s1.heap.get? b = some o → b ≠ a := fun b o hb => by
      by_cases ho : b ∈ frs (X.env :: X.outer)
      · exact fun z => nfr (z ▸ ho)
      · exact inB b o hb ho
    refine J.track hna ?_ hL (fun x c hc => ?_) (fun p hp => ?_) ⟨ex4, ?_, fun g1 g2 ⟨o, q1, q2⟩ k => ⟨o, k o q1, q2⟩⟩
    · cases q : X.s₀.heap.get? a with
      | none => rfl
      | some o =>
        obtain ⟨o', q'⟩ := I1.base.there a o q (by rw [hX]; simp)
        exact absurd rfl (inS a o' q')
    · obtain ⟨v, o, q, _⟩ := I1.cell x c hc
      exact inS c o q
    · exact inS _ _ (I1.pin p hp).1
    · obtain ⟨o, q, _⟩ := ex4
      exact ⟨o, q⟩
  have J3 := back h3 fl3 (up2.trans up3)
  refine wpAny_handleBy_cons (codeAny_handlers_test ?_) (by intro q; cases q)
  refine ld_glob (X := X.inX (.ref a)) (J3.inX _) hg hm ?_ hdb
  refine (exm_one J3.kIn (ExcAt.ty fl3.there _) hex).here ?_
  show codeAny _ _ _ _ _
  refine codeAny_handlers_suite_as ?_
  refine wpAny_setFlight_noneW fl3.1 fl3.2.2.1 fl3.2.2.2 fun h5 k1 k2 k3 k4 => ?_
  have fl5 : Heap.FlyingW B (X.env :: X.outer) a (.ref C) (.ref t) h5 := ⟨k1, hBa, k2, k3⟩
  have J5 := back h5 fl5 ((up2.trans up3).trans fun b o hb hn => ⟨o.slots, k4 b o hb hn⟩)
  refine store_ok (X := X.inX (.ref a)) (v := .ref a) (J5.inX _) hN hi (.inl hn) rfl (fun s6 J6 => ?_) (.inr hn)
  have ass : PS (X.inX (.ref a)) (.Assign [.Name z zp] (.Name n np) ap) (tAsg (tVar i) (gName j)) := ps_set (X := X.inX (.ref a)) hN hj (.inl hz) (pe_var (X := X.inX (.ref a)) hi (.inl hn) hdn hcn) (hs .none) (.inr hz)
  refine wpAny_execs_cons (wpAny_mono (ass pins s6 (σ.set i (some (.ref a))) (upd H' a (excO a C)) { nx := fun σ' H2 => σ' = (σ.set i (some (.ref a))).set j (some (.ref a)) ∧ H2 = upd H' a (excO a C), rt := fun _ _ => False } J6 ?_) (fun f s7 q => ?_) fun _ _ z => False.elim z)
  · have hil : i < σ.length := by rw [J5.len]; exact (List.getElem?_eq_some_iff.mp hi).1
    exact ⟨.ref a, by rw [List.getElem?_set]; simp [hil], rfl, rfl⟩
  cases f with
  | ret v => obtain ⟨_, _, _, _, _, q⟩ := q; exact q.elim
  | brk => obtain ⟨_, _, _, q⟩ := q; exact q.elim
  | cont => obtain ⟨_, _, _, q⟩ := q; exact q.elim
  | next =>
    obtain ⟨σ7, H7, J7, e7, e8⟩ := q
    subst e7 e8
    refine wpAny_execs_nil ?_
    show wpAny _ _ _ _ _ _
    refine name_goes (Inv.outX I1.ok J7) hN hi hn fun s8 J8 => ?_
    refine ⟨_, _, J8, ?_⟩
    rw [List.set_comm _ _ (Ne.symm hij), List.set_set]
    exact hnx
end L2
set_option Elab.async false
set_option linter.all false
set_option autoImplicit false
set_option maxRecDepth 100000
set_option maxHeartbeats 1000000
namespace L2
open PySem PySem.Spec PyProof.Rows
abbrev ASpX := List AV → Om → (AV → Om → Prop) → (Addr → Om → Prop) → Prop
def LX (F : Fs) (H : Hp) (ω : Om) (Ex : Addr → Om → Prop) (E : XK) : Prop := ∀ C ω' a H', Rep F H' ω' → Fr F H ω H' ω' → Ex C ω' → E (.ref a) (some C) H'
theorem LX.fr {F : Fs} {H H1 : Hp} {ω ω1 : Om} {Ex : Addr → Om → Prop} {E : XK} (k : LX F H ω Ex E) (f : Fr F H ω H1 ω1) : LX F H1 ω1 Ex E := fun C ω' a H' rp fr q => k C ω' a H' rp (f.trans fr) q
def liftX (sp : ASpX) : Sp := fun vs H Q E => ∃ (F : Fs) (xs : List AV) (ω : Om) (Q' : AV → Om → Prop) (Ex : Addr → Om → Prop), Rep F H ω ∧ RVs (cut F H ω) xs vs ∧ sp xs ω Q' Ex ∧ LP RV F H ω Q' Q ∧ LX F H ω Ex E
def spN (sp : ASpX) : ASp := fun xs ω Q => sp xs ω Q fun _ _ => False
theorem FnOk.calm {P : Program} {w : World} {K : PySem.W.Frag} {mg : Str → Option Value} {base : Heap} {k : Nat} {f : Addr} {fd : FuncData} {ps : List Str} {sp : ASpX} (F : FnOk P w K mg base (CXx P w) k f fd ps (liftX sp)) : FnOk P w K mg base CX0 k f fd ps (lift (spN sp)) := by
  refine ⟨fun vs H Q E h => ?_, fun A outer s H args us vs Q E hr he hb hv h => ?_⟩
  · obtain ⟨F', xs, ω, Q', rp, rv, h, kq⟩ := h
    exact F.len vs H Q (fun _ _ _ => False) ⟨F', xs, ω, Q', _, rp, rv, h, kq, fun _ _ _ _ _ _ z => z⟩
  · obtain ⟨F', xs, ω, Q', rp, rv, h, kq⟩ := h
    refine codeAny_mono (F.run A outer s H args us vs Q (fun _ _ _ => False) hr he hb hv ⟨F', xs, ω, Q', _, rp, rv, h, kq, fun _ _ _ _ _ _ z => z⟩) fun r s' q => ?_
    cases r with
    | error e =>
      obtain ⟨_, _, _, _, _, _, _, _, _, _, _, _, _, z⟩ := q
      exact z.elim
    | ok fl => cases fl <;> exact q
abbrev AXS := AEnds → (Addr → Om → Prop) → SA → Om → Prop
structure RefSX (E : XK) (t : TS) (t' : AXS) : Prop where
  run : ∀ (F : Fs) (H : Hp) (ω : Om) (σ : St) (ρ : SA) (D : Ends) (D' : AEnds) (Ex : Addr → Om → Prop), Rep F H ω → RS (cut F H ω) ρ σ → t' D' Ex ρ ω → LE F H ω D' D → LX F H ω Ex E → t D σ H
def axOf (t : AS) : AXS := fun D _ ρ ω => t D ρ ω
def axSeq (t u : AXS) : AXS := fun D Ex ρ ω => t { D with nx := u D Ex } Ex ρ ω
def axIf (c : AT) (t u : AXS) : AXS := fun D Ex ρ ω => c ρ ω fun b ω1 => if b = true then t D Ex ρ ω1 else u D Ex ρ ω1
def axRaise (C : Addr) (ta : AA) : AXS := fun _ Ex ρ ω => ta ρ ω fun xs ω1 => xs.length ≤ 1000 ∧ Ex C ω1
def axAsg (sp : ASpX) (ta : AA) (i : Nat) : AXS := fun D Ex ρ ω => ta ρ ω fun xs ω1 => sp xs ω1 (fun v ω2 => D.nx (ρ.set i (some v)) ω2) Ex
def axRet (sp : ASpX) (ta : AA) : AXS := fun D Ex ρ ω => ta ρ ω fun xs ω1 => sp xs ω1 D.rt Ex
theorem axOf_eq (t : AS) (D : AEnds) (Ex : Addr → Om → Prop) (ρ : SA) (ω : Om) : axOf t D Ex ρ ω = t D ρ ω := rfl
theorem axSeq_eq (t u : AXS) (D : AEnds) (Ex : Addr → Om → Prop) (ρ : SA) (ω : Om) : axSeq t u D Ex ρ ω = t { D with nx := u D Ex } Ex ρ ω := rfl
theorem axIf_eq (c : AT) (t u : AXS) (D : AEnds) (Ex : Addr → Om → Prop) (ρ : SA) (ω : Om) : axIf c t u D Ex ρ ω = c ρ ω fun b ω1 => if b = true then t D Ex ρ ω1 else u D Ex ρ ω1 := rfl
theorem axRaise_eq (C : Addr) (ta : AA) (D : AEnds) (Ex : Addr → Om → Prop) (ρ : SA) (ω : Om) : axRaise C ta D Ex ρ ω = ta ρ ω fun xs ω1 => xs.length ≤ 1000 ∧ Ex C ω1 := rfl
theorem axAsg_eq (sp : ASpX) (ta : AA) (i : Nat) (D : AEnds) (Ex : Addr → Om → Prop) (ρ : SA) (ω : Om) : axAsg sp ta i D Ex ρ ω = ta ρ ω fun xs ω1 => sp xs ω1 (fun v ω2 => D.nx (ρ.set i (some v)) ω2) Ex := rfl
theorem axRet_eq (sp : ASpX) (ta : AA) (D : AEnds) (Ex : Addr → Om → Prop) (ρ : SA) (ω : Om) : axRet sp ta D Ex ρ ω = ta ρ ω fun xs ω1 => sp xs ω1 D.rt Ex := rfl
section
variable {E : XK} {t u : TS} {t' u' : AXS} {ta : TA} {ta' : AA} {tc : TT} {tc' : AT} {sp : ASpX} {C : Addr}
theorem x_of {a : AS} (h : RefS t a) : RefSX E t (axOf a) := ⟨fun F H ω σ ρ D D' Ex rp rs w k kx => h.run F H ω σ ρ D D' rp rs w k⟩
theorem x_seq (h1 : RefSX E t t') (h2 : RefSX E u u') : RefSX E (tSeq t u) (axSeq t' u') := ⟨fun F H ω σ ρ D D' Ex rp rs h k kx =>
  h1.run F H ω σ ρ _ _ Ex rp rs h ⟨fun ρ1 ω1 σ1 H1 rp1 fr1 rs1 q => h2.run F H1 ω1 σ1 ρ1 D D' Ex rp1 rs1 q (k.fr fr1) (kx.fr fr1), k.rt, k.bk, k.ct⟩ kx⟩
theorem x_if (hc : RefT tc tc') (h1 : RefSX E t t') (h2 : RefSX E u u') : RefSX E (tIfS tc t u) (axIf tc' t' u') := ⟨fun F H ω σ ρ D D' Ex rp rs w k kx =>
  hc.go rp rs w fun a ω1 v H1 rp1 fr1 rs1 rv q => by
    cases (show a = v from rv)
    cases a with
    | true => rw [if_pos rfl] at q ⊢; exact h1.run F H1 ω1 σ ρ D D' Ex rp1 rs1 q (k.fr fr1) (kx.fr fr1)
    | false => rw [if_neg Bool.false_ne_true] at q ⊢; exact h2.run F H1 ω1 σ ρ D D' Ex rp1 rs1 q (k.fr fr1) (kx.fr fr1)⟩
theorem x_raise (ha : RefA ta ta') : RefSX E (tRaise C E ta) (axRaise C ta') := ⟨fun F H ω σ ρ D D' Ex rp rs w k kx =>
  ha.go rp rs w fun xs ω1 vs H1 rp1 fr1 rs1 rv q => ⟨by rw [rv.length]; exact q.1, fun e => kx C ω1 e H1 rp1 fr1 q.2⟩⟩
end
theorem PS.nox {X : Cx} {st : Stmt} {t : TS} (h : PS X.nox st t) : PS X st t := .mk <| fun pins s σ H D I hw =>
  wpAny_mono (h pins s σ H D (I.wish _) hw) (fun _ _ q => q.unwish) fun _ _ z => False.elim z
theorem PA.nox {X : Cx} {es : List Expr} {t : TA} (h : PA X.nox es t) : PA X es t := .mk <| fun pos pins s σ H Q I hw =>
  wpAny_mono (h pos pins s σ H Q (I.wish _) hw) (fun _ _ ⟨v, H', I', r, q⟩ => ⟨v, H', I'.unwish, r, q⟩) fun _ _ z => False.elim z
theorem Fun.okX {P : Program} {w : World} {K : PySem.W.Frag} {mg : Str → Option Value} {base : Heap} {x qual : Str} {st : Stmt} {f : Addr} {fd : FuncData} {N ps : List Str} {k : Nat} {sp : ASpX} (F : Fun K x qual st f fd) (S : FnScope N ps (defScope st)) (len : ∀ xs ω Q Ex, sp xs ω Q Ex → xs.length = ps.length)
    (hbody : ∀ (cdv : Value) (A : Around) (outer : List Env) (s : Shared) (H : Hp) (E : XK), Room k (A.deeper (envOfC qual (defScope st) s.heap.objs.size f cdv)) →
      ∃ t t', PSs (cxOf (CXx P w) P w K mg base N qual (defScope st) f cdv A outer s H E) (defBody st) t ∧ RefSX E t t' ∧ ∀ xs ω Q' Ex, sp xs ω Q' Ex → t' { nx := fun _ ω' => Q' (.d .non) (ω'.only ω), rt := fun a ω' => ∃ d, a = .d d ∧ Q' (.d d) (ω'.only ω) } (fun C ω' => Ex C (ω'.only ω)) (startA N xs) ω) : FnOk P w K mg base (CXx P w) (k + 1) f fd ps (liftX sp) := by
  obtain ⟨oc, od, kV, doc, pm, an, cdv, ct, osl, rfl, lk, hcd⟩ := F.ex
  refine fn_of lk hcd S (fun vs H Q E h => ?_) (fun A outer s H vs Q E hr h => ?_)
  · obtain ⟨F', xs, ω, Q', Ex, rp, rv, h, _⟩ := h
    rw [rv.length, len xs ω Q' Ex h]
  · obtain ⟨t, t', h1, h2, h3⟩ := hbody cdv A outer s H E hr
    obtain ⟨F', xs, ω, Q', Ex, rp, rv, h, kq, kx⟩ := h
    refine ⟨t, h1, h2.run F' H ω _ _ _ _ _ rp (RS.start rv) (h3 xs ω Q' Ex h) ⟨?_, ?_, fun _ _ _ _ _ _ _ z => z.elim, fun _ _ _ _ _ _ _ z => z.elim⟩ ?_⟩
    · exact fun ρ' ω' σ' H' e1 e2 e3 q => kq (.d .non) (ω'.only ω) .non H' e1.only.1 e2.only (by simp [RV, Dat]) q
    · rintro a ω' v H' e1 e2 e3 ⟨d, rfl, q⟩
      exact kq (.d d) (ω'.only ω) v H' e1.only.1 e2.only (e3.same e1.only.2) q
    · exact fun C ω' a H' e1 e2 q => kx C (ω'.only ω) a H' e1.only.1 e2.only q
def excA (a C : Addr) : AV := .p (.ref a) (fun G => G a = some (excO a C))
def aTry (K : PySem.W.Frag) (T : Addr) (i j : Nat) (y : Option Nat) (sp : ASpX) (ta : AA) : AS := fun D ρ ω => ta ρ ω fun xs ω1 => sp xs ω1 (fun v ω2 => D.nx (match y with | none => ρ | some k => ρ.set k (some v)) ω2)
  (fun c ω2 => PySem.W.exmOne K (.ref c) (.ref T) = some true ∧ ∀ a, D.nx ((ρ.set i none).set j (some (excA a c))) ω2)
theorem aTryN_eq (K : PySem.W.Frag) (T : Addr) (i j : Nat) (sp : ASpX) (ta : AA) (D : AEnds) (ρ : SA) (ω : Om) : aTry K T i j none sp ta D ρ ω = ta ρ ω fun xs ω1 => sp xs ω1 (fun v ω2 => D.nx ρ ω2) (fun c ω2 => PySem.W.exmOne K (.ref c) (.ref T) = some true ∧ ∀ a, D.nx ((ρ.set i none).set j (some (excA a c))) ω2) := rfl
theorem aTryS_eq (K : PySem.W.Frag) (T : Addr) (i j k : Nat) (sp : ASpX) (ta : AA) (D : AEnds) (ρ : SA) (ω : Om) : aTry K T i j (some k) sp ta D ρ ω = ta ρ ω fun xs ω1 => sp xs ω1 (fun v ω2 => D.nx (ρ.set k (some v)) ω2) (fun c ω2 => PySem.W.exmOne K (.ref c) (.ref T) = some true ∧ ∀ a, D.nx ((ρ.set i none).set j (some (excA a c))) ω2) := rfl
theorem RS.setN {G : Hp} {ρ : SA} {σ : St} {i : Nat} (h : RS G ρ σ) : RS G (ρ.set i none) (σ.set i none) := by
  refine ⟨by simp [h.1], fun j b e => ?_⟩
  by_cases hj : j = i
  · subst hj
    rw [List.getElem?_set] at e
    simp only [if_true] at e
    split at e <;> cases e
  · rw [List.getElem?_set_ne (Ne.symm hj)] at e
    rw [List.getElem?_set_ne (Ne.symm hj)]
    exact h.2 j b e
section
variable {K : PySem.W.Frag} {T : Addr} {i j : Nat} {sp : ASpX} {ta : TA} {ta' : AA}
theorem LE.caught {F : Fs} {H H1 : Hp} {ω ω1 : Om} {σ : St} {ρ : SA} {D : Ends} {D' : AEnds} (k : LE F H ω D' D) (fr1 : Fr F H ω H1 ω1) (rs1 : RS (cut F H1 ω1) ρ σ) :
    LX F H1 ω1 (fun c ω2 => PySem.W.exmOne K (.ref c) (.ref T) = some true ∧ ∀ a, D'.nx ((ρ.set i none).set j (some (excA a c))) ω2) (fun x C H' => ∀ a c, x = .ref a → C = some c → H' a = none → PySem.W.exmOne K (.ref c) (.ref T) = some true ∧ D.nx ((σ.set i none).set j (some (.ref a))) (upd H' a (excO a c))) := by
  intro C ω2 a H2 rp2 fr2 q a' c' e1 e2 hn
  cases e1
  cases e2
  obtain ⟨rp3, fr3, hc⟩ := rp2.lay (o := excO a C) hn
  have rx : RV (cut F (upd H2 a (excO a C)) ω2) (excA a C) (.ref a) := ⟨rfl, fun G' s => s _ _ hc⟩
  exact ⟨q.1, k.nx _ ω2 _ _ rp3 ((fr1.trans fr2).trans fr3) (((rs1.same fr2.same).same fr3.same).setN.set rx) (q.2 a)⟩
end
def isXA (K : PySem.W.Frag) (f : Value → Option Bool) (x : AV) (b : Bool) : Prop := (x = .d .non ∧ f (.type "NoneType") = some b) ∨ ∃ a C, x = excA a C ∧ excOk K C = true ∧ f (.ref C) = some b
theorem isXA.of {K : PySem.W.Frag} {f : Value → Option Bool} {x : AV} {b : Bool} {F : Fs} {H : Hp} {ω : Om} {v : V} (h : isXA K f x b) (r : RV (cut F H ω) x v) : isX K H f v b := by
  rcases h with ⟨rfl, hb⟩ | ⟨a, C, rfl, ok, hb⟩
  · exact .inl ⟨rv_non r, hb⟩
  · obtain ⟨rfl, h2⟩ := r
    exact .inr ⟨a, C, rfl, (cut_some.mp (h2 _ (Same.refl _))).2.2, ok, hb⟩
theorem isXA_exc {K : PySem.W.Frag} {f : Value → Option Bool} {b : Bool} {a C : Addr} (ok : excOk K C = true) (h : f (.ref C) = some b) : isXA K f (excA a C) b := .inr ⟨a, C, rfl, ok, h⟩
def aIsX (K : PySem.W.Frag) : AC := fun xs ω Q => ∃ x c cv b, xs = [x, .r c] ∧ clV c = some cv ∧ isXA K (fun t => PySem.W.kitOne K t cv) x b ∧ Q (.d (.bl b)) ω
theorem aIsX_eq (K : PySem.W.Frag) (xs : List AV) (ω : Om) (Q : AV → Om → Prop) : aIsX K xs ω Q = ∃ x c cv b, xs = [x, .r c] ∧ clV c = some cv ∧ isXA K (fun t => PySem.W.kitOne K t cv) x b ∧ Q (.d (.bl b)) ω := rfl
theorem c_isX {K : PySem.W.Frag} : RefC (rIsX K) (aIsX K) := ⟨fun F H ω vs xs Q Q' rp rv ⟨x, c, cv, b, e, h1, h2, q⟩ k => by
  subst e
  obtain ⟨v, u, rfl, r1, r2⟩ := rvs2 rv
  have e2 : u = c := r2
  rw [e2]
  exact ⟨v, c, cv, b, rfl, h1, h2.of r1, k.bl rp q⟩⟩
def aIsXT (K : PySem.W.Frag) (tx : AE) (tcs : AA) : AE := fun ρ ω Q => tx ρ ω fun x ω1 => tcs ρ ω1 fun cs ω2 => ∃ vs cvs b, cs = vs.map AV.r ∧ vs.length ≤ 1000 ∧ clVs vs = some cvs ∧ isXA K (fun t => PySem.W.kitAny K t cvs) x b ∧ Q (.d (.bl b)) ω2
theorem aIsXT_eq (K : PySem.W.Frag) (tx : AE) (tcs : AA) (ρ : SA) (ω : Om) (Q : AV → Om → Prop) : aIsXT K tx tcs ρ ω Q = tx ρ ω fun x ω1 => tcs ρ ω1 fun cs ω2 => ∃ vs cvs b, cs = vs.map AV.r ∧ vs.length ≤ 1000 ∧ clVs vs = some cvs ∧ isXA K (fun t => PySem.W.kitAny K t cvs) x b ∧ Q (.d (.bl b)) ω2 := rfl
theorem rvs_raw {G : Hp} : ∀ {vs us : List V}, RVs G (vs.map AV.r) us → us = vs
  | [], us, h => h
  | v :: vs, us, h => by
    obtain ⟨u, r, rfl, h1, h2⟩ := h
    cases (show u = v from h1)
    rw [rvs_raw h2]
theorem e_isXT {K : PySem.W.Frag} {tx : TE} {tx' : AE} {tcs : TA} {tcs' : AA} (hx : RefE tx tx') (hc : RefA tcs tcs') : RefE (tCB (rIsXT K) (tCons tx (tCons (tTup tcs) tNil))) (aIsXT K tx' tcs') := ⟨fun F H ω σ ρ Q Q' rp rs w k =>
  hx.go rp rs w fun x ω1 v H1 rp1 fr1 rs1 rv1 q1 => hc.go rp1 rs1 q1 fun cs ω2 us H2 rp2 fr2 rs2 rv2 ⟨vs, cvs, b, e, hl, h1, h2, q⟩ => by
    subst e
    cases rvs_raw rv2
    refine ⟨Nat.le_of_lt (small1000 hl), fun p hp => ?_⟩
    obtain ⟨rp3, fr3, hc3⟩ := rp2.lay (o := .tup us) hp
    exact ⟨v, p, us, cvs, b, rfl, upd_same, h1, h2.of (rv1.same (fr2.trans fr3).same), (k.fr ((fr1.trans fr2).trans fr3)).bl rp3 q⟩⟩
theorem exc_in {K : PySem.W.Frag} {D : Addr} (h : excOk K D = true) : PySem.W.excIn K D vErr "ValueError.__new__" = true := by
  unfold excOk at h
  simp only [Bool.and_eq_true] at h
  exact h.2
def nonA : AV → Option Bool
  | .d a => some (eqD a .non)
  | .p (.ref _) _ => some false
  | _ => none
def aIsNX (neg : Bool) : A2 := fun x y ω Q => ∃ b, nonA x = some b ∧ y = .d .non ∧ Q (.d (.bl (if neg then !b else b))) ω
theorem aIsNX_eq (neg : Bool) (x y : AV) (ω : Om) (Q : AV → Om → Prop) : aIsNX neg x y ω Q = ∃ b, nonA x = some b ∧ y = .d .non ∧ Q (.d (.bl (if neg then !b else b))) ω := rfl
theorem nonA_d (a : D) : nonA (.d a) = some (eqD a .non) := rfl
theorem nonA_x (a C : Addr) : nonA (excA a C) = some false := rfl
theorem RVs.cut {G : Hp} {xs : List AV} {vs : List V} {lo hi : Option Int} (h : RVs G xs vs) : RVs G (cutL xs lo hi) (cutV vs lo hi) := by
  unfold cutL cutV
  rw [h.length]
  exact (RVs.takeA _ (RVs.takeA _ h).2).1
def aSlO (te : AE) (tl th : AO) : AE := fun ρ ω Q => te ρ ω fun x ω1 => tl ρ ω1 fun lo ω2 => th ρ ω2 fun hi ω3 => ∃ xs, lstA ω3 x = some xs ∧ ∀ p, ω3 p = none → Q (.r (.ref p)) (ω3.put p (.own (cutL xs lo hi)))
theorem aSlO_eq (te : AE) (tl th : AO) (ρ : SA) (ω : Om) (Q : AV → Om → Prop) : aSlO te tl th ρ ω Q = te ρ ω fun x ω1 => tl ρ ω1 fun lo ω2 => th ρ ω2 fun hi ω3 => ∃ xs, lstA ω3 x = some xs ∧ ∀ p, ω3 p = none → Q (.r (.ref p)) (ω3.put p (.own (cutL xs lo hi))) := rfl
def aSortedE : AC := fun xs ω Q => ∃ (x : AV) (W : List (List Int)), xs = [x] ∧ datA ω x = some (.lst (W.map wdD)) ∧ (2 ≤ W.length → ∀ y ∈ W, y ≠ []) ∧ W.length < 64 ∧ Q (.d (.lst ((srtW W).map wdD))) ω
theorem aSortedE_eq (xs : List AV) (ω : Om) (Q : AV → Om → Prop) : aSortedE xs ω Q = ∃ (x : AV) (W : List (List Int)), xs = [x] ∧ datA ω x = some (.lst (W.map wdD)) ∧ (2 ≤ W.length → ∀ y ∈ W, y ≠ []) ∧ W.length < 64 ∧ Q (.d (.lst ((srtW W).map wdD))) ω := rfl
end L2
set_option Elab.async false
set_option linter.all false
set_option autoImplicit false
set_option maxRecDepth 100000
set_option maxHeartbeats 1000000
namespace L2
open PySem PySem.Spec PySem.Calls PyProof.Rows PySem.W
theorem pass_gen {X : Cx} {en : Env} {E : XK} (hS : X.stack = en :: X.outer) (hF : en.frame = some X.s₀.heap.objs.size) (hX : X.ex = [])
    {pins : List (Addr × Obj)} {σ : St} {H : Hp} {s1 : Shared} {e : Value} {s2 : Shared} (I : Inv X pins σ H s1) (hc : CXx X.prog X.w X.stack H s1 E e s2) :
    wpAny (model X.prog X.w) X.A (leaving en e) (fun _ s'' => CXx X.prog X.w X.outer X.H₀ X.s₀ E e s'') (fun e' s'' => CXx X.prog X.w X.outer X.H₀ X.s₀ E e' s'') s2 := by
  obtain ⟨a, C, t, H', B, rfl, os, bare, un, hok, fl, keep, there, hE⟩ := hc
  rw [hS] at un fl keep there
  have hfr : X.A.frames = some (en :: X.outer) := by rw [← hS]; exact I.ok.frames
  have hst : s1.heap.FunFrames X.base (en :: X.outer) := by rw [← hS]; exact I.stack
  have nex : ∀ b : Addr, b ∉ X.ex := fun b z => absurd (show b ∈ ([] : List Addr) from hX ▸ z) (by simp)
  have hfs : ∀ b, b ∈ frs (en :: X.outer) → b = X.s₀.heap.objs.size ∨ b ∈ frs X.outer := fun b hb => by
    obtain ⟨env, he, hf⟩ := List.mem_filterMap.mp hb
    rcases List.mem_cons.mp he with rfl | he
    · rw [hF] at hf; exact .inl (Option.some.inj hf).symm
    · exact .inr (List.mem_filterMap.mpr ⟨env, he, hf⟩)
  have lt0 : ∀ b o, X.s₀.heap.get? b = some o → b ≠ X.s₀.heap.objs.size := fun b o hb => Nat.ne_of_lt (Heap.lt_size hb)
  have nfs : ∀ b o, X.s₀.heap.get? b = some o → b ∉ frs X.outer → b ∉ frs (en :: X.outer) := fun b o hb ho hm => (hfs b hm).elim (lt0 b o hb) ho
  have up : ∀ b, b ∈ frs X.outer → b ∈ frs (en :: X.outer) := fun b ho => by
    obtain ⟨env, he, hf⟩ := List.mem_filterMap.mp ho
    exact List.mem_filterMap.mpr ⟨env, List.mem_cons_of_mem _ he, hf⟩
  refine wpAny_leaves_onW hfr hF fl fun h' x1 x2 => ?_
  have stay := x1.1
  have keep' : ∀ b o, X.s₀.heap.get? b = some o → X.H₀ b = none → b ∉ frs X.outer → B.get? b = some o := fun b o hb hn ho => keep b o (I.base.keep b o hb hn ho (nex b)) (I.base.free b o hb hn (nex b)) (nfs b o hb ho)
  have there' : ∀ b o, X.s₀.heap.get? b = some o → b ∉ frs X.outer → ∃ o', B.get? b = some o' := fun b o hb ho => by
    obtain ⟨o1, q⟩ := I.base.there b o hb (nex b)
    exact there b o1 q (nfs b o hb ho)
  have slot : ∀ b o, X.s₀.heap.get? b = some o → X.H₀ b = none → b ∈ frs X.outer → ∃ sl, h'.get? b = some { o with slots := sl } := fun b o hb hn ho => by
    obtain ⟨sl, q⟩ := I.base.slot b o hb hn ho (nex b)
    obtain ⟨_, o2, q2, nf⟩ := hst.mem (b := b) (up b ho)
    rw [q] at q2
    cases q2
    obtain ⟨sl1, q1⟩ := un.slot b _ q (I.base.free b o hb hn (nex b)) (up b ho) (by simp)
    obtain ⟨sl2, q3⟩ := x2 b _ q1 nf
    exact ⟨sl2, q3⟩
  refine ⟨a, C, t, H', B, rfl, os.trans I.os, bare, ⟨fun b o hb hn ho _ => stay b o (keep' b o hb hn ho), fun b o hb hn ho _ => slot b o hb hn ho, fun b o hb hn _ => ?_, fun b o hb _ => ?_, fun b xs q => un.tups b xs (I.base.tups b xs q), fun b o u q => un.frzs b o u (I.base.frzs b o u q), fun b ps q => ?_⟩, hok, x1, keep', there', hE⟩
  · obtain ⟨o1, q⟩ := I.base.there b o hb (nex b)
    exact un.free b o1 q (I.base.free b o hb hn (nex b)) (by simp)
  · by_cases ho : b ∈ frs X.outer
    · obtain ⟨sl, q⟩ := slot b o hb (I.ok.frf b ho) ho
      exact ⟨_, q⟩
    · obtain ⟨o', q⟩ := there' b o hb ho
      exact ⟨o', stay b o' q⟩
  · obtain ⟨m1, q1⟩ := I.base.tbls b ps q
    obtain ⟨m2, q2⟩ := un.tbls b _ q1
    exact ⟨m1 ++ m2, by rw [q2, Array.append_assoc]⟩
structure CloX (P : Program) (w : World) (K : PySem.W.Frag) (mg : Str → Option Value) (base : Heap) (H₀ : Hp) (k : Nat) (f : Addr) (n : Nat) (sp : Sp) : Prop where
  fn : ∃ (oc : Value) (od : Option Addr) (fd : FuncData) (sl : Array (Option Value)) (u : HO), H₀ f = some (.frz ⟨oc, od, .func fd, sl⟩ u)
  len : ∀ vs H Q E, sp vs H Q E → vs.length = n
  run : ∀ (A : Around) (outer : List Env) (s : Shared) (H : Hp) (us : List Value) (vs : List V) (Q : VK) (E : XK), Room k A → Env0 P w K mg base A outer s H → Frz H₀ H → Vals vs us → sp vs H Q E →
    codeAny (model P w) A (.call (.ref f) ⟨us, []⟩) (CR (CXx P w) outer P w H s Q E) s
def tCallVX (X : Cx) (k i : Nat) (E : XK) : TE := fun σ H Q => ∃ f sp, σ[i]? = some (some (.ref f)) ∧ CloX X.prog X.w X.K X.mg X.base X.H₀ k f 0 sp ∧ sp [] H Q E
theorem pex_callV0 {X : Cx} {k i : Nat} {x : Str} {p pos : Pos} (hr : Room k X.A) (hN : X.N[i]? = some x) (hv : Vis X.env.scope x) (hd : (x == ("__debug__" : Str)) = false := by decide) (hcd : (x == ("__classdict__" : Str)) = false := by decide) :
    PEX X (CXx X.prog X.w) (.Call (.Name x p) [] [] pos) (tCallVX X k i) := by
  intro pins s σ H Q E I h
  obtain ⟨f, sp, ev, C, h⟩ := h
  have at' : ∀ {σ1 : St} {H1 : Hp} {s1 : Shared}, Inv X pins σ1 H1 s1 → PySem.W.FnAt f s1.heap := fun {σ1 H1 s1} J => by
    obtain ⟨oc, od, fd, sl, u, q⟩ := C.fn
    exact ⟨oc, od, fd, sl, (J.hok _ _ (J.base.frzs _ _ _ q)).1⟩
  refine wpAny_Call_Name_kw (wpAny_mono (pe_var (X := X.nox) hN hv hd hcd pins s σ H (fun v H1 => v = .ref f ∧ H1 = H) (I.wish _) ⟨_, ev, rfl, rfl⟩) (fun u s1 ⟨v, H1, I1, r, e1, e2⟩ => ?_) fun _ _ z => False.elim z)
  subst e1 e2
  have I1 := I1.unwish
  obtain rfl : u = Value.ref f := r
  refine PySem.W.callWith_F0 (at' I1) ?_
  rw [List.append_nil]
  refine wpAny_call (codeAny_mono (C.run X.A X.stack s1 H1 [] [] Q E hr I1.env0 (fun b o u q => I1.base.frzs b o u q) .nil h) fun r s' hq => ?_)
  cases r with
  | error e => exact ⟨H1, s1, I1, hq⟩
  | ok fl =>
    cases fl with
    | ret u => exact I1.after hq
    | next => exact False.elim hq
    | brk => exact False.elim hq
    | cont => exact False.elim hq
theorem clo_ofX {P : Program} {w : World} {K : PySem.W.Frag} {mg : Str → Option Value} {base : Heap} {H₀ : Hp} {k : Nat} {f : Addr} {q : Str} {params : Arguments} {body : Expr} {scope : Scope} {cl : List (Str × Addr)} {ps cs : List Str} {caps : List V} {sp : Sp}
    (L : LamAt H₀ f q params body scope cl) (S : LamScope ps cs scope) (C : CapOk base cl cs caps)
    (hb : ∀ (pm : Value) (c : Addr) (ctv : Value) (us : List Value), us.length = ps.length → bindArgs (PySem.W.kla_fn "<lambda>" q params body scope cl pm (.ref c) ctv) ⟨us, []⟩ = pure (ps.zip us))
    (len : ∀ vs H Q E, sp vs H Q E → vs.length = ps.length)
    (hbody : ∀ (cd : Value) (A : Around) (outer : List Env) (s : Shared) (H : Hp) (vs : List V) (Q : VK) (E : XK), Room k (A.deeper (PySem.W.envX q scope s.heap.objs.size f cd cl)) → sp vs H Q E →
      ∃ t, PEX (cxLam P w K mg base (ps ++ cs) q scope f cd cl A outer s H) (CXx P w) body t ∧ t E ((vs ++ caps).map some) H Q) : CloX P w K mg base H₀ (k + 1) f ps.length sp := by
  obtain ⟨pm, c, ctv, oc, vc, tc, u1, u2, e1, e2, e3, e4⟩ := L
  refine ⟨⟨_, _, _, _, _, e1⟩, len, fun A outer s H us vs Q E hr e0 hF r hsp => ?_⟩
  have hl := len _ _ _ _ hsp
  have hlu : us.length = ps.length := r.length.symm.trans hl
  have f1 := (e0.hok _ _ (hF _ _ _ e1)).1
  have f2 := (e0.hok _ _ (hF _ _ _ e2)).1
  have lim : s.heap.NoLimit := e0.mod.nolimit.keeps fun b o e => (e0.bs b o e).1
  have nps : ps.Nodup := S.nd.sublist (List.sublist_append_left _ _)
  refine PySem.W.kla_callFunE hr.depth f1 rfl S.co S.gen rfl ⟨c, oc, vc, tc, rfl, f2, e3, e4⟩ ?_
  rw [hb pm c ctv us hlu]
  refine wpAny_pure (wpAny_newFunctionEnv (fun y hy => (S.has y hy).1) (fun y hy => S.par y.1 (List.of_mem_zip (a := y.1) (b := y.2) hy).1) (fun h₁ hns hsb => ⟨lim.fresh _ hsb, ?_⟩) S.kind)
  show codeAny _ _ (.expr body (PySem.W.envX q scope s.heap.objs.size f (.ref c) cl)) _ _
  have hk₁ : ∀ b o, s.heap.get? b = some o → h₁.get? b = some o := fun b o e => hsb.extBut b o (Nat.ne_of_lt (Heap.lt_size e)) (Heap.get?_push_of_some _ e)
  obtain ⟨c1, c2, c3, c4⟩ := C
  obtain ⟨t, ht, hq⟩ := hbody (.ref c) A outer s H vs Q E (hr.deeper _) hsp
  have capC : ∀ x c, cl.lookup x = some c → ∃ v, base.IsCell c v := fun x c e => by
    obtain ⟨j, hj⟩ := List.getElem?_of_mem (c2 x c e)
    have hj2 : j < caps.length := by rw [c1]; exact (List.getElem?_eq_some_iff.mp hj).1
    obtain ⟨c', u, z1, z2, _⟩ := c4 j x caps[j] hj (List.getElem?_eq_getElem hj2)
    rw [e] at z1; cases z1
    exact ⟨_, z2⟩
  have noA : ∀ b : Addr, b ∉ (cxLam P w K mg base (ps ++ cs) q scope f (.ref c) cl A outer s H).ex := fun b z => absurd (show b ∈ ([] : List Addr) from z) (by simp)
  have I : Inv (cxLam P w K mg base (ps ++ cs) q scope f (.ref c) cl A outer s H) [] ((vs ++ caps).map some) H { s with heap := h₁, toks := s.toks + (ps.zip us).length } := by
    refine ⟨⟨e0.mod, S.kind, rfl, rfl, Nat.le_refl _, c3, fun y hy => ?_, fun y c h => (nomatch h), fun _ => hr.hd, Around.frames_deeper e0.frames, .inr ⟨rfl, rfl⟩, fun b z => absurd z (noA b), e0.bs, e0.bsz, fun b _ _ => noA b, fun b z => absurd z (noA b), e0.funs, e0.frf, e0.tt⟩,
      rfl, e0.bare, Un.kept hk₁, ⟨_, hns, fun i y v h1 h2 h3 => ?_⟩, fun y c h => ?_, e0.hok.fresh (Nat.le_refl _), fun y c h => ?_, fun p hp => absurd (show p ∈ ([] : List (Addr × Obj)) from hp) (by simp), e0.hok.kept hk₁, ?_⟩
    · have hy : scope.names.lookup y = some .cell ∨ scope.names.lookup y = some .free := hy
      rcases hy with hy | hy
      · exact absurd rfl (S.has _ (PySem.mem_of_lookup hy)).1
      · have hm := (S.has _ (PySem.mem_of_lookup hy)).2 rfl
        obtain ⟨j, hj⟩ := List.getElem?_of_mem hm
        have hj2 : j < caps.length := by rw [c1]; exact (List.getElem?_eq_some_iff.mp hj).1
        obtain ⟨c', u, z1, z2, _⟩ := c4 j y caps[j] hj (List.getElem?_eq_getElem hj2)
        exact ⟨c', z1⟩
    · have h1 : (ps ++ cs)[i]? = some y := h1
      rw [List.getElem?_map] at h2
      cases hv : (vs ++ caps)[i]? with
      | none => rw [hv] at h2; cases h2
      | some v' =>
        rw [hv] at h2
        cases h2
        rcases Nat.lt_or_ge i ps.length with hi | hi
        · rw [List.getElem?_append_left hi] at h1
          rw [List.getElem?_append_left (by rw [hl]; exact hi)] at hv
          obtain ⟨u, hu, ru⟩ := r.get hv
          exact ⟨u, ru, .inl ⟨S.par y (List.mem_of_getElem? h1), zip_rev_lookup nps h1 hu⟩⟩
        · rw [List.getElem?_append_right hi] at h1
          rw [List.getElem?_append_right (by rw [hl]; exact hi), hl] at hv
          obtain ⟨c', u, z1, z2, z3⟩ := c4 _ y v h1 hv
          refine ⟨u, z3, .inr ⟨.inr (S.free y (List.mem_of_getElem? h1)), c', z1, ?_⟩⟩
          obtain ⟨o, ho, hd⟩ := z2
          exact ⟨o, hk₁ _ _ (e0.bs _ _ ho).1, hd⟩
    · obtain ⟨v, o, ho, hd⟩ := capC y c h
      exact ⟨v, o, hk₁ _ _ (e0.bs _ _ ho).1, hd⟩
    · obtain ⟨v, o, ho, hd⟩ := capC y c h
      exact (e0.bs _ _ ho).2
    · show ((vs ++ caps).map some).length = (ps ++ cs).length
      rw [List.length_map, List.length_append, List.length_append, hl, c1]
  refine PySem.W.kla_codeExpr (wpAny_mono (ht [] _ _ H _ E I hq) (fun v s' ⟨v', H', J, rv, q'⟩ => ?_) fun e s' ⟨H1, s1, J, hc⟩ => ?_)
  · exact ⟨v', H', J.os, J.bare, J.base, J.hok, rv, q'⟩
  · exact pass_gen (X := cxLam P w K mg base (ps ++ cs) q scope f (.ref c) cl A outer s H) rfl rfl rfl J hc
def liftCX (caps : List V) (cA : List AV) (sp : ASpX) : Sp := fun vs H Q E => ∃ (F : Fs) (xs : List AV) (ω : Om) (Q' : AV → Om → Prop) (Ex : Addr → Om → Prop), Rep F H ω ∧ RVs (cut F H ω) xs vs ∧ RVs (cut F H ω) cA caps ∧ sp xs ω Q' Ex ∧ LP RV F H ω Q' Q ∧ LX F H ω Ex E
theorem clo_ofAX {P : Program} {w : World} {K : PySem.W.Frag} {mg : Str → Option Value} {base : Heap} {H₀ : Hp} {k : Nat} {f : Addr} {q : Str} {params : Arguments} {body : Expr} {scope : Scope} {cl : List (Str × Addr)} {ps cs : List Str} {caps : List V} {cA : List AV} {sp spf : ASpX}
    (L : LamAt H₀ f q params body scope cl) (S : LamScope ps cs scope) (C : CapOk base cl cs caps)
    (hb : ∀ (pm : Value) (c : Addr) (ctv : Value) (us : List Value), us.length = ps.length → bindArgs (PySem.W.kla_fn "<lambda>" q params body scope cl pm (.ref c) ctv) ⟨us, []⟩ = pure (ps.zip us))
    (len : ∀ xs ω Q Ex, sp xs ω Q Ex → xs.length = ps.length)
    (hbody : ∀ (cd : Value) (A : Around) (outer : List Env) (s : Shared) (H : Hp), Room k (A.deeper (PySem.W.envX q scope s.heap.objs.size f cd cl)) →
      ∃ t t', PEX (cxLam P w K mg base (ps ++ cs) q scope f cd cl A outer s H) (CXx P w) body (fun E => tCall (liftX spf) [] E t) ∧ RefA t t' ∧ ∀ xs ω Q Ex, sp xs ω Q Ex → t' ((xs ++ cA).map some) ω fun ys ω1 => spf ys ω1 Q Ex) : CloX P w K mg base H₀ (k + 1) f ps.length (liftCX caps cA sp) := by
  refine clo_ofX L S C hb (fun vs H Q E h => ?_) (fun cd A outer s H vs Q E hr h => ?_)
  · obtain ⟨F, xs, ω, Q', Ex, rp, rv, _, h, _⟩ := h
    rw [rv.length, len xs ω Q' Ex h]
  · obtain ⟨t, t', h1, h2, h3⟩ := hbody cd A outer s H hr
    obtain ⟨F, xs, ω, Q', Ex, rp, rv, rc, h, kq, kx⟩ := h
    have rs : RS (cut F H ω) ((xs ++ cA).map some) ((vs ++ caps).map some) := by
      have := rv.append rc
      refine ⟨by simp [this.length, rv.length, rc.length], fun i a e => ?_⟩
      rw [List.getElem?_map, Option.map_eq_some_iff] at e
      obtain ⟨b, hb, e⟩ := e
      cases e
      obtain ⟨v, e1, e2⟩ := this.get hb
      exact ⟨v, by rw [List.getElem?_map, e1]; rfl, e2⟩
    refine ⟨_, h1, h2.go rp rs (h3 xs ω Q' Ex h) fun ys ω1 us H1 rp1 fr1 rs1 rv1 q1 => ?_⟩
    rw [List.append_nil]
    exact ⟨F, ys, ω1, Q', Ex, rp1, rv1, q1, kq.fr fr1, kx.fr fr1⟩
def aTryV (K : PySem.W.Frag) (T : Addr) (i j m : Nat) (f : Addr) (caps : List V) (cA : List AV) (sp : ASpX) : AS := fun D ρ ω => ρ[m]? = some (some (cloA f caps cA)) ∧ sp [] ω (fun v ω2 => D.nx ρ ω2)
  (fun c ω2 => PySem.W.exmOne K (.ref c) (.ref T) = some true ∧ ∀ a, D.nx ((ρ.set i none).set j (some (excA a c))) ω2)
theorem s_tryV {X : Cx} {k : Nat} {K : PySem.W.Frag} {T : Addr} {i j m : Nat} {f : Addr} {caps : List V} {cA : List AV} {sp : ASpX} (C : CloX X.prog X.w X.K X.mg X.base X.H₀ k f 0 (liftCX caps cA sp)) : RefS (tTry K T i j fun E => tDrop (tCallVX X k m E)) (aTryV K T i j m f caps cA sp) := ⟨fun F H ω σ ρ D D' rp rs w k => by
  obtain ⟨e, w⟩ := w
  obtain ⟨v, e1, e2⟩ := rs.2 m _ e
  obtain ⟨rfl, e3⟩ := e2
  exact ⟨f, _, e1, C, F, [], ω, _, _, rp, rfl, e3 _ (Same.refl _), w, fun a ω2 v H2 rp2 fr2 rv2 q2 => k.nx _ ω2 _ H2 rp2 fr2 (rs.same fr2.same) q2, k.caught (Fr.refl) rs⟩⟩
def sp_refd (kc : Nat) (C : Addr) (d : D) (P : Program) (w : World) (K : PySem.W.Frag) (mg : Str → Option Value) (base : Heap) : Sp := fun vs H Q _ => ∃ (F : Fs) (ω : Om) (Q' : AV → Om → Prop) (f : Addr) (c : List V) (a : List AV) (s : ASpX),
  vs = [.ref f] ∧ Rep F H ω ∧ CloX P w K mg base H kc f 0 (liftCX c a s) ∧ RVs (cut F H ω) a c ∧ s [] ω (fun _ _ => False) (fun C' ω1 => C' = C ∧ Q' (.d d) (ω1.only ω)) ∧ LP RV F H ω Q' Q
def CloWX (X : Cx) (kc : Nat) (js : List Nat) (q : Str) (a : Arguments) (b : Expr) (sc : Scope) (cl : List (Str × Addr)) (s : List AV → ASpX) : Prop :=
  ∀ (b' : Heap) (H : Hp) (f : Addr) (σ : St) (caps : List V) (cA : List AV), LamAt H f q a b sc cl → CellB X σ b' → capV js σ caps → cA.length = js.length → CloX X.prog X.w X.K X.mg b' H kc f 0 (liftCX caps cA (s cA))
def aRefd (js : List Nat) (C : Addr) (d : D) (s : List AV → ASpX) : AE := fun ρ ω Q => ∃ a, capA js ρ = some a ∧ s a [] ω (fun _ _ => False) (fun C' ω1 => C' = C ∧ Q (.d d) (ω1.only ω))
theorem e_refd {X : Cx} {kc : Nat} {C : Addr} {d : D} {q : Str} {js : List Nat} {p : Arguments} {b : Expr} {sc : Scope} {l : List (Str × Addr)} {s : List AV → ASpX} (h : CloWX X kc js q p b sc l s) :
    RefE (tCallC X (fun b' => sp_refd kc C d X.prog X.w X.K X.mg b') (tCons (tLam q p b sc l) tNil)) (aRefd js C d s) := ⟨fun F H ω σ ρ Q Q' rp rs w kq => by
  obtain ⟨a, e, w⟩ := w
  intro f1 H2 m1 _ M1 b' sub cb
  obtain ⟨rp3, fr3⟩ := rp.later m1
  obtain ⟨c, v1, r1⟩ := cap_of (rs.same fr3.same) e
  exact ⟨F, ω, Q', f1, c, a, s a, rfl, rp3, h b' H2 f1 σ c a M1 cb v1 (capA_len e), r1, w, kq.fr fr3⟩⟩
end L2
set_option Elab.async false
set_option linter.all false
set_option autoImplicit false
set_option maxRecDepth 100000
set_option maxHeartbeats 1000000
namespace L2
open PySem PySem.Spec PySem.Calls PyProof.Rows
abbrev IsTrip (h : Heap) (T : Addr) (a b c : Value) : Prop := h.get? T = some { cls := .type "tuple", data := .seq #[a, b, c] }
theorem typeCall_zip3 (a b c : Value) : checkTypeCall "zip" ⟨[a, b, c], []⟩ = pure () := by kernel_rfl
theorem newCall_zip3 (a b c : Value) : checkBuiltinCall "zip.__new__" ⟨[.type "zip", a, b, c], []⟩ = pure () := by kernel_rfl
theorem args_object_init4 (a b c d : Value) : argsOk "object.__init__" ⟨[a, b, c, d], []⟩ := by
  unfold argsOk
  kernel_rfl
structure Ap3 (z u o i j l p q r : Addr) : Prop where
  uz : u ≠ z
  oz : o ≠ z
  iz : i ≠ z
  jz : j ≠ z
  lz : l ≠ z
  uo : u ≠ o
  ui : u ≠ i
  uj : u ≠ j
  ul : u ≠ l
  oi : o ≠ i
  oj : o ≠ j
  ol : o ≠ l
  ij : i ≠ j
  il : i ≠ l
  jl : j ≠ l
  np : ∀ c ∈ [z, u, o, i, j, l], p ≠ c
  nq : ∀ c ∈ [z, u, o, i, j, l], q ≠ c
  nr : ∀ c ∈ [z, u, o, i, j, l], r ≠ c
section
variable {prog : Program} {w : World} {A : Around} {E : Value → Shared → Prop} {S : Shared} {z u o i j l p q r : Addr} {m n : Nat} {xs ys zs : Array Value} {x y v a b c : Value} {Ii Ij Il : Nat → Heap → Prop} {Sp Sq Sr : Heap → Prop}
theorem updateSeq_trip {T : Addr} {a b c x : Value} {k : Nat} {Q : Unit → Shared → Prop} (hT : IsTrip S.heap T a b c)
    (h : ∀ h', h'.get? T = some { cls := .type "tuple", data := .seq ((#[a, b, c] : Array Value).setIfInBounds k x) } → Heap.SameBut T S.heap h' → Q () { S with heap := h' }) :
    wpAny (model prog w) A (updateSeq T (·.setIfInBounds k x)) Q E S := by
  refine wpAny_updateSeq hT rfl (h _ ?_ (Heap.SameBut.update ..))
  rw [Heap.get?_update_self _ hT rfl]
  simp [Obj.mapSeq]
theorem zip3_item {Q : Value → Shared → Prop} (D : Ap3 z u o i j l p q r) (Gi : Src prog w A i p xs Ii Sp) (Gj : Src prog w A j q ys Ij Sq) (Gl : Src prog w A l r zs Il Sr) (hz : IsZip S.heap z u o .none) (hu : IsTrip S.heap u (.ref i) (.ref j) (.ref l)) (ho : IsTrip S.heap o a b c)
    (hi : Ii m S.heap) (hj : Ij m S.heap) (hl : Il m S.heap) (hp : Sp S.heap) (hq : Sq S.heap) (hr : Sr S.heap) (hx : xs[m]? = some x) (hy : ys[m]? = some y) (hv : zs[m]? = some v)
    (hQ : ∀ h1, IsZip h1 z u o (rawInt S.heap.objs.size) → IsTrip h1 o x y v → Ii (m + 1) h1 → Ij (m + 1) h1 → Il (m + 1) h1 → IsTrip h1 S.heap.objs.size x y v → (∀ c ob, c ≠ z → c ≠ o → c ≠ i → c ≠ j → c ≠ l → S.heap.get? c = some ob → h1.get? c = some ob) → Q (.ref S.heap.objs.size) { S with heap := h1 }) :
    wpAny (model prog w) A (Builtin.«zip.__next__» ⟨[.ref z], []⟩) (fun fin s1 => ∃ v, fin = .done (.ret v) ∧ Q v s1) E S := by
  show wpAny _ _ (field (.ref z) 2 >>= _) _ _ S
  refine wpAny_bind (wpAny_field hz (x := .bool false) rfl rfl ?_)
  show wpAny _ _ (field (.ref z) 3 >>= _) _ _ S
  refine wpAny_bind (wpAny_field hz (x := .ref u) rfl rfl ?_)
  refine wpAny_bind (wpAny_seqItems hu rfl ?_)
  show wpAny _ _ (Builtin.SmallTypes.ownedTupleIsFree (.ref z) >>= _) _ _ S
  refine wpAny_bind ?_
  unfold Builtin.SmallTypes.ownedTupleIsFree
  refine wpAny_bind (wpAny_field hz (x := .none) rfl rfl (wpAny_pure ?_))
  simp only [if_true]
  refine wpAny_bind (wpAny_rule (wpAny_bind (wpAny_field hz (x := .ref o) rfl rfl ?_)))
  refine wpAny_bind (wpAny_setField_rec hz (by simp) fun k1 z1 b1 => ?_)
  replace z1 : IsZip k1 z u o .ellipsis := z1
  refine wpAny_bind ?_
  simp only [List.zipIdx_cons, List.forIn_cons, List.zipIdx_nil, List.forIn_nil]
  refine wpAny_bind (wpAny_bind (wpAny_onRaise ?_))
  show wpAny _ _ (Builtin.SmallTypes.nextOf (.ref i) >>= _) _ _ _
  refine wpAny_bind (Gi.item m x _ _ _ (Gi.mv _ _ _ hi fun ob e => b1.extBut _ _ D.iz e) (Gi.sv _ _ hp fun ob e => b1.extBut _ _ (D.np z (by simp)) e) hx fun k2 i2 b2 => wpAny_pure ?_)
  have o2 : IsTrip k2 o a b c := b2.extBut _ _ D.oi (b1.extBut _ _ D.oz ho)
  refine wpAny_bind (wpAny_seqItems o2 rfl ?_)
  refine wpAny_bind (updateSeq_trip o2 fun k3 o3 b3 => ?_)
  replace o3 : IsTrip k3 o x b c := o3
  refine wpAny_bind (wpAny_letGo (wpAny_pure ?_))
  have up3 : ∀ c ob, c ≠ z → c ≠ o → c ≠ i → S.heap.get? c = some ob → k3.get? c = some ob := fun c ob c1 c2 c3 e => b3.extBut _ _ c2 (b2.extBut _ _ c3 (b1.extBut _ _ c1 e))
  refine wpAny_bind (wpAny_bind (wpAny_onRaise ?_))
  show wpAny _ _ (Builtin.SmallTypes.nextOf (.ref j) >>= _) _ _ _
  refine wpAny_bind (Gj.item m y _ _ _ (Gj.mv _ _ _ hj fun ob e => up3 _ _ D.jz D.oj.symm D.ij.symm e) (Gj.sv _ _ hq fun ob e => up3 _ _ (D.nq z (by simp)) (D.nq o (by simp)) (D.nq i (by simp)) e) hy fun k4 j4 b4 => wpAny_pure ?_)
  have o4 : IsTrip k4 o x b c := b4.extBut _ _ D.oj o3
  refine wpAny_bind (wpAny_seqItems o4 rfl ?_)
  refine wpAny_bind (updateSeq_trip o4 fun k5 o5 b5 => ?_)
  replace o5 : IsTrip k5 o x y c := o5
  refine wpAny_bind (wpAny_letGo (wpAny_pure ?_))
  have up5 : ∀ c ob, c ≠ z → c ≠ o → c ≠ i → c ≠ j → S.heap.get? c = some ob → k5.get? c = some ob := fun c ob c1 c2 c3 c4 e => b5.extBut _ _ c2 (b4.extBut _ _ c4 (up3 c ob c1 c2 c3 e))
  refine wpAny_bind (wpAny_bind (wpAny_onRaise ?_))
  show wpAny _ _ (Builtin.SmallTypes.nextOf (.ref l) >>= _) _ _ _
  refine wpAny_bind (Gl.item m v _ _ _ (Gl.mv _ _ _ hl fun ob e => up5 _ _ D.lz D.ol.symm D.il.symm D.jl.symm e) (Gl.sv _ _ hr fun ob e => up5 _ _ (D.nr z (by simp)) (D.nr o (by simp)) (D.nr i (by simp)) (D.nr j (by simp)) e) hv fun k6 l6 b6 => wpAny_pure ?_)
  have o6 : IsTrip k6 o x y c := b6.extBut _ _ D.ol o5
  refine wpAny_bind (wpAny_seqItems o6 rfl ?_)
  refine wpAny_bind (updateSeq_trip o6 fun k7 o7 b7 => ?_)
  replace o7 : IsTrip k7 o x y v := o7
  refine wpAny_bind (wpAny_letGo (wpAny_pure (wpAny_pure ?_)))
  refine wpAny_bind (wpAny_seqItems o7 rfl (wpAny_bind (wpAny_newTuple ?_)))
  have hsz : k7.objs.size = S.heap.objs.size := by rw [b7.1, b6.1, b5.1, b4.1, b3.1, b2.1, b1.1]
  have z7 : IsZip k7 z u o .ellipsis := b7.extBut _ _ D.oz.symm (b6.extBut _ _ D.lz.symm (b5.extBut _ _ D.oz.symm (b4.extBut _ _ D.jz.symm (b3.extBut _ _ D.oz.symm (b2.extBut _ _ D.iz.symm z1)))))
  have all7 : ∀ c ob, c ≠ z → c ≠ o → c ≠ i → c ≠ j → c ≠ l → S.heap.get? c = some ob → k7.get? c = some ob := fun c ob c1 c2 c3 c4 c5 e => b7.extBut _ _ c2 (b6.extBut _ _ c5 (up5 c ob c1 c2 c3 c4 e))
  have i7 : Ii (m + 1) k7 := Gi.mv _ _ _ i2 fun ob e => b7.extBut _ _ D.oi.symm (b6.extBut _ _ D.il (b5.extBut _ _ D.oi.symm (b4.extBut _ _ D.ij (b3.extBut _ _ D.oi.symm e))))
  have j7 : Ij (m + 1) k7 := Gj.mv _ _ _ j4 fun ob e => b7.extBut _ _ D.oj.symm (b6.extBut _ _ D.jl (b5.extBut _ _ D.oj.symm e))
  have l7 : Il (m + 1) k7 := Gl.mv _ _ _ l6 fun ob e => b7.extBut _ _ D.ol.symm e
  have zlt : z < k7.objs.size := Heap.lt_size z7
  show wpAny _ _ (Builtin.SmallTypes.ownedTupleHandOut (.ref z) (.ref k7.objs.size) >>= _) _ _ _
  refine wpAny_bind ?_
  unfold Builtin.SmallTypes.ownedTupleHandOut
  have z8 : IsZip (k7.push { cls := .type "tuple", data := .seq #[x, y, v] }) z u o .ellipsis := Heap.get?_push_of_some _ z7
  refine wpAny_bind (wpAny_setField_rec z8 (by simp) fun k9 z9 b9 => ?_)
  replace z9 : IsZip k9 z u o (rawInt k7.objs.size) := z9
  refine wpAny_setField_rec z9 (by simp) fun k10 z10 b10 => ?_
  replace z10 : IsZip k10 z u o (rawInt k7.objs.size) := z10
  have up : ∀ c ob, c ≠ z → k7.get? c = some ob → k10.get? c = some ob := fun c ob c1 e => b10.extBut _ _ c1 (b9.extBut _ _ c1 (Heap.get?_push_of_some _ e))
  have t10 : IsTrip k10 k7.objs.size x y v := b10.extBut _ _ (Nat.ne_of_gt zlt) (b9.extBut _ _ (Nat.ne_of_gt zlt) (Heap.get?_push_size _ rfl))
  rw [hsz] at z10 t10
  refine wpAny_pure ⟨_, rfl, ?_⟩
  show Q (.ref k7.objs.size) _
  rw [hsz]
  exact hQ k10 z10 (up _ _ D.oz o7) (Gi.mv _ _ _ i7 fun ob e => up _ ob D.iz e) (Gj.mv _ _ _ j7 fun ob e => up _ ob D.jz e) (Gl.mv _ _ _ l7 fun ob e => up _ ob D.lz e) t10 fun c ob c1 c2 c3 c4 c5 e => up c ob c1 (all7 c ob c1 c2 c3 c4 c5 e)
theorem zip3_end {Q : Fin → Shared → Prop} (D : Ap3 z u o i j l p q r) (Gi : Src prog w A i p xs Ii Sp) (Gj : Src prog w A j q ys Ij Sq) (Gl : Src prog w A l r zs Il Sr) (hz : IsZip S.heap z u o .none) (hu : IsTrip S.heap u (.ref i) (.ref j) (.ref l)) (ho : IsTrip S.heap o a b c)
    (hi : Ii m S.heap) (hj : Ij m S.heap) (hl : Il m S.heap) (hp : Sp S.heap) (hq : Sq S.heap) (hr : Sr S.heap) (he : xs[m]? = none ∨ ys[m]? = none ∨ zs[m]? = none)
    (hE : ∀ h1 e, (∀ c ob, c ≠ z → c ≠ o → c ≠ i → c ≠ j → c ≠ l → S.heap.get? c = some ob → h1.get? c = some ob) → (∃ ob, h1.get? e = some ob ∧ ob.cls = .type "StopIteration") → E (.ref e) { S with heap := h1 }) :
    wpAny (model prog w) A (Builtin.«zip.__next__» ⟨[.ref z], []⟩) Q E S := by
  show wpAny _ _ (field (.ref z) 2 >>= _) _ _ S
  refine wpAny_bind (wpAny_field hz (x := .bool false) rfl rfl ?_)
  show wpAny _ _ (field (.ref z) 3 >>= _) _ _ S
  refine wpAny_bind (wpAny_field hz (x := .ref u) rfl rfl ?_)
  refine wpAny_bind (wpAny_seqItems hu rfl ?_)
  show wpAny _ _ (Builtin.SmallTypes.ownedTupleIsFree (.ref z) >>= _) _ _ S
  refine wpAny_bind ?_
  unfold Builtin.SmallTypes.ownedTupleIsFree
  refine wpAny_bind (wpAny_field hz (x := .none) rfl rfl (wpAny_pure ?_))
  simp only [if_true]
  refine wpAny_bind (wpAny_rule (wpAny_bind (wpAny_field hz (x := .ref o) rfl rfl ?_)))
  refine wpAny_bind (wpAny_setField_rec hz (by simp) fun k1 z1 b1 => ?_)
  replace z1 : IsZip k1 z u o .ellipsis := z1
  refine wpAny_bind ?_
  simp only [List.zipIdx_cons, List.forIn_cons, List.zipIdx_nil, List.forIn_nil]
  refine wpAny_bind (wpAny_bind (wpAny_onRaise ?_))
  show wpAny _ _ (Builtin.SmallTypes.nextOf (.ref i) >>= _) _ _ _
  have i1 := Gi.mv _ _ _ hi fun ob e => b1.extBut _ _ D.iz e
  have p1 := Gi.sv _ _ hp fun ob e => b1.extBut _ _ (D.np z (by simp)) e
  cases hx : xs[m]? with
  | none =>
    refine wpAny_bind (Gi.stop m _ _ _ i1 p1 hx fun k2 e b2 x2 => ?_)
    obtain ⟨oe, eoe, ece⟩ := x2
    have z2 : IsZip k2 z u o .ellipsis := b2 _ _ D.iz.symm z1
    have ez : e ≠ z := fun w1 => by subst w1; rw [z2] at eoe; cases eoe; simp at ece
    exact wpAny_setField_rec z2 (by simp) fun k3 _ b3 => hE k3 e (fun c ob c1 _ c3 _ _ e1 => b3.extBut _ _ c1 (b2 _ _ c3 (b1.extBut _ _ c1 e1))) ⟨oe, b3.extBut _ _ ez eoe, ece⟩
  | some x =>
    refine wpAny_bind (Gi.item m x _ _ _ i1 p1 hx fun k2 i2 b2 => wpAny_pure ?_)
    have o2 : IsTrip k2 o a b c := b2.extBut _ _ D.oi (b1.extBut _ _ D.oz ho)
    refine wpAny_bind (wpAny_seqItems o2 rfl ?_)
    refine wpAny_bind (updateSeq_trip o2 fun k3 o3 b3 => ?_)
    replace o3 : IsTrip k3 o x b c := o3
    refine wpAny_bind (wpAny_letGo (wpAny_pure ?_))
    have up3 : ∀ c ob, c ≠ z → c ≠ o → c ≠ i → S.heap.get? c = some ob → k3.get? c = some ob := fun c ob c1 c2 c3 e => b3.extBut _ _ c2 (b2.extBut _ _ c3 (b1.extBut _ _ c1 e))
    have z3 : IsZip k3 z u o .ellipsis := b3.extBut _ _ D.oz.symm (b2.extBut _ _ D.iz.symm z1)
    refine wpAny_bind (wpAny_bind (wpAny_onRaise ?_))
    show wpAny _ _ (Builtin.SmallTypes.nextOf (.ref j) >>= _) _ _ _
    have j3 := Gj.mv _ _ _ hj fun ob e => up3 _ _ D.jz D.oj.symm D.ij.symm e
    have q3 := Gj.sv _ _ hq fun ob e => up3 _ _ (D.nq z (by simp)) (D.nq o (by simp)) (D.nq i (by simp)) e
    cases hy : ys[m]? with
    | none =>
      refine wpAny_bind (Gj.stop m _ _ _ j3 q3 hy fun k4 e b4 x4 => ?_)
      obtain ⟨oe, eoe, ece⟩ := x4
      have z4 : IsZip k4 z u o .ellipsis := b4 _ _ D.jz.symm z3
      have ez : e ≠ z := fun w1 => by subst w1; rw [z4] at eoe; cases eoe; simp at ece
      exact wpAny_setField_rec z4 (by simp) fun k5 _ b5 => hE k5 e (fun c ob c1 c2 c3 c4 _ e1 => b5.extBut _ _ c1 (b4 _ _ c4 (up3 c ob c1 c2 c3 e1))) ⟨oe, b5.extBut _ _ ez eoe, ece⟩
    | some y =>
      have hv : zs[m]? = none := (he.resolve_left (by rw [hx]; simp)).resolve_left (by rw [hy]; simp)
      refine wpAny_bind (Gj.item m y _ _ _ j3 q3 hy fun k4 j4 b4 => wpAny_pure ?_)
      have o4 : IsTrip k4 o x b c := b4.extBut _ _ D.oj o3
      refine wpAny_bind (wpAny_seqItems o4 rfl ?_)
      refine wpAny_bind (updateSeq_trip o4 fun k5 o5 b5 => ?_)
      refine wpAny_bind (wpAny_letGo (wpAny_pure ?_))
      have up5 : ∀ c ob, c ≠ z → c ≠ o → c ≠ i → c ≠ j → S.heap.get? c = some ob → k5.get? c = some ob := fun c ob c1 c2 c3 c4 e => b5.extBut _ _ c2 (b4.extBut _ _ c4 (up3 c ob c1 c2 c3 e))
      have z5 : IsZip k5 z u o .ellipsis := b5.extBut _ _ D.oz.symm (b4.extBut _ _ D.jz.symm z3)
      refine wpAny_bind (wpAny_bind (wpAny_onRaise ?_))
      show wpAny _ _ (Builtin.SmallTypes.nextOf (.ref l) >>= _) _ _ _
      refine wpAny_bind (Gl.stop m _ _ _ (Gl.mv _ _ _ hl fun ob e => up5 _ _ D.lz D.ol.symm D.il.symm D.jl.symm e) (Gl.sv _ _ hr fun ob e => up5 _ _ (D.nr z (by simp)) (D.nr o (by simp)) (D.nr i (by simp)) (D.nr j (by simp)) e) hv fun k6 e b6 x6 => ?_)
      obtain ⟨oe, eoe, ece⟩ := x6
      have z6 : IsZip k6 z u o .ellipsis := b6 _ _ D.lz.symm z5
      have ez : e ≠ z := fun w1 => by subst w1; rw [z6] at eoe; cases eoe; simp at ece
      exact wpAny_setField_rec z6 (by simp) fun k7 _ b7 => hE k7 e (fun c ob c1 c2 c3 c4 c5 e1 => b7.extBut _ _ c1 (b6 _ _ c5 (up5 c ob c1 c2 c3 c4 e1))) ⟨oe, b7.extBut _ _ ez eoe, ece⟩
end
def Zp3 (S1 S2 S3 : Hp → Addr → List V → Prop) (a b c : Addr) : It :=
  ⟨fun i H => ∃ xs ys zs x y v, S1 H a xs ∧ S2 H b ys ∧ S3 H c zs ∧ xs[i]? = some x ∧ ys[i]? = some y ∧ zs[i]? = some v,
   fun i H t H' => ∃ T x y v, H T = none ∧ t = .ref T ∧ H' = upd H T (.tup [x, y, v]) ∧ ∀ xs ys zs, S1 H a xs → S2 H b ys → S3 H c zs → xs[i]? = some x ∧ ys[i]? = some y ∧ zs[i]? = some v,
   fun i H => ∃ xs ys zs, S1 H a xs ∧ S2 H b ys ∧ S3 H c zs ∧ min xs.length (min ys.length zs.length) = i⟩
section
variable {c1 c2 c3 : String} {S1 S2 S3 : PySem.W.Frag → Hp → Addr → List V → Prop} {I1 I2 I3 : Heap → Addr → Addr → Nat → Prop} {Is1 Is2 Is3 : Heap → Addr → Array Value → Prop}
theorem turn_zip3 {P : Program} {w : World} {K : PySem.W.Frag} {elts : List Expr} {kk : Nat} {pp : Pos} (k1 : Kd c1 S1 I1 Is1) (k2 : Kd c2 S2 I2 Is2) (k3 : Kd c3 S3 I3 Is3) (a b c z u o i j l : Addr) (ap : ∀ p q r, (∀ c ∈ [z, u, o, i, j, l], p ≠ c) → (∀ c ∈ [z, u, o, i, j, l], q ≠ c) → (∀ c ∈ [z, u, o, i, j, l], r ≠ c) → Ap3 z u o i j l p q r) :
    Turn P w K (.Tuple elts kk pp) (Zp3 (S1 K) (S2 K) (S3 K) a b c) [z, u, o, i, j, l] z (fun n h => IsZip h z u o .none ∧ IsTrip h u (.ref i) (.ref j) (.ref l) ∧ (∃ x y v, IsTrip h o x y v) ∧ I1 h i a n ∧ I2 h j b n ∧ I3 h l c n) where
  mem := by simp
  obj := fun n h st d hc => by
    obtain ⟨h1, h2, ⟨x, y, v, h3⟩, h4, h5, h6⟩ := st
    obtain ⟨o4, v4, e4, d4⟩ := (k1.src default w callerA i a #[] rfl).live _ _ h4
    obtain ⟨o5, v5, e5, d5⟩ := (k2.src default w callerA j b #[] rfl).live _ _ h5
    obtain ⟨o6, v6, e6, d6⟩ := (k3.src default w callerA l c #[] rfl).live _ _ h6
    rcases (by simpa using hc : d = z ∨ d = u ∨ d = o ∨ d = i ∨ d = j ∨ d = l) with rfl | rfl | rfl | rfl | rfl | rfl
    · exact ⟨_, h1, fun v q => by cases q⟩
    · exact ⟨_, h2, fun v q => by cases q⟩
    · exact ⟨_, h3, fun v q => by cases q⟩
    · exact ⟨_, e4, fun v q => by rw [d4] at q; cases q⟩
    · exact ⟨_, e5, fun v q => by rw [d5] at q; cases q⟩
    · exact ⟨_, e6, fun v q => by rw [d6] at q; cases q⟩
  keep := fun n h h' st k => by
    obtain ⟨h1, h2, ⟨x, y, v, h3⟩, h4, h5, h6⟩ := st
    exact ⟨k z (by simp) _ h1, k u (by simp) _ h2, ⟨x, y, v, k o (by simp) _ h3⟩, (k1.src default w callerA i a #[] rfl).mv _ _ _ h4 fun ob e => k i (by simp) ob e, (k2.src default w callerA j b #[] rfl).mv _ _ _ h5 fun ob e => k j (by simp) ob e, (k3.src default w callerA l c #[] rfl).mv _ _ _ h6 fun ob e => k l (by simp) ob e⟩
  item := by
    intro X hP hw hK hc n pins s σ H E I hf st hg
    subst hP hw hK
    obtain ⟨xs, ys, zs, x, y, v, ha, hb, hc', hx, hy, hv⟩ := hg
    obtain ⟨its, rv, pa⟩ := k1.got I ha
    obtain ⟨jts, rw', pb⟩ := k2.got I hb
    obtain ⟨lts, rz, pc⟩ := k3.got I hc'
    obtain ⟨vx, hvx, rx⟩ := rv.get hx
    obtain ⟨vy, hvy, ry⟩ := rw'.get hy
    obtain ⟨vv, hvv, rvv⟩ := rz.get hv
    obtain ⟨h1, h2, ⟨x0, y0, v0, h3⟩, h4, h5, h6⟩ := st
    have D : Ap3 z u o i j l a b c := ap a b c (fun c hc => k1.ne I ha (hf c hc)) (fun c hc => k2.ne I hb (hf c hc)) (fun d hd => k3.ne I hc' (hf d hd))
    have hT : s.TypeIs (.ref z) "zip" := ⟨_, h1, rfl⟩
    unfold pyNext
    refine wpAny_bind (wpAny_attempt (wpAny_callSpecial?_slot (name := Str.ofString "__next__") hT F.slot_zip_next (wpAny_call_entry F.slot_zip_next hT F.entry_zip_next
      (zip3_item D (k1.src X.prog X.w _ i a its.toArray (I.ok.hd hc)) (k2.src X.prog X.w _ j b jts.toArray (I.ok.hd hc)) (k3.src X.prog X.w _ l c lts.toArray (I.ok.hd hc)) h1 h2 h3 h4 h5 h6 pa pb pc (x := vx) (y := vy) (v := vv) (by simpa using hvx) (by simpa using hvy) (by simpa using hvv) fun q1 a1 a2 a3 a4 a4' a5 a6 => wpAny_pure ?_) (F.args_zip_next_1 _))))
    refine ⟨_, rfl, wpAny_letOwnedTupleGo_zip a1 fun q2 b1 sb => ?_⟩
    have lt : ∀ {c ob}, s.heap.get? c = some ob → c < s.heap.objs.size := fun e => Heap.lt_size e
    have zl := lt h1
    have kp : ∀ c ob, c ∉ [z, u, o, i, j, l] → s.heap.get? c = some ob → q2.get? c = some ob := fun c ob hc' e => (sb.2 c fun w1 => hc' (by simp [w1])).trans (a6 c ob (fun w1 => hc' (by simp [w1])) (fun w1 => hc' (by simp [w1])) (fun w1 => hc' (by simp [w1])) (fun w1 => hc' (by simp [w1])) (fun w1 => hc' (by simp [w1])) e)
    have hT2 : q2.get? s.heap.objs.size = some { cls := .type "tuple", data := .seq #[vx, vy, vv] } := (sb.2 _ (Nat.ne_of_gt zl)).trans a5
    have J := I.turnNew (h' := q2) (tk := s.toks) (ch := [z, u, o, i, j, l]) (T := s.heap.objs.size) (o := .tup [x, y, v]) hf kp (Nat.le_refl _) ⟨(show 3 ≤ sizeLine by decide), [vx, vy, vv], .cons rx (.cons ry (.cons rvv .nil)), ⟨_, hT2, rfl, _, rfl⟩⟩
    refine ⟨.ref s.heap.objs.size, _, J, rfl, ⟨_, x, y, v, I.hok.fresh (Nat.le_refl _), rfl, rfl, fun xs' ys' zs' e1 e2 e3 => ⟨by rw [k1.inj I e1 ha]; exact hx, by rw [k2.inj I e2 hb]; exact hy, by rw [k3.inj I e3 hc']; exact hv⟩⟩, ⟨b1, (sb.2 u D.uz).trans (a6 u _ D.uz D.uo D.ui D.uj D.ul h2), ⟨vx, vy, vv, (sb.2 o D.oz).trans a2⟩, ?_, ?_, ?_⟩, fun d hd => ?_⟩
    · exact (k1.src default X.w callerA i a #[] rfl).mv _ _ _ a3 fun ob e => (sb.2 i D.iz).trans e
    · exact (k2.src default X.w callerA j b #[] rfl).mv _ _ _ a4 fun ob e => (sb.2 j D.jz).trans e
    · exact (k3.src default X.w callerA l c #[] rfl).mv _ _ _ a4' fun ob e => (sb.2 l D.lz).trans e
    · have hlt : d < s.heap.objs.size := by
        obtain ⟨o4, v4, e4, d4⟩ := (k1.src default X.w callerA i a #[] rfl).live _ _ h4
        obtain ⟨o5, v5, e5, d5⟩ := (k2.src default X.w callerA j b #[] rfl).live _ _ h5
        obtain ⟨o6, v6, e6, d6⟩ := (k3.src default X.w callerA l c #[] rfl).live _ _ h6
        rcases (by simpa using hd : d = z ∨ d = u ∨ d = o ∨ d = i ∨ d = j ∨ d = l) with rfl | rfl | rfl | rfl | rfl | rfl
        · exact lt h1
        · exact lt h2
        · exact lt h3
        · exact lt e4
        · exact lt e5
        · exact lt e6
      rw [upd_ne (Nat.ne_of_lt hlt)]
      exact (hf d hd).1
  done := by
    intro X hP hw hK hc n pins s σ H E I hf st hg
    subst hP hw hK
    obtain ⟨xs, ys, zs, ha, hb, hc', hm⟩ := hg
    obtain ⟨its, rv, pa⟩ := k1.got I ha
    obtain ⟨jts, rw', pb⟩ := k2.got I hb
    obtain ⟨lts, rz, pc⟩ := k3.got I hc'
    obtain ⟨h1, h2, ⟨x0, y0, v0, h3⟩, h4, h5, h6⟩ := st
    have D : Ap3 z u o i j l a b c := ap a b c (fun c hc => k1.ne I ha (hf c hc)) (fun c hc => k2.ne I hb (hf c hc)) (fun d hd => k3.ne I hc' (hf d hd))
    have hT : s.TypeIs (.ref z) "zip" := ⟨_, h1, rfl⟩
    have l1 := rv.length
    have l2 := rw'.length
    have l3 := rz.length
    unfold pyNext
    refine wpAny_bind (wpAny_attempt (wpAny_callSpecial?_slot (name := Str.ofString "__next__") hT F.slot_zip_next (wpAny_call_entry F.slot_zip_next hT F.entry_zip_next
      (zip3_end D (k1.src X.prog X.w _ i a its.toArray (I.ok.hd hc)) (k2.src X.prog X.w _ j b jts.toArray (I.ok.hd hc)) (k3.src X.prog X.w _ l c lts.toArray (I.ok.hd hc)) h1 h2 h3 h4 h5 h6 pa pb pc ?_ fun q1 e ke xe => ?_) (F.args_zip_next_1 _))))
    · rcases (by omega : n = xs.length ∨ n = ys.length ∨ n = zs.length) with h | h | h
      · exact .inl (Array.getElem?_eq_none (by simp; omega))
      · exact .inr (.inl (Array.getElem?_eq_none (by simp; omega)))
      · exact .inr (.inr (Array.getElem?_eq_none (by simp; omega)))
    · obtain ⟨ob, eob, cob⟩ := xe
      refine wpAny_bind (wpAny_isInstance (T := "StopIteration") (b := true) ⟨ob, eob, cob⟩ isSubtype_stop (wpAny_pure ⟨rfl, ?_⟩))
      exact I.turnAll (h' := q1) (tk := s.toks) (ch := [z, u, o, i, j, l]) hf fun c ob' hc' e1 => ke c ob' (fun w1 => hc' (by simp [w1])) (fun w1 => hc' (by simp [w1])) (fun w1 => hc' (by simp [w1])) (fun w1 => hc' (by simp [w1])) (fun w1 => hc' (by simp [w1])) e1
  self := fun A n s Q E st h => wpAny_pyIter_zip st.1 h
abbrev zt1 (c1 : String) (h : Heap) (a : Addr) : Heap := h.push { cls := .type c1, data := .fields #[.ref a, .int 0 0] }
abbrev zt4 (c1 c2 c3 : String) (h : Heap) (a b c : Addr) : Heap := (zt1 c3 (zt1 c2 (zt1 c1 h a) b) c).push { cls := .type "tuple", data := .seq #[.ref h.objs.size, .ref (zt1 c1 h a).objs.size, .ref (zt1 c2 (zt1 c1 h a) b).objs.size] }
abbrev zt5 (c1 c2 c3 : String) (h : Heap) (a b c : Addr) : Heap := (zt4 c1 c2 c3 h a b c).push { cls := .type "tuple", data := .seq #[.none, .none, .none] }
abbrev zt6 (c1 c2 c3 : String) (h : Heap) (a b c : Addr) : Heap := (zt5 c1 c2 c3 h a b c).push { cls := .type "zip", data := .fields #[.none, .bool false, .bool false, .ref (zt1 c3 (zt1 c2 (zt1 c1 h a) b) c).objs.size, .ref (zt4 c1 c2 c3 h a b c).objs.size] }
theorem zip3_new (k1 : Kd c1 S1 I1 Is1) (k2 : Kd c2 S2 I2 Is2) (k3 : Kd c3 S3 I3 Is3) (a b c : Addr) (its jts lts : Array Value) :
    Meets (Builtin.«zip.__new__» ⟨[.type "zip", .ref a, .ref b, .ref c], []⟩) (fun _ R S => Is1 S.heap a its ∧ Is2 S.heap b jts ∧ Is3 S.heap c lts ∧ R (.ok (.ret (.ref (zt5 c1 c2 c3 S.heap a b c).objs.size))) { S with heap := zt6 c1 c2 c3 S.heap a b c }) :=
  .of_wp fun prog w A R S h => by
    obtain ⟨hp, g, d, tk, os⟩ := S
    obtain ⟨h1, h2, h3, h⟩ := h
    have hsub := sub_zip
    have g1 : Is1 (Shared.heap ⟨hp, g, d, tk, os⟩) a its := h1
    have g2 : Is2 (Shared.heap ⟨zt1 c1 hp a, g, d, tk, os⟩) b jts := k2.sv h2 fun ob e => Heap.get?_push_of_some _ e
    have g3 : Is3 (Shared.heap ⟨zt1 c2 (zt1 c1 hp a) b, g, d, tk, os⟩) c lts := k3.sv h3 fun ob e => Heap.get?_push_of_some _ (Heap.get?_push_of_some _ e)
    wp_walk using k1.itr g1, k2.itr g2, k3.itr g3
    exact ⟨_, rfl, h⟩
theorem call_zip3 {prog : Program} {w : World} {A : Around} {E : Value → Shared → Prop} {S : Shared} {a b c : Addr} {its jts lts : Array Value} {Q : Value → Shared → Prop} (k1 : Kd c1 S1 I1 Is1) (k2 : Kd c2 S2 I2 Is2) (k3 : Kd c3 S3 I3 Is3) (h1 : Is1 S.heap a its) (h2 : Is2 S.heap b jts) (h3 : Is3 S.heap c lts)
    (h : ∀ q, IsZip q (S.heap.objs.size + 5) (S.heap.objs.size + 3) (S.heap.objs.size + 4) .none → IsTrip q (S.heap.objs.size + 3) (.ref S.heap.objs.size) (.ref (S.heap.objs.size + 1)) (.ref (S.heap.objs.size + 2)) → IsTrip q (S.heap.objs.size + 4) .none .none .none →
      I1 q S.heap.objs.size a 0 → I2 q (S.heap.objs.size + 1) b 0 → I3 q (S.heap.objs.size + 2) c 0 → (∀ c ob, S.heap.get? c = some ob → q.get? c = some ob) → Q (.ref (S.heap.objs.size + 5)) { S with heap := q }) : wpAny (model prog w) A (call (.type "zip") [.ref a, .ref b, .ref c]) Q E S := by
  refine callType_new F.called_zip (by decide) (typeCall_zip3 _ _ _) (newCall_zip3 _ _ _) (fun obj => args_object_init4 obj _ _ _) F.entry_zip_new (zip3_new k1 k2 k3 a b c its jts lts) ⟨h1, h2, h3, ?_⟩
  have n1 : (zt1 c1 S.heap a).objs.size = S.heap.objs.size + 1 := Heap.size_push ..
  have n2 : (zt1 c2 (zt1 c1 S.heap a) b).objs.size = S.heap.objs.size + 2 := by rw [Heap.size_push, n1]
  have n3 : (zt1 c3 (zt1 c2 (zt1 c1 S.heap a) b) c).objs.size = S.heap.objs.size + 3 := by rw [Heap.size_push, n2]
  have n4 : (zt4 c1 c2 c3 S.heap a b c).objs.size = S.heap.objs.size + 4 := by rw [Heap.size_push, n3]
  have n5 : (zt5 c1 c2 c3 S.heap a b c).objs.size = S.heap.objs.size + 5 := by rw [Heap.size_push, n4]
  have g6 : (zt6 c1 c2 c3 S.heap a b c).get? (zt5 c1 c2 c3 S.heap a b c).objs.size = some _ := Heap.get?_push_size _ rfl
  have g5 : (zt6 c1 c2 c3 S.heap a b c).get? (zt4 c1 c2 c3 S.heap a b c).objs.size = some _ := Heap.get?_push_of_some _ (Heap.get?_push_size _ rfl)
  have g4 : (zt6 c1 c2 c3 S.heap a b c).get? (zt1 c3 (zt1 c2 (zt1 c1 S.heap a) b) c).objs.size = some _ := Heap.get?_push_of_some _ (Heap.get?_push_of_some _ (Heap.get?_push_size _ rfl))
  have g3 : (zt6 c1 c2 c3 S.heap a b c).get? (zt1 c2 (zt1 c1 S.heap a) b).objs.size = some _ := Heap.get?_push_of_some _ (Heap.get?_push_of_some _ (Heap.get?_push_of_some _ (Heap.get?_push_size _ rfl)))
  have g2 : (zt6 c1 c2 c3 S.heap a b c).get? (zt1 c1 S.heap a).objs.size = some _ := Heap.get?_push_of_some _ (Heap.get?_push_of_some _ (Heap.get?_push_of_some _ (Heap.get?_push_of_some _ (Heap.get?_push_size _ rfl))))
  have g1 : (zt6 c1 c2 c3 S.heap a b c).get? S.heap.objs.size = some _ := Heap.get?_push_of_some _ (Heap.get?_push_of_some _ (Heap.get?_push_of_some _ (Heap.get?_push_of_some _ (Heap.get?_push_of_some _ (Heap.get?_push_size _ rfl)))))
  show _ ∧ _
  rw [n3, n4, n5] at g6
  rw [n1, n2, n3] at g4
  rw [n4] at g5
  rw [n2] at g3
  rw [n1] at g2
  rw [n5]
  exact ⟨⟨_, g6, rfl⟩, h _ g6 g4 g5 (k1.new g1) (k2.new g2) (k3.new g3) fun c ob e => Heap.get?_push_of_some _ (Heap.get?_push_of_some _ (Heap.get?_push_of_some _ (Heap.get?_push_of_some _ (Heap.get?_push_of_some _ (Heap.get?_push_of_some _ e)))))⟩
def iZip3 (K : PySem.W.Frag) (ta : TA) : TI := fun σ H R => ta σ H fun vs H1 => ∃ a b c, vs = [.ref a, .ref b, .ref c] ∧ (∃ xs, SqL K H1 a xs) ∧ (∃ ys, SqL K H1 b ys) ∧ (∃ zs, SqL K H1 c zs) ∧ R (Zp3 (SqL K) (SqL K) (SqL K) a b c) H1
theorem pi_zip3 {X : Cx} (K : PySem.W.Frag) (hK : X.K = K) {a b c : Expr} {p pos pp : Pos} {elts : List Expr} {kk : Nat} {ta : TA} (hg : Gl X "zip") (hm : X.mg "zip" = none) (ha : PA X [a, b, c] ta)
    (hs : starEach [a, b, c] X.env = [(false, eval a X.env), (false, eval b X.env), (false, eval c X.env)] := by rfl) (hs2 : starEach [b, c] X.env = [(false, eval b X.env), (false, eval c X.env)] := by rfl) : PI X (.Tuple elts kk pp) (.Call (.Name "zip" p) [a, b, c] [] pos) (iZip3 K ta) := by
  subst hK
  intro pins s σ H R I h
  refine Call_ (ld_blt I hg hm PyProof.Rows.boot_zip (PyProof.Rows.callWith_type1 (thn (ha pos pins s σ H _ I h) fun us s1 ⟨vs, H1, I1, r1, q1⟩ => ?_) (by rw [hs, hs2]) (by rw [hs2]; rfl)))
  obtain ⟨l, m, n, e, ⟨xs, hq⟩, ⟨ys, hy⟩, ⟨zs, hz⟩, q⟩ := q1
  subst e
  cases r1 with
  | cons ra rr =>
    cases rr with
    | cons rb rr =>
      cases rr with
      | cons rc rr =>
        cases rr
        cases ra
        cases rb
        cases rc
        obtain ⟨its, _, pa⟩ := kdL.got I1 hq
        obtain ⟨jts, _, pb⟩ := kdL.got I1 hy
        obtain ⟨lts, _, pc⟩ := kdL.got I1 hz
        refine call_zip3 kdL kdL kdL pa pb pc fun h1 z1 z2 z3 z4 z5 z6 hk => ?_
        refine wpAny_pyIter_zip z1 ⟨_, [s1.heap.objs.size + 5, s1.heap.objs.size + 3, s1.heap.objs.size + 4, s1.heap.objs.size, s1.heap.objs.size + 1, s1.heap.objs.size + 2], _, _, H1, rfl, I1.kept (t' := s1.toks) hk,
          turn_zip3 kdL kdL kdL l m n (s1.heap.objs.size + 5) (s1.heap.objs.size + 3) (s1.heap.objs.size + 4) s1.heap.objs.size (s1.heap.objs.size + 1) (s1.heap.objs.size + 2) (fun p q r n1 n2 n3 => ⟨by simp, by simp, by simp, by simp, by simp, by simp, by simp, by simp, by simp, by simp, by simp, by simp, by simp, by simp, by simp, n1, n2, n3⟩), ⟨z1, z2, ⟨_, _, _, z3⟩, z4, z5, z6⟩, fun c hc => ?_, q⟩
        have hge : s1.heap.objs.size ≤ c := by
          rcases (by simpa using hc : c = s1.heap.objs.size + 5 ∨ c = s1.heap.objs.size + 3 ∨ c = s1.heap.objs.size + 4 ∨ c = s1.heap.objs.size ∨ c = s1.heap.objs.size + 1 ∨ c = s1.heap.objs.size + 2) with rfl | rfl | rfl | rfl | rfl | rfl <;> omega
        exact I1.fpOk hge (I1.hok.fresh hge)
end
section
variable {K : PySem.W.Frag} {sa : TA} {sa' : AA}
def zip3A (ds es fs : List D) : List AV := (ds.zip (es.zip fs)).map fun p => AV.d (.tup [p.1, p.2.1, p.2.2])
theorem zip3A_get {ds es fs : List D} {i : Nat} {x : AV} (h : (zip3A ds es fs)[i]? = some x) : ∃ d e f, ds[i]? = some d ∧ es[i]? = some e ∧ fs[i]? = some f ∧ x = .d (.tup [d, e, f]) := by
  unfold zip3A at h
  rw [List.getElem?_map, Option.map_eq_some_iff] at h
  obtain ⟨⟨d, e, f⟩, h1, rfl⟩ := h
  obtain ⟨h1, h2⟩ := List.getElem?_zip_eq_some.mp h1
  obtain ⟨h2, h3⟩ := List.getElem?_zip_eq_some.mp h2
  exact ⟨d, e, f, h1, h2, h3, rfl⟩
theorem it_new3 {F : Fs} {H : Hp} {ω : Om} {T : Addr} {v u t : V} {d e f : D} (rp : Rep F H ω) (hT : H T = none) (hd : Dat (cut F H ω) d v) (he : Dat (cut F H ω) e u) (hf : Dat (cut F H ω) f t) :
    Rep F (upd H T (.tup [v, u, t])) ω ∧ Fr F H ω (upd H T (.tup [v, u, t])) ω ∧ RV (cut F (upd H T (.tup [v, u, t])) ω) (.d (.tup [d, e, f])) (.ref T) := by
  obtain ⟨rp2, fr2, hc⟩ := rp.lay (o := .tup [v, u, t]) hT
  refine ⟨rp2, fr2, ?_⟩
  simp only [RV, Dat, Dats]
  exact ⟨T, _, rfl, hc, _, _, rfl, hd.same fr2.same, _, _, rfl, he.same fr2.same, _, _, rfl, hf.same fr2.same, rfl⟩
theorem it_zip3 {G : Hp} {ds es fs : List D} {a b c : Addr} {Sa Sb Sc : Hp → Addr → List V → Prop} (ha : ∀ F H ω, Rep F H ω → Same G (cut F H ω) → ∃ vs, Sa H a vs ∧ Dats (cut F H ω) ds vs)
    (hb : ∀ F H ω, Rep F H ω → Same G (cut F H ω) → ∃ vs, Sb H b vs ∧ Dats (cut F H ω) es vs) (hc : ∀ F H ω, Rep F H ω → Same G (cut F H ω) → ∃ vs, Sc H c vs ∧ Dats (cut F H ω) fs vs) : ItOk G (zip3A ds es fs) (Zp3 Sa Sb Sc a b c) := fun F H ω rp s => by
  obtain ⟨vs, a1, a2⟩ := ha F H ω rp s
  obtain ⟨us, b1, b2⟩ := hb F H ω rp s
  obtain ⟨ws, c1, c2⟩ := hc F H ω rp s
  refine ⟨⟨vs, us, ws, a1, b1, c1, by simp [zip3A, a2.length, b2.length, c2.length]⟩, fun i x hx => ?_⟩
  obtain ⟨d, e, f, h1, h2, h3, rfl⟩ := zip3A_get hx
  obtain ⟨v, e1, e2⟩ := a2.get h1
  obtain ⟨u, e3, e4⟩ := b2.get h2
  obtain ⟨y, e5, e6⟩ := c2.get h3
  refine ⟨⟨vs, us, ws, v, u, y, a1, b1, c1, e1, e3, e5⟩, fun y H' hy => ?_⟩
  obtain ⟨T, z1, z2, z3, hT, rfl, rfl, hz⟩ := hy
  obtain ⟨q1, q2, q3⟩ := hz vs us ws a1 b1 c1
  rw [e1] at q1
  rw [e3] at q2
  rw [e5] at q3
  cases q1
  cases q2
  cases q3
  exact it_new3 rp hT e2 e4 e6
theorem rvs3 {G : Hp} {a b c : AV} {vs : List V} (h : RVs G [a, b, c] vs) : ∃ v u x, vs = [v, u, x] ∧ RV G a v ∧ RV G b u ∧ RV G c x := by
  obtain ⟨v, r, rfl, h1, h2⟩ := h
  obtain ⟨u, x, rfl, h3, h4⟩ := rvs2 h2
  exact ⟨v, u, x, rfl, h1, h3, h4⟩
def aiZip3 (ta : AA) : AI := fun ρ ω R => ta ρ ω fun xs ω1 => ∃ x y z, xs = [x, y, z] ∧ frzA ω1 x fun d ω2 => frzA ω2 y fun e ω3 => frzA ω3 z fun f ω4 => ∃ ds es fs, d = .lst ds ∧ e = .lst es ∧ f = .lst fs ∧ R (zip3A ds es fs) ω4
theorem aiZip3_eq (ta : AA) (ρ : SA) (ω : Om) (R : List AV → Om → Prop) : aiZip3 ta ρ ω R = (ta ρ ω fun xs ω1 => ∃ x y z, xs = [x, y, z] ∧ frzA ω1 x fun d ω2 => frzA ω2 y fun e ω3 => frzA ω3 z fun f ω4 => ∃ ds es fs, d = .lst ds ∧ e = .lst es ∧ f = .lst fs ∧ R (zip3A ds es fs) ω4) := rfl
theorem i_zip3 (h : RefA sa sa') : RefI (iZip3 K sa) (aiZip3 sa') := ⟨fun F H ω σ ρ R R' rp rs w k => h.go rp rs w fun xs ω1 vs H1 rp1 fr1 rs1 rv ⟨x, y, z, e, q⟩ => by
  subst e
  obtain ⟨v, u, t, rfl, r1, r2, r3⟩ := rvs3 rv
  obtain ⟨d, ω2, rp2, fr2, hd, q⟩ := frz_of rp1 r1 q
  obtain ⟨e, ω3, rp3, fr3, he, q⟩ := frz_of rp2 (r2.same fr2.same) q
  obtain ⟨f, ω4, rp4, fr4, hf, ds, es, fs, e1, e2, e3, qz⟩ := frz_of rp3 (r3.same (fr2.trans fr3).same) q
  subst e1 e2 e3
  have hd4 := hd.same (fr3.trans fr4).same
  have he4 := he.same fr4.same
  have k4 := k.fr (((fr1.trans fr2).trans fr3).trans fr4)
  obtain ⟨a, rfl, ha⟩ := sq_l (K := K) hd4
  obtain ⟨b, rfl, hb⟩ := sq_l (K := K) he4
  obtain ⟨c, rfl, hc⟩ := sq_l (K := K) hf
  obtain ⟨vs, w1, _⟩ := ha F H1 ω4 rp4 (Same.refl _)
  obtain ⟨us, w2, _⟩ := hb F H1 ω4 rp4 (Same.refl _)
  obtain ⟨ws, w3, _⟩ := hc F H1 ω4 rp4 (Same.refl _)
  exact ⟨a, b, c, rfl, ⟨vs, w1⟩, ⟨us, w2⟩, ⟨ws, w3⟩, k4 _ ω4 _ H1 rp4 .refl (it_zip3 ha hb hc) qz⟩⟩
theorem comp_zip3 {te : AE} {ds es fs : List D} {rs : List D} {v0 v1 v2 : Option AV} {rest : SA} {ω : Om} {K : List AV → SA → Om → Prop} (hl1 : ds.length = rs.length) (hl2 : es.length = rs.length) (hl3 : fs.length = rs.length) (hz : rs.length ≤ sizeLine)
    (he : ∀ (i : Nat) (d e f r : D), ds[i]? = some d → es[i]? = some e → fs[i]? = some f → rs[i]? = some r → ∀ Q : AV → Om → Prop, Q (.d r) ω → te (some (.d d) :: some (.d e) :: some (.d f) :: rest) ω Q)
    (hk : ∀ ρ, K (rs.map AV.d) ρ ω) : aLoop (agTup 3 (agCons (agName 0) (agCons (agName 1) (agCons (agName 2) agNil)))) aNoTest (aLast te) (zip3A ds es fs) [] (v0 :: v1 :: v2 :: rest) ω K := by
  have el : (zip3A ds es fs).length = rs.length := by simp [zip3A, hl1, hl2, hl3]
  refine comp_gix (fun ρ => ∃ v v' v'', ρ = v :: v' :: v'' :: rest) ⟨_, _, _, rfl⟩ el.symm (by omega) (fun i a r ρ N ha hr ⟨v, v', v'', e⟩ k => ?_) (fun ρ _ => hk ρ)
  subst e
  obtain ⟨d, e, f, h1, h2, h3, rfl⟩ := zip3A_get ha
  exact ⟨_, rfl, rfl, _, _, rfl, _, _, rfl, _, _, rfl, rfl, k _ ⟨_, _, _, rfl⟩ (he i d e f r h1 h2 h3 hr)⟩
end
def frzAs (ω : Om) : List AV → (List D → Om → Prop) → Prop
  | [], K => K [] ω
  | x :: r, K => frzA ω x fun d ω1 => frzAs ω1 r fun ds ω2 => K (d :: ds) ω2
theorem frzs_of {F : Fs} {H : Hp} : ∀ {xs : List AV} {vs : List V} {ω : Om} {K : List D → Om → Prop}, Rep F H ω → RVs (cut F H ω) xs vs → frzAs ω xs K → ∃ ds ω', Rep F H ω' ∧ Fr F H ω H ω' ∧ RVs (cut F H ω') (ds.map AV.d) vs ∧ K ds ω'
  | [], vs, ω, K, rp, rv, h => ⟨[], ω, rp, .refl, rv, h⟩
  | x :: r, vs, ω, K, rp, rv, h => by
    obtain ⟨v, us, rfl, h1, h2⟩ := rv
    obtain ⟨d, ω1, rp1, fr1, hd, q⟩ := frz_of rp h1 h
    obtain ⟨ds, ω2, rp2, fr2, hs, q⟩ := frzs_of rp1 (h2.same fr1.same) q
    exact ⟨d :: ds, ω2, rp2, fr1.trans fr2, ⟨v, us, rfl, hd.same fr2.same, hs⟩, q⟩
def aVarFF (i : Nat) : AE := fun ρ ω Q => ∃ l xs, ρ[i]? = some (some (.r (.ref l))) ∧ ω l = some (.own xs) ∧ frzAs ω xs fun ds ω1 => ω1 l = some (.own xs) ∧ Q (.d (.lst ds)) (ω1.put l (.frz ds))
theorem e_varFF {i : Nat} : RefE (tVar i) (aVarFF i) := ⟨fun F H ω σ ρ Q Q' rp rs h k => by
  obtain ⟨l, xs, e, hl, q⟩ := h
  obtain ⟨v, e1, e2⟩ := rs.2 i _ e
  cases (show v = .ref l from e2)
  obtain ⟨vs, hv, rv⟩ := rp.own l xs hl
  obtain ⟨ds, ω1, rp1, fr1, hs, hl1, q⟩ := frzs_of rp rv q
  obtain ⟨rp2, fr2⟩ := rp1.write hl1 hs
  have eu : upd H l (.lst vs) = H := by
    funext b
    by_cases hb : b = l
    · subst hb; rw [upd_same, hv]
    · rw [upd_ne hb]
  rw [eu] at rp2 fr2
  obtain ⟨rp3, fr3, hd⟩ := rp2.freeze Om.put_same
  rw [Om.put_put] at rp3 fr3 hd
  exact ⟨_, e1, k (.d (.lst ds)) _ _ H rp3 ((fr1.trans fr2).trans fr3) hd q⟩⟩
def aBits (to : AE) : AE := fun ρ ω Q => to ρ ω fun x ω1 => ∃ i, x = .d (.int i) ∧ Q (.d (.int ((Builtin.Int.intBits i : Nat) : Int))) ω1
theorem aBits_eq (to : AE) (ρ : SA) (ω : Om) (Q : AV → Om → Prop) : aBits to ρ ω Q = (to ρ ω fun x ω1 => ∃ i, x = .d (.int i) ∧ Q (.d (.int ((Builtin.Int.intBits i : Nat) : Int))) ω1) := rfl
theorem e_bits {K : PySem.W.Frag} {to : TE} {to' : AE} (ho : RefE to to') : RefE (tBM0 K "int" (fun x xs H Q => ∃ i, x = .int i ∧ xs = [] ∧ Q (.int ((Builtin.Int.intBits i : Nat) : Int)) H) to) (aBits to') := ⟨fun F H ω σ ρ Q Q' rp rs w k =>
  ho.go rp rs w fun x ω1 v H1 rp1 fr1 rs1 rv1 ⟨i, e, q1⟩ => by
    subst e
    cases rv_int rv1
    exact ⟨rfl, i, rfl, rfl, k _ ω1 _ H1 rp1 fr1 (by simp [RV, Dat]) q1⟩⟩
end L2
set_option maxHeartbeats 4000000
namespace My
open PySem PySem.Spec L2
set_option linter.all false
set_option maxHeartbeats 4000000
def top (i : Nat) : Stmt := PySem.Challenge.pw_unlikeplace_k54_cases_put_together.main.body.getD i (.Pass ⟨0, 0, 0, 0⟩)
abbrev s_all_words : Stmt := top 12
abbrev s_places_of : Stmt := top 14
abbrev s_value_at : Stmt := top 15
abbrev s_block_starts : Stmt := top 17
abbrev s_inner_word : Stmt := top 18
abbrev s_put_case : Stmt := top 19
abbrev s_l_pen : Stmt := top 21
abbrev s_l_draw : Stmt := top 22
abbrev s_l_all : Stmt := top 23
abbrev s_l_sorts : Stmt := top 24
abbrev s_l_counts : Stmt := top 25
abbrev s_l_table : Stmt := top 26
abbrev s_l_inner : Stmt := top 27
abbrev s_l_put : Stmt := top 28
abbrev s_l_refused : Stmt := top 29
abbrev s_law : Stmt := top 30
theorem sc_all_words : FnScope ["places", "words", "place"] ["places"] (defScope s_all_words) := ⟨rfl, rfl, rfl, by decide +kernel, rfl, by decide +kernel, by decide +kernel⟩
theorem sc_places_of : FnScope ["table"] ["table"] (defScope s_places_of) := ⟨rfl, rfl, rfl, by decide +kernel, rfl, by decide +kernel, by decide +kernel⟩
theorem sc_value_at : FnScope ["table", "word", "at", "bit"] ["table", "word"] (defScope s_value_at) := ⟨rfl, rfl, rfl, by decide +kernel, rfl, by decide +kernel, by decide +kernel⟩
theorem sc_block_starts : FnScope ["counts"] ["counts"] (defScope s_block_starts) := ⟨rfl, rfl, rfl, by decide +kernel, rfl, by decide +kernel, by decide +kernel⟩
theorem sc_inner_word : FnScope ["tables", "word", "counts"] ["tables", "word"] (defScope s_inner_word) := ⟨rfl, rfl, rfl, by decide +kernel, rfl, by decide +kernel, by decide +kernel⟩
theorem sc_put_case : FnScope ["case", "tables", "places", "words", "yes", "no"] ["case", "tables"] (defScope s_put_case) := ⟨rfl, rfl, rfl, by decide +kernel, rfl, by decide +kernel, by decide +kernel⟩
theorem sc_l_pen : FnScope ["_law_script"] ["_law_script"] (defScope s_l_pen) := ⟨rfl, rfl, rfl, by decide +kernel, rfl, by decide +kernel, by decide +kernel⟩
theorem sc_l_draw : FnScope ["_law_pen_here", "_law_many", "_law_cells", "_law_place", "_law_left", "_law_cell", "_law_number"] ["_law_pen_here", "_law_many"] (defScope s_l_draw) := ⟨rfl, rfl, rfl, by decide +kernel, rfl, by decide +kernel, by decide +kernel⟩
theorem sc_l_all : FnScope ["_law_places", "_law_found", "_law_k", "_law_longer", "_law_word"] ["_law_places"] (defScope s_l_all) := ⟨rfl, rfl, rfl, by decide +kernel, rfl, by decide +kernel, by decide +kernel⟩
theorem sc_l_sorts : FnScope ["_law_pen_here", "_law_places", "_law_words", "_law_way", "_law_top", "_law_place", "_law_share", "_law_sorts_here", "_law_word", "_law_more", "_law_sort", "_law_others"] ["_law_pen_here", "_law_places"] (defScope s_l_sorts) := ⟨rfl, rfl, rfl, by decide +kernel, rfl, by decide +kernel, by decide +kernel⟩
theorem sc_l_counts : FnScope ["_law_pen_here", "_law_n", "_law_counts_here", "_law_k", "_law_at"] ["_law_pen_here", "_law_n"] (defScope s_l_counts) := ⟨rfl, rfl, rfl, by decide +kernel, rfl, by decide +kernel, by decide +kernel⟩
theorem sc_l_table : FnScope ["_law_pen_here", "_law_places", "_law_same"] ["_law_pen_here", "_law_places"] (defScope s_l_table) := ⟨rfl, rfl, rfl, by decide +kernel, rfl, by decide +kernel, by decide +kernel⟩
theorem sc_l_inner : FnScope ["_law_tables", "_law_word", "_law_found", "_law_start", "_law_table_here", "_law_number", "_law_places"] ["_law_tables", "_law_word"] (defScope s_l_inner) := ⟨rfl, rfl, rfl, by decide +kernel, rfl, by decide +kernel, by decide +kernel⟩
theorem sc_l_put : FnScope ["_law_places", "_law_case", "_law_tables", "_law_found", "_law_word", "_law_sort"] ["_law_places", "_law_case", "_law_tables"] (defScope s_l_put) := ⟨rfl, rfl, rfl, by decide +kernel, rfl, by decide +kernel, by decide +kernel⟩
theorem sc_l_refused : FnScope ["_law_asked", "_law_caught", "error", "_law_found"] ["_law_asked"] (defScope s_l_refused) := ⟨rfl, rfl, rfl, by decide +kernel, rfl, by decide +kernel, by decide +kernel⟩
theorem sc_law : FnScope ["_law_script", "_law_pen_here", "_law_turn", "_law_n", "_law_case", "_law_counts_here", "_law_places", "_law_tables", "_law_handed", "_law_due"] ["_law_script"] (defScope s_law) := ⟨rfl, rfl, rfl, by decide +kernel, rfl, by decide +kernel, by decide +kernel⟩
structure Adr where
  a_all_words : Addr
  d_all_words : FuncData
  a_places_of : Addr
  d_places_of : FuncData
  a_value_at : Addr
  d_value_at : FuncData
  a_block_starts : Addr
  d_block_starts : FuncData
  a_inner_word : Addr
  d_inner_word : FuncData
  a_put_case : Addr
  d_put_case : FuncData
  a_l_pen : Addr
  d_l_pen : FuncData
  a_l_draw : Addr
  d_l_draw : FuncData
  a_l_all : Addr
  d_l_all : FuncData
  a_l_sorts : Addr
  d_l_sorts : FuncData
  a_l_counts : Addr
  d_l_counts : FuncData
  a_l_table : Addr
  d_l_table : FuncData
  a_l_inner : Addr
  d_l_inner : FuncData
  a_l_put : Addr
  d_l_put : FuncData
  a_l_refused : Addr
  d_l_refused : FuncData
  a_law : Addr
  d_law : FuncData
  k_MOST_PLACES : Tok
  c_law : Addr
  p_law : Addr
  a_TalkError : Addr
  a_NoCase : Addr
  a_NoSaying : Addr
  a_NoTalk : Addr
  a_NoRise : Addr
  a_TooMany : Addr
  a_NoRow : Addr
  a_NoWord : Addr
  a_NoText : Addr
structure Txt (K : PySem.W.Frag) (mg : Str → Option Value) (t : Adr) : Prop where
  m_all_words : mg "all_words" = some (.ref t.a_all_words)
  f_all_words : Fun K "all_words" "all_words" s_all_words t.a_all_words t.d_all_words
  k_all_words : PySem.W.keepIn K (.ref t.a_all_words) = true
  p_all_words : Binds K t.d_all_words ["places"] []
  m_places_of : mg "places_of" = some (.ref t.a_places_of)
  f_places_of : Fun K "places_of" "places_of" s_places_of t.a_places_of t.d_places_of
  k_places_of : PySem.W.keepIn K (.ref t.a_places_of) = true
  p_places_of : Binds K t.d_places_of ["table"] []
  m_value_at : mg "value_at" = some (.ref t.a_value_at)
  f_value_at : Fun K "value_at" "value_at" s_value_at t.a_value_at t.d_value_at
  k_value_at : PySem.W.keepIn K (.ref t.a_value_at) = true
  p_value_at : Binds K t.d_value_at ["table", "word"] []
  m_block_starts : mg "block_starts" = some (.ref t.a_block_starts)
  f_block_starts : Fun K "block_starts" "block_starts" s_block_starts t.a_block_starts t.d_block_starts
  k_block_starts : PySem.W.keepIn K (.ref t.a_block_starts) = true
  p_block_starts : Binds K t.d_block_starts ["counts"] []
  m_inner_word : mg "inner_word" = some (.ref t.a_inner_word)
  f_inner_word : Fun K "inner_word" "inner_word" s_inner_word t.a_inner_word t.d_inner_word
  k_inner_word : PySem.W.keepIn K (.ref t.a_inner_word) = true
  p_inner_word : Binds K t.d_inner_word ["tables", "word"] []
  m_put_case : mg "put_case" = some (.ref t.a_put_case)
  f_put_case : Fun K "put_case" "put_case" s_put_case t.a_put_case t.d_put_case
  k_put_case : PySem.W.keepIn K (.ref t.a_put_case) = true
  p_put_case : Binds K t.d_put_case ["case", "tables"] []
  m_l_pen : mg "_law_pen" = some (.ref t.a_l_pen)
  f_l_pen : Fun K "_law_pen" "_law_pen" s_l_pen t.a_l_pen t.d_l_pen
  k_l_pen : PySem.W.keepIn K (.ref t.a_l_pen) = true
  p_l_pen : Binds K t.d_l_pen ["_law_script"] []
  m_l_draw : mg "_law_draw" = some (.ref t.a_l_draw)
  f_l_draw : Fun K "_law_draw" "_law_draw" s_l_draw t.a_l_draw t.d_l_draw
  k_l_draw : PySem.W.keepIn K (.ref t.a_l_draw) = true
  p_l_draw : Binds K t.d_l_draw ["_law_pen_here", "_law_many"] []
  m_l_all : mg "_law_all" = some (.ref t.a_l_all)
  f_l_all : Fun K "_law_all" "_law_all" s_l_all t.a_l_all t.d_l_all
  k_l_all : PySem.W.keepIn K (.ref t.a_l_all) = true
  p_l_all : Binds K t.d_l_all ["_law_places"] []
  m_l_sorts : mg "_law_sorts" = some (.ref t.a_l_sorts)
  f_l_sorts : Fun K "_law_sorts" "_law_sorts" s_l_sorts t.a_l_sorts t.d_l_sorts
  k_l_sorts : PySem.W.keepIn K (.ref t.a_l_sorts) = true
  p_l_sorts : Binds K t.d_l_sorts ["_law_pen_here", "_law_places"] []
  m_l_counts : mg "_law_counts" = some (.ref t.a_l_counts)
  f_l_counts : Fun K "_law_counts" "_law_counts" s_l_counts t.a_l_counts t.d_l_counts
  k_l_counts : PySem.W.keepIn K (.ref t.a_l_counts) = true
  p_l_counts : Binds K t.d_l_counts ["_law_pen_here", "_law_n"] []
  m_l_table : mg "_law_table" = some (.ref t.a_l_table)
  f_l_table : Fun K "_law_table" "_law_table" s_l_table t.a_l_table t.d_l_table
  k_l_table : PySem.W.keepIn K (.ref t.a_l_table) = true
  p_l_table : Binds K t.d_l_table ["_law_pen_here", "_law_places"] []
  m_l_inner : mg "_law_inner" = some (.ref t.a_l_inner)
  f_l_inner : Fun K "_law_inner" "_law_inner" s_l_inner t.a_l_inner t.d_l_inner
  k_l_inner : PySem.W.keepIn K (.ref t.a_l_inner) = true
  p_l_inner : Binds K t.d_l_inner ["_law_tables", "_law_word"] []
  m_l_put : mg "_law_put" = some (.ref t.a_l_put)
  f_l_put : Fun K "_law_put" "_law_put" s_l_put t.a_l_put t.d_l_put
  k_l_put : PySem.W.keepIn K (.ref t.a_l_put) = true
  p_l_put : Binds K t.d_l_put ["_law_places", "_law_case", "_law_tables"] []
  m_l_refused : mg "_law_refused" = some (.ref t.a_l_refused)
  f_l_refused : Fun K "_law_refused" "_law_refused" s_l_refused t.a_l_refused t.d_l_refused
  k_l_refused : PySem.W.keepIn K (.ref t.a_l_refused) = true
  p_l_refused : Binds K t.d_l_refused ["_law_asked"] []
  m_law : mg "law" = some (.ref t.a_law)
  f_law : Fun K "law" "law" s_law t.a_law t.d_law
  k_law : PySem.W.keepIn K (.ref t.a_law) = true
  p_law : Binds K t.d_law ["_law_script"] []
  bl_law : ∀ (s : Shared) (v : Value), BindsTo s t.d_law ⟨[v], []⟩ [("_law_script", v)]
  b_ValueError : mg "ValueError" = none
  b_abs : mg "abs" = none
  b_int : mg "int" = none
  b_isinstance : mg "isinstance" = none
  b_len : mg "len" = none
  b_list : mg "list" = none
  b_range : mg "range" = none
  b_repr : mg "repr" = none
  b_sum : mg "sum" = none
  b_tuple : mg "tuple" = none
  b_zip : mg "zip" = none
  c_MOST_PLACES : mg "MOST_PLACES" = some (.int 5 t.k_MOST_PLACES)
  ft_law : FunT K "law" "law" s_law t.a_law t.d_law t.c_law t.p_law
  c_TalkError : mg "TalkError" = some (.ref t.a_TalkError)
  c_NoCase : mg "NoCase" = some (.ref t.a_NoCase)
  c_NoSaying : mg "NoSaying" = some (.ref t.a_NoSaying)
  c_NoTalk : mg "NoTalk" = some (.ref t.a_NoTalk)
  c_NoRise : mg "NoRise" = some (.ref t.a_NoRise)
  c_TooMany : mg "TooMany" = some (.ref t.a_TooMany)
  c_NoRow : mg "NoRow" = some (.ref t.a_NoRow)
  c_NoWord : mg "NoWord" = some (.ref t.a_NoWord)
  c_NoText : mg "NoText" = some (.ref t.a_NoText)
  x_NoCase : excOk K t.a_NoCase = true
  q_NoCase_NoRise : PySem.W.kitOne K (.ref t.a_NoCase) (.ref t.a_NoRise) = some false
  q_NoCase_NoRow : PySem.W.kitOne K (.ref t.a_NoCase) (.ref t.a_NoRow) = some false
  q_NoCase_NoSaying : PySem.W.kitOne K (.ref t.a_NoCase) (.ref t.a_NoSaying) = some false
  q_NoCase_NoText : PySem.W.kitOne K (.ref t.a_NoCase) (.ref t.a_NoText) = some false
  q_NoCase_NoWord : PySem.W.kitOne K (.ref t.a_NoCase) (.ref t.a_NoWord) = some false
  q_NoCase_TooMany : PySem.W.kitOne K (.ref t.a_NoCase) (.ref t.a_TooMany) = some false
  q_NoCase_NoCase : PySem.W.kitOne K (.ref t.a_NoCase) (.ref t.a_NoCase) = some true
  q_NoCase_NoTalk : PySem.W.kitOne K (.ref t.a_NoCase) (.ref t.a_NoTalk) = some false
  q_NoCase_ValueError : PySem.W.kitOne K (.ref t.a_NoCase) (.type "ValueError") = some true
  r_NoCase_TalkError : PySem.W.exmOne K (.ref t.a_NoCase) (.ref t.a_TalkError) = some true
  n_NoRise : PySem.W.kitOne K (.type "NoneType") (.ref t.a_NoRise) = some false
  n_NoRow : PySem.W.kitOne K (.type "NoneType") (.ref t.a_NoRow) = some false
  n_NoSaying : PySem.W.kitOne K (.type "NoneType") (.ref t.a_NoSaying) = some false
  n_NoText : PySem.W.kitOne K (.type "NoneType") (.ref t.a_NoText) = some false
  n_NoWord : PySem.W.kitOne K (.type "NoneType") (.ref t.a_NoWord) = some false
  n_TooMany : PySem.W.kitOne K (.type "NoneType") (.ref t.a_TooMany) = some false
  n_NoCase : PySem.W.kitOne K (.type "NoneType") (.ref t.a_NoCase) = some false
  n_NoTalk : PySem.W.kitOne K (.type "NoneType") (.ref t.a_NoTalk) = some false
  n_ValueError : PySem.W.kitOne K (.type "NoneType") (.type "ValueError") = some false
local macro_rules | `(tactic| walk_at "ab") => `(tactic| simp only [aNext_eq, aSeq_eq, aBreak_eq, aCont_eq, aDrop_eq, aRet_eq, aRetN_eq, aIfS_eq, aAsg_eq, agName_eq, agNil_eq, agCons_eq, aFor_eq, aNoTest_eq, aLast_eq, aLFor_eq, aVar_eq, aVarF_eq, aC_eq, aOp_eq, aNil_eq, aCons_eq, aTup_eq, aLst_eq, aLstO_eq, aCall_eq, aCallV_eq, aFold_eq, aFoldD_eq, aDGet_eq, aNilS_eq, aStrI_eq, aJoin_eq, aEnds_eq, aIxZ_eq, aSlX_eq, aMulS_eq, aOrS_eq, aFmt_eq, aFs_nil, aFs_cons, aDPut_eq, aDisp_eq, aVals_nil, aVals_cons, aAddS_eq, aIntS_eq, aiStr_eq, aiRng3_eq, aLenSet_eq, aTupRng_eq, aPar_eq, aIxS_eq, aLenS_eq, aListS_eq, aMaxU_eq, aMinU_eq, aRepO_eq, aTest_eq, aAnd_eq, aOr_eq, aNot_eq, aAndV_eq, aOrV_eq, aNotV_eq, aIf_eq, aRaw_eq, aTru_eq, aI0_eq, aI_eq, aEq_eq, aNe_eq, aEqD_eq, aIn_eq, aCatT_eq, aIxL_eq, aIxT_eq, aIx_eq, aIsN_eq, aIsB_eq, aLen_eq, aAll_eq, aSum_eq, aSumT_eq, aF2_eq, aF1_eq, aInt_eq, aBool_eq, aTupOf_eq, aListOf_eq, aListO_eq, aiList_eq, aiTup_eq, aiRng1_eq, aiRng2_eq, aiEnumL_eq, aiEnumT_eq, agTup_eq, agLst_eq, agSub_eq, aoNone_eq, aoSome_eq, aSlL_eq, aSlT_eq, aRev_eq, aAppend_eq, aExtend_eq, aPop_eq2, emp_concat, last_concat, dropl_concat, aClear_eq, axOf_eq, axIf_eq, axRaise_eq, axAsg_eq, axRet_eq, aTryN_eq, aTryS_eq, aIsX_eq, aIsXT_eq, aIsNX_eq, aSlO_eq, aSortedE_eq, nonA_d, nonA_x, aInsert_eq, aPopAt_eq, aReverse_eq, aRepr_eq, aSorted_eq, aIsA_eq, aCatL_eq, aCatLO_eq, aRepL_eq, aChain_eq, aOrG_eq, aAndG_eq, aNotG_eq, aiSeq_eq, aiEnum_eq, aiZip_eq, aiZip3_eq, aBits_eq, aReprX_eq, aSumU_eq, aComp_eq, aCompO_eq, aUn_eq, aCB_eq, aU_eq, aSGet_eq, aAdd_int, aAdd_tup, sne_0_1, sne_0_2, sne_0_3, sne_0_4, sne_0_5, sne_0_6, sne_0_7, sne_0_8, sne_0_9, sne_1_0, sne_1_2, sne_1_3, sne_1_4, sne_1_5, sne_1_6, sne_1_7, sne_1_8, sne_1_9, sne_2_0, sne_2_1, sne_2_3, sne_2_4, sne_2_5, sne_2_6, sne_2_7, sne_2_8, sne_2_9, sne_3_0, sne_3_1, sne_3_2, sne_3_4, sne_3_5, sne_3_6, sne_3_7, sne_3_8, sne_3_9, sne_4_0, sne_4_1, sne_4_2, sne_4_3, sne_4_5, sne_4_6, sne_4_7, sne_4_8, sne_4_9, sne_5_0, sne_5_1, sne_5_2, sne_5_3, sne_5_4, sne_5_6, sne_5_7, sne_5_8, sne_5_9, sne_6_0, sne_6_1, sne_6_2, sne_6_3, sne_6_4, sne_6_5, sne_6_7, sne_6_8, sne_6_9, sne_7_0, sne_7_1, sne_7_2, sne_7_3, sne_7_4, sne_7_5, sne_7_6, sne_7_8, sne_7_9, sne_8_0, sne_8_1, sne_8_2, sne_8_3, sne_8_4, sne_8_5, sne_8_6, sne_8_7, sne_8_9, sne_9_0, sne_9_1, sne_9_2, sne_9_3, sne_9_4, sne_9_5, sne_9_6, sne_9_7, sne_9_8, aAdd_wd, aAdd_wds, tupA_wd, lstA_wd, lenA_wd, seqD_wd, slA_wd, truA_wd, eqD_wd, dep_wd, aAdd_lst, aAdd_ref, aAddO_int, aAddO_lst, aAddO_ref, aMul_int, aMul_lst, aSl_eq, slA_tup, slA_lst, slA_ref, frzA_d, frzA_r, datA_d, datA_r, lstA_l, lstA_t, lstA_r, tupA_t, tupA_l, tupA_r, truA_b, truA_i, truA_n, truA_t, truA_l, truA_r, und_cons, und_nil, und_map, lenA_t, lenA_l, lenA_r, seqD_t, seqD_l, aForL_nil, aForL_cons, aLoop_nil, aLoop_cons, startA, blkA, Om.put_same, Om.put_put, sz1, sz2, sz3, sz4, sz5, sz6, sz7, sz8, sz9, sz10, sz11, sz12, Int.toNat_natCast, ixN_30, ixN_31, ixN_32, atI_0, atI_1, atI_2, atI_3, eqD_int, eqD_str, eqD_bl, eqD_nn, eqD_tn, eqD_ln, dep_int, dep_str, dep_bl, dep_non, intD_int, intD_bl, boolD_int, boolD_bl, Nat.zero_le, AV.d.injEq, AV.r.injEq, D.int.injEq, D.bl.injEq, D.str.injEq, D.tup.injEq, D.lst.injEq, OC.own.injEq, OC.frz.injEq, V.ref.injEq, V.ty.injEq, V.int.injEq, V.str.injEq, V.bl.injEq, List.map_cons, List.map_nil, List.cons_append, List.nil_append, List.length_cons, List.length_nil, List.length_map, List.length_append, List.replicate, List.getElem?_cons_zero, List.getElem?_cons_succ, List.set_cons_zero, List.set_cons_succ, Option.some.injEq, Option.map_some, Option.join_some, exists_eq', exists_eq, exists_eq_left', exists_eq_left, exists_eq_right, exists_eq_right', List.cons.injEq, and_true, true_and, and_assoc, exists_and_left, exists_and_right, Nat.sub_self, Nat.reduceAdd, Nat.reduceSub, Nat.reduceLeDiff, Int.reduceLT, Int.reduceLE, Int.reduceAdd, Int.reduceSub, Int.reduceToNat, Nat.reduceLT, decide_eq_true_eq, Bool.not_eq_true, Bool.not_true, Bool.not_false, if_true, if_false, Bool.false_eq_true, reduceCtorEq, false_and, and_false, or_false, false_or, exists_false, beq_iff_eq, bne_iff_ne, ne_eq, Bool.true_eq_false])
local macro_rules | `(tactic| walk_at "a1") => `(tactic| simp only [aNext_eq, aBreak_eq, aCont_eq, aDrop_eq, aRet_eq, aRetN_eq, aIfS_eq, aAsg_eq, agName_eq, agNil_eq, agCons_eq, aFor_eq, aNoTest_eq, aLast_eq, aLFor_eq, aVar_eq, aVarF_eq, aC_eq, aOp_eq, aNil_eq, aCons_eq, aTup_eq, aLst_eq, aLstO_eq, aCall_eq, aCallV_eq, aFold_eq, aFoldD_eq, aDGet_eq, aNilS_eq, aStrI_eq, aJoin_eq, aEnds_eq, aIxZ_eq, aSlX_eq, aMulS_eq, aOrS_eq, aFmt_eq, aFs_nil, aFs_cons, aDPut_eq, aDisp_eq, aVals_nil, aVals_cons, aAddS_eq, aIntS_eq, aiStr_eq, aiRng3_eq, aLenSet_eq, aTupRng_eq, aPar_eq, aIxS_eq, aLenS_eq, aListS_eq, aMaxU_eq, aMinU_eq, aRepO_eq, aTest_eq, aAnd_eq, aOr_eq, aNot_eq, aAndV_eq, aOrV_eq, aNotV_eq, aIf_eq, aRaw_eq, aTru_eq, aI0_eq, aI_eq, aEq_eq, aNe_eq, aEqD_eq, aIn_eq, aCatT_eq, aIxL_eq, aIxT_eq, aIx_eq, aIsN_eq, aIsB_eq, aLen_eq, aAll_eq, aSum_eq, aSumT_eq, aF2_eq, aF1_eq, aInt_eq, aBool_eq, aTupOf_eq, aListOf_eq, aListO_eq, aiList_eq, aiTup_eq, aiRng1_eq, aiRng2_eq, aiEnumL_eq, aiEnumT_eq, agTup_eq, agLst_eq, agSub_eq, aoNone_eq, aoSome_eq, aSlL_eq, aSlT_eq, aRev_eq, aAppend_eq, aExtend_eq, aPop_eq2, emp_concat, last_concat, dropl_concat, aClear_eq, axOf_eq, axIf_eq, axRaise_eq, axAsg_eq, axRet_eq, aTryN_eq, aTryS_eq, aIsX_eq, aIsXT_eq, aIsNX_eq, aSlO_eq, aSortedE_eq, nonA_d, nonA_x, aInsert_eq, aPopAt_eq, aReverse_eq, aRepr_eq, aSorted_eq, aIsA_eq, aCatL_eq, aCatLO_eq, aRepL_eq, aChain_eq, aOrG_eq, aAndG_eq, aNotG_eq, aiSeq_eq, aiEnum_eq, aiZip_eq, aiZip3_eq, aBits_eq, aReprX_eq, aSumU_eq, aComp_eq, aCompO_eq, aUn_eq, aCB_eq, aU_eq, aSGet_eq, aAdd_int, aAdd_tup, sne_0_1, sne_0_2, sne_0_3, sne_0_4, sne_0_5, sne_0_6, sne_0_7, sne_0_8, sne_0_9, sne_1_0, sne_1_2, sne_1_3, sne_1_4, sne_1_5, sne_1_6, sne_1_7, sne_1_8, sne_1_9, sne_2_0, sne_2_1, sne_2_3, sne_2_4, sne_2_5, sne_2_6, sne_2_7, sne_2_8, sne_2_9, sne_3_0, sne_3_1, sne_3_2, sne_3_4, sne_3_5, sne_3_6, sne_3_7, sne_3_8, sne_3_9, sne_4_0, sne_4_1, sne_4_2, sne_4_3, sne_4_5, sne_4_6, sne_4_7, sne_4_8, sne_4_9, sne_5_0, sne_5_1, sne_5_2, sne_5_3, sne_5_4, sne_5_6, sne_5_7, sne_5_8, sne_5_9, sne_6_0, sne_6_1, sne_6_2, sne_6_3, sne_6_4, sne_6_5, sne_6_7, sne_6_8, sne_6_9, sne_7_0, sne_7_1, sne_7_2, sne_7_3, sne_7_4, sne_7_5, sne_7_6, sne_7_8, sne_7_9, sne_8_0, sne_8_1, sne_8_2, sne_8_3, sne_8_4, sne_8_5, sne_8_6, sne_8_7, sne_8_9, sne_9_0, sne_9_1, sne_9_2, sne_9_3, sne_9_4, sne_9_5, sne_9_6, sne_9_7, sne_9_8, aAdd_wd, aAdd_wds, tupA_wd, lstA_wd, lenA_wd, seqD_wd, slA_wd, truA_wd, eqD_wd, dep_wd, aAdd_lst, aAdd_ref, aAddO_int, aAddO_lst, aAddO_ref, aMul_int, aMul_lst, aSl_eq, slA_tup, slA_lst, slA_ref, frzA_d, frzA_r, datA_d, datA_r, lstA_l, lstA_t, lstA_r, tupA_t, tupA_l, tupA_r, truA_b, truA_i, truA_n, truA_t, truA_l, truA_r, und_cons, und_nil, und_map, lenA_t, lenA_l, lenA_r, seqD_t, seqD_l, aForL_nil, aLoop_nil, startA, blkA, Om.put_same, Om.put_put, sz1, sz2, sz3, sz4, sz5, sz6, sz7, sz8, sz9, sz10, sz11, sz12, Int.toNat_natCast, ixN_30, ixN_31, ixN_32, atI_0, atI_1, atI_2, atI_3, eqD_int, eqD_str, eqD_bl, eqD_nn, eqD_tn, eqD_ln, dep_int, dep_str, dep_bl, dep_non, intD_int, intD_bl, boolD_int, boolD_bl, Nat.zero_le, AV.d.injEq, AV.r.injEq, D.int.injEq, D.bl.injEq, D.str.injEq, D.tup.injEq, D.lst.injEq, OC.own.injEq, OC.frz.injEq, V.ref.injEq, V.ty.injEq, V.int.injEq, V.str.injEq, V.bl.injEq, List.map_cons, List.map_nil, List.cons_append, List.nil_append, List.length_cons, List.length_nil, List.length_map, List.length_append, List.replicate, List.getElem?_cons_zero, List.getElem?_cons_succ, List.set_cons_zero, List.set_cons_succ, Option.some.injEq, Option.map_some, Option.join_some, exists_eq', exists_eq, exists_eq_left', exists_eq_left, exists_eq_right, exists_eq_right', List.cons.injEq, and_true, true_and, and_assoc, exists_and_left, exists_and_right, Nat.sub_self, Nat.reduceAdd, Nat.reduceSub, Nat.reduceLeDiff, Int.reduceLT, Int.reduceLE, Int.reduceAdd, Int.reduceSub, Int.reduceToNat, Nat.reduceLT, decide_eq_true_eq, Bool.not_eq_true, Bool.not_true, Bool.not_false, if_true, if_false, Bool.false_eq_true, reduceCtorEq, false_and, and_false, or_false, false_or, exists_false, beq_iff_eq, bne_iff_ne, ne_eq, Bool.true_eq_false])
local macro_rules | `(tactic| walk_at "s1") => `(tactic| (try walk_at "a1"); (first | rw [aSeq_eq] | rw [axSeq_eq]); walk_at "a1")
section
variable {P : Program} {w : World} {K : PySem.W.Frag} {mg : Str → Option Value} {base : Heap} {t : Adr}
def scr (K : PySem.W.Frag) (a : Addr) (ns : List Int) : AV := .p (.ref a) (fun H => SqL K H a (ns.map V.int))
def aSlS (K : PySem.W.Frag) (te : AE) (tl th : AO) : AE := fun ρ ω Q => te ρ ω fun x ω1 => tl ρ ω1 fun lo ω2 => th ρ ω2 fun hi ω3 => ∃ a ns, x = scr K a ns ∧ Q (.d (.lst (cutL (ns.map D.int) lo hi))) ω3
theorem e_slS {te : TE} {te' : AE} {tl th : TO} {tl' th' : AO} (he : RefE te te') (hl : Ref REq tl tl') (hh : Ref REq th th') : RefE (tSl (rSlAny K) te tl th) (aSlS K te' tl' th') := ⟨fun F H ω σ ρ Q Q' rp rs w k =>
  he.go rp rs w fun x ω1 v H1 rp1 fr1 rs1 rv1 q1 => hl.go rp1 rs1 q1 fun lo ω2 lo' H2 rp2 fr2 rs2 e2 q2 => hh.go rp2 rs2 q2 fun hi ω3 hi' H3 rp3 fr3 rs3 e3 ⟨a, ns, e, q⟩ => by
    cases (show lo = lo' from e2)
    cases (show hi = hi' from e3)
    subst e
    obtain ⟨e4, e5⟩ := rv1.same (fr2.trans fr3).same
    exact .inl ⟨a, _, e4, e5 _ cut_same, (k.fr ((fr1.trans fr2).trans fr3)).lst rp3 (dats_ints _ ns).cut q⟩⟩
structure Pl where
  ns : List Int
  i : Int
  f : Int
  h0 : 0 ≤ i
  hf : 0 ≤ f
  hn : ns.length ≤ 63
def plO (c : Pl) : OC := .own [.d (.lst (c.ns.map D.int)), .d (.int c.i), .d (.int c.f)]
def PlAt (ω : Om) (p : Addr) : Prop := ∃ c, ω p = some (plO c)
theorem plAt_put {ω : Om} {p : Addr} {c : Pl} : PlAt (ω.put p (plO c)) p := ⟨c, Om.put_same⟩
def sp_pen (K : PySem.W.Frag) : ASp := fun xs ω Q => ∃ (a : Addr) (ns : List Int), xs = [scr K a ns] ∧ ns.length ≤ 63 ∧ ∀ p c, ω p = none → Q (.r (.ref p)) (ω.put p (plO c))
theorem ok_pen (T : Txt K mg t) : FnOk P w K mg base CX0 1 t.a_l_pen t.d_l_pen ["_law_script"] (lift (sp_pen K)) := by
  refine T.f_l_pen.okA sc_l_pen (fun xs ω Q h => by obtain ⟨a, ns, rfl, _⟩ := h; rfl) (fun cdv A outer s H E hr => ⟨_, _, (pss_one (ps_ret (pe_lst (pa_cons (pe_slice (sl_any K rfl) (pv 0) po_none (po_some pe_int)) (pa_consC pe_int (pa_consC pe_int pa_nil)))))), (s_ret (e_lstO (a_cons (e_slS e_var n_none (n_some e_int)) (a_cons e_int (a_cons e_int a_nil))))), fun xs ω Q h => ?_⟩)
  obtain ⟨a, ns, rfl, hn, k⟩ := h
  walk_at "ab"
  unfold aSlS
  walk_at "ab"
  refine ⟨a, ns, rfl, fun p hp => ?_⟩
  have e : cutL (ns.map D.int) none (some 63) = (cutL ns none (some 63)).map D.int := by simp [cutL]
  rw [e]
  exact k p ⟨cutL ns none (some 63), 0, 0, Int.le_refl _, Int.le_refl _, Nat.le_trans (by simp only [cutL, List.length_take, List.length_drop]; omega) hn⟩ hp
def sp_draw : ASp := fun xs ω Q => ∃ (p : Addr) (m : Int), xs = [.r (.ref p), .d (.int m)] ∧ PlAt ω p ∧ 0 < m ∧ m < 1073741824 ∧ ∀ (r : Int) (c : Pl), 0 ≤ r → r < m → Q (.d (.int r)) (ω.put p (plO c))
theorem ok_draw (T : Txt K mg t) : FnOk P w K mg base CX0 1 t.a_l_draw t.d_l_draw ["_law_pen_here", "_law_many"] (lift sp_draw) := by
  refine T.f_l_draw.okA sc_l_draw (fun xs ω Q h => by obtain ⟨p, m, rfl, _⟩ := h; rfl) (fun cdv A outer s H E hr => ⟨_, _, (pss_cons (ps_asg (pv 0) (pg_lst (n := 3) rfl (pgs_cons (pg_name (i := 2) sc_l_draw.nd rfl (Or.inl rfl)) (pgs_cons (pg_name (i := 3) sc_l_draw.nd rfl (Or.inl rfl)) (pgs_cons (pg_name (i := 4) sc_l_draw.nd rfl (Or.inl rfl)) pgs_nil)))))
      (pss_cons (ps_if (pt_cmpR op_gt (pv 4) pe_int (nomark _)) (pss_cons (ps_asg (pe_op op_fdiv (pv 4) (pv 1)) (pg_sub (pv 0) pe_int set_list))
      (pss_one (ps_ret (pe_op op_mod (pv 4) (pv 1))))) pss_nil)
      (pss_cons (ps_asg (pe_op (op_alt op_add (op_alt op_cat3 op_cat)) (pv 3) pe_int) (pg_sub (pv 0) pe_int set_list))
      (pss_cons (ps_set (i := 5) sc_l_draw.nd rfl (Or.inl rfl) pe_int)
      (pss_cons (ps_if (pt_cmpR op_gt (pe_callB (call_lenK K rfl) (by rfl) T.b_len (by kernel_rfl) (pa_cons (pv 2) pa_nil)) pe_int (nomark _)) (pss_one (ps_set (i := 5) sc_l_draw.nd rfl (Or.inl rfl) (pe_ix (ix_seqK K rfl) (pv 2) (pe_op op_mod (pv 3) (pe_callB (call_lenK K rfl) (by rfl) T.b_len (by kernel_rfl) (pa_cons (pv 2) pa_nil))) (fun _ _ => rfl)))) pss_nil)
      (pss_cons (ps_if (PW.pt (pw_and (pt_cmpR op_lt (pv 3) (pe_callB (call_lenK K rfl) (by rfl) T.b_len (by kernel_rfl) (pa_cons (pv 2) pa_nil)) (nomark _)) (pw_and1 (pt_cmpR op_ge (pe_callB call_abs (by rfl) T.b_abs (by kernel_rfl) (pa_cons (pv 5) pa_nil)) (pe_op op_pow pe_int pe_int) (nomark _))))) (pss_cons (ps_asg (pe_op op_fdiv (pe_callB call_abs (by rfl) T.b_abs (by kernel_rfl) (pa_cons (pv 5) pa_nil)) (pv 1)) (pg_sub (pv 0) pe_int set_list))
      (pss_one (ps_ret (pe_op op_mod (pe_callB call_abs (by rfl) T.b_abs (by kernel_rfl) (pa_cons (pv 5) pa_nil)) (pv 1))))) pss_nil)
      (pss_cons (ps_set (i := 6) sc_l_draw.nd rfl (Or.inl rfl) (pe_op op_mod (pe_op (op_alt op_mul op_rep) (pe_op (op_alt op_add (op_alt op_cat3 op_cat)) (pe_op (op_alt op_add (op_alt op_cat3 op_cat)) (pe_op op_mod (pv 5) pe_int) (pe_op (op_alt op_mul op_rep) pe_int (pv 3))) pe_int) pe_int) pe_int))
      (pss_cons (ps_set (i := 6) sc_l_draw.nd rfl (Or.inl rfl) (pe_op op_mod (pe_op (op_alt op_add (op_alt op_cat3 op_cat)) (pe_op (op_alt op_add (op_alt op_cat3 op_cat)) (pe_op (op_alt op_mul op_rep) (pv 6) (pv 6)) (pe_op (op_alt op_mul op_rep) pe_int (pv 6))) (pv 3)) pe_int))
      (pss_cons (ps_set (i := 6) sc_l_draw.nd rfl (Or.inl rfl) (pe_op op_mod (pe_op (op_alt op_add (op_alt op_cat3 op_cat)) (pe_op (op_alt op_mul op_rep) (pv 6) pe_int) (pe_op (op_alt op_mul op_rep) pe_int (pv 3))) pe_int))
      (pss_one (ps_ret (pe_op op_mod (pe_op op_fdiv (pe_op op_mod (pe_op (op_alt op_mul op_rep) (pv 6) (pv 6)) pe_int) pe_int) (pv 1))))))))))))), (s_seq (s_asg e_var (g_lst (g_cons g_name (g_cons g_name (g_cons g_name g_nil)))))
      (s_seq (s_if (t_test (e_op o_I0b e_var e_int)) (s_seq (s_asg (e_op o_Ii e_var e_var) (g_sub e_var e_int))
      (s_ret (e_op o_Ii e_var e_var))) s_next)
      (s_seq (s_asg (e_op o_add e_var e_int) (g_sub e_var e_int))
      (s_seq (s_asg e_int g_name)
      (s_seq (s_if (t_test (e_op o_I0b (e_cb c_len (a_cons e_var a_nil)) e_int)) (s_asg (e_op o_ix e_var (e_op o_Ii e_var (e_cb c_len (a_cons e_var a_nil)))) g_name) s_next)
      (s_seq (s_if (t_and (t_test (e_op o_I0b e_var (e_cb c_len (a_cons e_var a_nil)))) (t_test (e_op o_I0b (e_cb c_F1 (a_cons e_var a_nil)) (e_op o_Ii e_int e_int)))) (s_seq (s_asg (e_op o_Ii (e_cb c_F1 (a_cons e_var a_nil)) e_var) (g_sub e_var e_int))
      (s_ret (e_op o_Ii (e_cb c_F1 (a_cons e_var a_nil)) e_var))) s_next)
      (s_seq (s_asg (e_op o_Ii (e_op o_mul (e_op o_add (e_op o_add (e_op o_Ii e_var e_int) (e_op o_mul e_int e_var)) e_int) e_int) e_int) g_name)
      (s_seq (s_asg (e_op o_Ii (e_op o_add (e_op o_add (e_op o_mul e_var e_var) (e_op o_mul e_int e_var)) e_var) e_int) g_name)
      (s_seq (s_asg (e_op o_Ii (e_op o_add (e_op o_mul e_var e_int) (e_op o_mul e_int e_var)) e_int) g_name)
      (s_ret (e_op o_Ii (e_op o_Ii (e_op o_Ii (e_op o_mul e_var e_var) e_int) e_int) e_var))))))))))), fun xs ω Q h => ?_⟩)
  obtain ⟨p, m, rfl, ⟨c, hp⟩, hm, hm2, k⟩ := h
  have fin : ∀ (r : Int) (c : Pl), Q (.d (.int (r % m))) (ω.put p (plO c)) := fun r c => k _ c (Int.emod_nonneg _ (by omega)) (Int.emod_lt_of_pos _ hm)
  unfold plO at hp
  walk_at "s1"
  rw [hp]
  refine ⟨_, rfl, rfl, _, _, rfl, _, _, rfl, _, _, rfl, rfl, ?_⟩
  walk_at "s1"
  refine ite2 (fun h1 => ?_) (fun h1 => ?_)
  · walk_at "ab"
    simp only [hp]
    walk_at "ab"
    exact ⟨⟨hm, hm2⟩, hm, fin _ ⟨c.ns, c.i, c.f / m, c.h0, Int.ediv_nonneg c.hf (by omega), c.hn⟩⟩
  · walk_at "s1"
    simp only [hp]
    walk_at "a1"
    walk_at "s1"
    refine seq_cut (fun ρ' ω' => ω' = ω.put p (OC.own [AV.d (D.lst (c.ns.map D.int)), AV.d (D.int (c.i + 1)), AV.d (D.int c.f)]) ∧ ∃ x : Int, ρ' = [some (AV.r (V.ref p)), some (AV.d (D.int m)), some (AV.d (D.lst (c.ns.map D.int))), some (AV.d (D.int c.i)), some (AV.d (D.int c.f)), some (AV.d (D.int x)), none]) (fun M kM => ?_) ?_
    · walk_at "a1"
      refine ite2 (fun h2 => ?_) (fun h2 => ?_)
      · have hx1 : 0 ≤ c.i % (c.ns.length : Int) := Int.emod_nonneg _ (by omega)
        have hx2 : c.i % (c.ns.length : Int) < (c.ns.length : Int) := Int.emod_lt_of_pos _ h2
        obtain ⟨y, _, _, ey⟩ := map_nth (f := AV.d ∘ D.int) (xs := c.ns) hx1 hx2
        rw [← List.map_map] at ey
        exact ⟨h2, _, ey, kM _ _ ⟨rfl, _, rfl⟩⟩
      · exact kM _ _ ⟨rfl, _, rfl⟩
    rintro ρ ω' ⟨rfl, x, rfl⟩
    have absn : ∀ z : Int, 0 ≤ (if z < 0 then -z else z) := fun z => by split <;> omega
    refine seq_cut (fun ρ' ω' => ω' = ω.put p (OC.own [AV.d (D.lst (c.ns.map D.int)), AV.d (D.int (c.i + 1)), AV.d (D.int c.f)]) ∧ ρ' = [some (AV.r (V.ref p)), some (AV.d (D.int m)), some (AV.d (D.lst (c.ns.map D.int))), some (AV.d (D.int c.i)), some (AV.d (D.int c.f)), some (AV.d (D.int x)), none]) (fun M kM => ?_) ?_
    · walk_at "a1"
      refine ite2 (fun h2 => ⟨⟨by decide, by decide, by decide⟩, ite2 (fun h3 => ?_) (fun h3 => kM _ _ ⟨rfl, rfl⟩)⟩) (fun h2 => kM _ _ ⟨rfl, rfl⟩)
      walk_at "ab"
      exact ⟨⟨hm, hm2⟩, hm, fin _ ⟨c.ns, c.i + 1, (if x < 0 then -x else x) / m, by have := c.h0; omega, Int.ediv_nonneg (absn x) (by omega), c.hn⟩⟩
    rintro ρ ω' ⟨rfl, rfl⟩
    walk_at "ab"
    exact ⟨cmul_l (by decide), cmul_r (by decide), cmul_mod (by decide) (by decide), cmul_l (by decide), cmul_r (by decide), cmul_l (by decide), cmul_mod (by decide) (by decide), ⟨by decide, by decide⟩, hm, fin _ ⟨c.ns, c.i + 1, c.f, by have := c.h0; omega, c.hf, c.hn⟩⟩
theorem scr_start {H : Hp} {a : Addr} {ns : List Int} (h : SqL K H a (ns.map V.int)) : RV (cut (fun _ => false) H (fun _ => none)) (scr K a ns) (.ref a) := by
  refine ⟨rfl, fun G' s => ?_⟩
  have s2 : Same H G' := fun b o e => s b o (cut_some.mpr ⟨rfl, rfl, e⟩)
  rcases h with (h | ⟨o, h⟩) | h
  · exact .inl (.inl (s2 _ _ h))
  · exact .inl (.inr ⟨o, s2 _ _ h⟩)
  · exact .inr h
theorem rep0 {H : Hp} : Rep (fun _ => false) H (fun _ => none) := ⟨fun _ _ h => by simp at h, fun _ _ h => by simp at h, fun _ h => by simp at h, fun _ _ h => by simp at h⟩
def sp_lawA (K : PySem.W.Frag) : ASp := fun xs ω Q => ∃ (a : Addr) (ns : List Int), xs = [scr K a ns] ∧ ns.length ≤ 63 ∧ ω = (fun _ => none) ∧ ∀ ω', Q (.d (.bl true)) ω'
def sp_law (K : PySem.W.Frag) : Sp := lift (sp_lawA K)
theorem start_law {K : PySem.W.Frag} {H : Hp} {a : Addr} {ns : List Int} (hl : ns.length ≤ 63) (hO : Only H) (hS : SqL K H a (ns.map V.int)) : sp_law K [.ref a] H (fun v _ => v = .bl true) fun _ _ _ => False :=
  ⟨fun _ => false, [scr K a ns], fun _ => none, fun a _ => a = .d (.bl true), rep0, ⟨_, _, rfl, scr_start hS, rfl⟩, ⟨a, ns, rfl, hl, rfl, fun _ => rfl⟩, fun a ω' v H' _ _ rv q => by subst q; exact rv_bl rv⟩
end
section
variable {P : Program} {w : World} {K : PySem.W.Frag} {mg : Str → Option Value} {base : Heap} {t : Adr}
def sp_all : ASp := fun xs ω Q => ∃ n : Nat, xs = [.d (.int n)] ∧ n ≤ 5 ∧ Q (.d (.lst ((wl n).map wdD))) ω
theorem ok_all (T : Txt K mg t) : FnOk P w K mg base CX0 1 t.a_l_all t.d_l_all ["_law_places"] (lift sp_all) := by
  refine T.f_l_all.okD sc_l_all (fun xs ω Q h => by obtain ⟨n, rfl, _⟩ := h; rfl) (fun cdv A outer s H E hr => ⟨_, _, (pss_cons (ps_set (i := 1) sc_l_all.nd rfl (Or.inl rfl) (pe_lst (pa_consT (pe_tup pa_nil) pa_nil)))
      (pss_cons (ps_for PassesOwn.never rfl (pi_range1 rfl T.b_range (pa_cons (pv 0) pa_nil)) (pg_name (i := 2) sc_l_all.nd rfl (Or.inl rfl)) (pss_cons (ps_set (i := 3) sc_l_all.nd rfl (Or.inl rfl) (pe_lst pa_nil))
      (pss_cons (ps_for PassesOwn.never rfl (pi_seq K rfl (pv 1)) (pg_name (i := 4) sc_l_all.nd rfl (Or.inl rfl)) (pss_one (ps_set (i := 3) sc_l_all.nd rfl (Or.inl rfl) (pe_op (op_alt op_add (op_alt op_cat3 op_cat)) (pv 3) (pe_lst (pa_cons (pe_op (op_alt op_add (op_alt op_cat3 op_cat)) (pv 4) (pe_tup (pa_consC pe_int pa_nil))) (pa_cons (pe_op (op_alt op_add (op_alt op_cat3 op_cat)) (pv 4) (pe_tup (pa_consC pe_int pa_nil))) pa_nil)))))))
      (pss_one (ps_set (i := 1) sc_l_all.nd rfl (Or.inl rfl) (pv 3))))))
      (pss_one (ps_ret (pv 1))))), (s_seq (s_asg (e_lst (a_cons (e_tup a_nil) a_nil)) g_name)
      (s_seq (s_for (i_rng1 (a_cons e_var a_nil)) g_name (s_seq (s_asg (e_lst a_nil) g_name)
      (s_seq (s_for (i_seq e_var) g_name (s_asg (e_op o_add e_var (e_lst (a_cons (e_op o_add e_var (e_tup (a_cons e_int a_nil))) (a_cons (e_op o_add e_var (e_tup (a_cons e_int a_nil))) a_nil)))) g_name))
      (s_asg e_var g_name))))
      (s_ret e_var))), fun xs ω Q h => ?_⟩)
  obtain ⟨n, rfl, hn, k⟩ := h
  walk_at "ab"
  refine ⟨by omega, by omega, ?_⟩
  refine for_rng (fun i ρ ω' => ω' = ω ∧ ∃ v2 v3 v4, ρ = [some (.d (.int n)), some (.d (.lst ((wl i).map wdD))), v2, v3, v4]) ⟨rfl, _, _, _, rfl⟩ ?_ ?_
  · rintro i ρ ω1 N hi ⟨rfl, v2, v3, v4, rfl⟩ kN
    have hw := wl_le (n := i) (by omega)
    walk_at "ab"
    refine for_D (fun j ρ ω2 => ω2 = ω1 ∧ ∃ v4, ρ = [some (.d (.int n)), some (.d (.lst ((wl i).map wdD))), some (.d (.int (0 + i))), some (.d (.lst (((((wl i).take j).flatMap fun w => [w ++ [0], w ++ [1]]).map wdD)))), v4]) ⟨rfl, _, rfl⟩ ?_ ?_
    · rintro j d ρ ω2 M hd ⟨rfl, v4, rfl⟩ kM
      obtain ⟨x, hx, rfl⟩ := map_get hd
      have hx1 := (wl_mem (List.mem_of_getElem? hx)).1
      have hj := (List.getElem?_eq_some_iff.mp hx).1
      have hl2 : ((((wl i).take j).flatMap fun w => [w ++ [0], w ++ [1]]).length) = 2 * j := by
        have h : ∀ ws : List (List Int), (ws.flatMap fun w => [w ++ [0], w ++ [1]]).length = 2 * ws.length := fun ws => by
          induction ws with
          | nil => rfl
          | cons a r ih => rw [List.flatMap_cons, List.length_append, ih]; simp; omega
        rw [h, List.length_take]; omega
      walk_at "ab"
      have et : (((wl i).take (j + 1)).flatMap fun w => [w ++ [0], w ++ [1]]) = ((wl i).take j).flatMap (fun w => [w ++ [0], w ++ [1]]) ++ [x ++ [0], x ++ [1]] := by
        rw [List.take_succ, hx, List.flatMap_append]; simp
      exact ⟨le_dec (m := 0) (by omega), le_dec (m := 0) (by omega), le_dec (m := 0) (by rw [hl2]; omega), kM _ _ ⟨rfl, some (.d (wdD x)), by rw [et]; simp⟩⟩
    · rintro ρ ω2 ⟨rfl, v4, rfl⟩
      rw [List.length_map, List.take_length]
      walk_at "ab"
      exact kN _ _ ⟨rfl, _, _, _, rfl⟩
  · rintro ρ ω1 ⟨rfl, v2, v3, v4, rfl⟩
    walk_at "ab"
    rw [only_self]
    exact k
end
section
variable {P : Program} {w : World} {K : PySem.W.Frag} {mg : Str → Option Value} {base : Heap} {t : Adr}
def startsL (cs : List Int) : List Int := (List.range cs.length).map fun k => (cs.take k).sum
def sp_starts : ASp := fun xs ω Q => ∃ (cs : List Int), xs = [.d (.lst (cs.map D.int))] ∧ cs.length ≤ 5 ∧ Q (.d (.lst ((startsL cs).map D.int))) ω
theorem ok_starts (T : Txt K mg t) : FnOk P w K mg base CX0 1 t.a_block_starts t.d_block_starts ["counts"] (lift sp_starts) := by
  refine T.f_block_starts.okD sc_block_starts (fun xs ω Q h => by obtain ⟨cs, rfl, _⟩ := h; rfl) (fun cdv A outer s H E hr => ⟨_, _, (pss_one (ps_ret (pe_comp (N := (["k", "counts"] : List Str)) (src := [none, some 0]) rfl (by show blkOk _ (defScope s_block_starts) _ _ (["counts"] : List Str) = true; decide +kernel) (by intro g' h; cases h) (pi_range1 rfl T.b_range (pa_cons (pe_callB (call_lenK K rfl) (by rfl) T.b_len (by kernel_rfl) (pa_cons (pv 0) pa_nil)) pa_nil)) (fun _ _ _ _ _ _ => (pg_name (i := 0) (show (["k", "counts"] : List Str).Nodup by decide +kernel) rfl (Or.inl rfl))) (fun _ _ _ _ _ _ => pts_nil) (fun _ _ _ _ _ _ => (pl_last rfl rfl (pe_callB (call_sumU K rfl rfl) (by rfl) T.b_sum (by kernel_rfl) (pa_cons (pe_slice (sl_any K rfl) (pv 1) po_none (po_some (pv 0))) pa_nil))))))), (s_ret (e_comp (i_rng1 (a_cons (e_cb c_len (a_cons e_var a_nil)) a_nil)) g_name t_no (l_last (e_cb c_sumU (a_cons (e_sl e_var n_none (n_some e_var)) a_nil))))), fun xs ω Q h => ?_⟩)
  obtain ⟨cs, rfl, hl, k⟩ := h
  walk_at "ab"
  refine ⟨by omega, by omega, ?_⟩
  rw [show rngA 0 cs.length = (((List.range cs.length).map fun i : Nat => D.int (0 + (i : Int)))).map AV.d from by simp [rngA]]
  refine comp_m (fun d => match d with | .int i => .int ((cs.take i.toNat).sum) | _ => .non) (fun d hd Q q => ?_) (le_dec (m := 0) (by simp; omega)) (fun ρ => ?_)
  · obtain ⟨i, hi, rfl⟩ := List.mem_map.mp hd
    have hi2 := List.mem_range.mp hi
    have ec : cutL (cs.map D.int) none (some (0 + (i : Int))) = (cs.take i).map D.int := by
      rw [cutL_map]
      congr 1
      rw [Int.zero_add]
      unfold cutL
      rw [HT.sIx_none, HT.sIx_nat, List.drop_zero, Nat.sub_zero, Nat.min_eq_left (by omega)]
    walk_at "ab"
    rw [ec]
    refine ⟨_, rfl, ?_⟩
    simpa using q
  · refine ⟨_, und_map _, ?_⟩
    rw [only_self]
    simpa [startsL, Function.comp_def] using k
end
section
variable {P : Program} {w : World} {K : PySem.W.Frag} {mg : Str → Option Value} {base : Heap} {t : Adr}
theorem PlAt.some {ω : Om} {p : Addr} (h : PlAt ω p) : (ω p).isSome = true := by obtain ⟨c, e⟩ := h; rw [e]; rfl
theorem PlAt.ne {ω : Om} {p l : Addr} (h : PlAt ω p) (hl : ω l = none) : p ≠ l := fun e => by obtain ⟨c, h⟩ := h; rw [e, hl] at h; cases h
theorem sum_set : ∀ (cs : List Int) (j : Nat) (x : Int), cs[j]? = some x → (cs.set j (x + 1)).sum = cs.sum + 1
  | [], j, x, h => by simp at h
  | a :: cs, 0, x, h => by simp at h; subst h; simp; omega
  | a :: cs, j + 1, x, h => by
    have := sum_set cs j x (by simpa using h)
    simp only [List.set_cons_succ, List.sum_cons, this]; omega
structure Cnt (n : Nat) (cs : List Int) : Prop where
  len : cs.length = n
  pos : ∀ c ∈ cs, 1 ≤ c
  le : cs.sum ≤ 5
def sp_counts : ASp := fun xs ω Q => ∃ (p : Addr) (n : Nat), xs = [.r (.ref p), .d (.int n)] ∧ PlAt ω p ∧ 1 ≤ n ∧ n ≤ 5 ∧ ∀ (l : Addr) (cs : List Int) (c : Pl), ω l = none → Cnt n cs → Q (.r (.ref l)) (om2 ω p l (plO c) (.own ((cs.map D.int).map AV.d)))
theorem ok_counts (T : Txt K mg t) : FnOk P w K mg base CX0 2 t.a_l_counts t.d_l_counts ["_law_pen_here", "_law_n"] (lift sp_counts) := by
  have G_l_draw : FnOk P w K mg base CX0 1 t.a_l_draw t.d_l_draw ["_law_pen_here", "_law_many"] (lift sp_draw) := ok_draw T
  refine T.f_l_counts.okA sc_l_counts (fun xs ω Q h => by obtain ⟨p, n, rfl, _⟩ := h; rfl) (fun cdv A outer s H E hr => ⟨_, _, (pss_cons (ps_set (i := 2) sc_l_counts.nd rfl (Or.inl rfl) (pe_op (op_alt op_mul op_rep) (pe_lst (pa_consC pe_int pa_nil)) (pv 1)))
      (pss_cons (ps_for PassesOwn.never rfl (pi_range1 rfl T.b_range (pa_cons (pe_call G_l_draw (hr.mono (by omega)) (by rfl) T.m_l_draw T.k_l_draw T.p_l_draw .nil pass0 (pa_cons (pv 0) (pa_cons (pe_op op_sub pe_int (pv 1)) pa_nil))) pa_nil)) (pg_name (i := 3) sc_l_counts.nd rfl (Or.inl rfl)) (pss_cons (ps_set (i := 4) sc_l_counts.nd rfl (Or.inl rfl) (pe_call G_l_draw (hr.mono (by omega)) (by rfl) T.m_l_draw T.k_l_draw T.p_l_draw .nil pass0 (pa_cons (pv 0) (pa_cons (pv 1) pa_nil))))
      (pss_one (ps_asg (pe_op (op_alt op_add (op_alt op_cat3 op_cat)) (pe_ix (ix_seqK K rfl) (pv 2) (pv 4) (fun _ _ => rfl)) pe_int) (pg_sub (pv 2) (pv 4) set_list)))))
      (pss_one (ps_ret (pv 2))))), (s_seq (s_asg (e_op o_repO (e_lst (a_cons e_int a_nil)) e_var) g_name)
      (s_seq (s_for (i_rng1 (a_cons (e_call (a_cons e_var (a_cons (e_op o_I0i e_int e_var) a_nil))) a_nil)) g_name (s_seq (s_asg (e_call (a_cons e_var (a_cons e_var a_nil))) g_name)
      (s_asg (e_op o_add (e_op o_ix e_var e_var) e_int) (g_sub e_var e_var))))
      (s_ret e_var))), fun xs ω Q h => ?_⟩)
  obtain ⟨p, n, rfl, hp, hn1, hn, k⟩ := h
  walk_at "s1"
  refine ⟨by omega, by omega, Nat.le_of_lt (small1000 (by omega)), fun l hl => ?_⟩
  have hpl : p ≠ l := hp.ne hl
  have e0 : (List.replicate n [AV.d (D.int 1)]).flatten = ((List.replicate n (1 : Int)).map D.int).map AV.d := by
    rw [List.map_replicate, List.map_replicate]
    induction n with
    | zero => rfl
    | succ m ih => simp [List.replicate_succ]
  rw [e0]
  have hp2 : PlAt (ω.put l (.own (((List.replicate n (1 : Int)).map D.int).map AV.d))) p := by
    obtain ⟨c, e⟩ := hp
    exact ⟨c, by rw [Om.put_ne hpl]; exact e⟩
  walk_at "s1"
  refine ⟨p, 6 - (n : Int), rfl, hp2, by omega, by omega, fun r c r0 r1 => ?_⟩
  obtain ⟨m, rfl⟩ := Int.eq_ofNat_of_zero_le r0
  walk_at "a1"
  refine ⟨by omega, by omega, for_rng (fun i ρ ω' => ∃ (c : Pl) (cs : List Int) (v3 v4 : Option AV), ρ = [some (.r (.ref p)), some (.d (.int n)), some (.r (.ref l)), v3, v4] ∧ ω' = om2 ω p l (plO c) (.own ((cs.map D.int).map AV.d)) ∧ cs.length = n ∧ (∀ c ∈ cs, 1 ≤ c) ∧ cs.sum = n + i) ⟨c, List.replicate n 1, _, _, rfl, by unfold om2; rw [Om.put_comm hpl], by simp, fun c hc => by rw [(List.mem_replicate.mp hc).2]; exact Int.le_refl _, by rw [List.sum_replicate_int]; simp⟩ ?_ ?_⟩
  · rintro i ρ ω' N hi ⟨c, cs, v3, v4, rfl, rfl, h1, h2, h3⟩ kN
    walk_at "s1"
    refine ⟨p, n, rfl, ⟨c, om2_p hpl⟩, by omega, by omega, fun x c2 x0 x1 => ?_⟩
    rw [om2_pp hpl]
    walk_at "a1"
    simp only [om2_l]
    obtain ⟨y, my, hy, ey⟩ := map_nth (f := AV.d ∘ D.int) (xs := cs) x0 (by rw [h1]; exact x1)
    rw [← List.map_map] at ey
    obtain ⟨j, rfl⟩ := Int.eq_ofNat_of_zero_le x0
    refine ⟨_, rfl, _, ey, ?_⟩
    simp only [Function.comp_apply]
    walk_at "a1"
    have hj : j < cs.length := by rw [h1]; exact Int.ofNat_lt.mp x1
    refine ⟨_, om2_l, j, ?_, ?_⟩
    · simp [ixN, hj]
    rw [om2_pl]
    have hy' : cs[j]? = some y := by simpa using hy
    refine kN _ _ ⟨c2, cs.set j (y + 1), _, _, rfl, by simp [List.map_set], by simp [h1], fun c hc => ?_, by rw [sum_set cs j y hy', h3]; omega⟩
    rcases List.mem_or_eq_of_mem_set hc with hc | rfl
    · exact h2 c hc
    · have := h2 y my; omega
  · rintro ρ ω' ⟨c, cs, v3, v4, rfl, rfl, h1, h2, h3⟩
    walk_at "a1"
    exact k l cs c hl ⟨h1, h2, by omega⟩
end
section
variable {P : Program} {w : World} {K : PySem.W.Frag} {mg : Str → Option Value} {base : Heap} {t : Adr}
structure S5 (ω0 ω : Om) (p l a b : Addr) (ys zs : List (List Int)) : Prop where
  ex : ∃ c, Ex (ω0.put p (plO c)) ω
  hl : ω l = some (.own [.r (.ref a), .r (.ref b)])
  ha : ω a = some (.own ((ys.map wdD).map AV.d))
  hb : ω b = some (.own ((zs.map wdD).map AV.d))
  nl : ω0 l = none
  na : ω0 a = none
  nb : ω0 b = none
  pl : l ≠ p
  pa : a ≠ p
  pb : b ≠ p
  la : l ≠ a
  lb : l ≠ b
  ab : a ≠ b
theorem ex_pl {ω0 ω : Om} {p : Addr} (h : ∃ c, Ex (ω0.put p (plO c)) ω) : PlAt ω p := by
  obtain ⟨c, h⟩ := h
  exact ⟨c, (h p (by rw [Om.put_same]; rfl)).trans Om.put_same⟩
theorem S5.draw {ω0 ω : Om} {p l a b : Addr} {ys zs : List (List Int)} (h : S5 ω0 ω p l a b ys zs) (c : Pl) : S5 ω0 (ω.put p (plO c)) p l a b ys zs :=
  ⟨let ⟨_, e⟩ := h.ex; ⟨c, e.put2⟩, by rw [Om.put_ne h.pl]; exact h.hl, by rw [Om.put_ne h.pa]; exact h.ha, by rw [Om.put_ne h.pb]; exact h.hb, h.nl, h.na, h.nb, h.pl, h.pa, h.pb, h.la, h.lb, h.ab⟩
theorem put_none {ω : Om} {p l : Addr} {c : OC} (h : ω l = none) (hp : l ≠ p) : (ω.put p c) l = none := by rw [Om.put_ne hp]; exact h
theorem S5.setA {ω0 ω : Om} {p l a b : Addr} {ys zs : List (List Int)} (h : S5 ω0 ω p l a b ys zs) (us : List (List Int)) : S5 ω0 (ω.put a (.own ((us.map wdD).map AV.d))) p l a b us zs :=
  ⟨let ⟨c, e⟩ := h.ex; ⟨c, e.over (put_none h.na h.pa)⟩, by rw [Om.put_ne h.la]; exact h.hl, Om.put_same, by rw [Om.put_ne h.ab.symm]; exact h.hb, h.nl, h.na, h.nb, h.pl, h.pa, h.pb, h.la, h.lb, h.ab⟩
theorem S5.setB {ω0 ω : Om} {p l a b : Addr} {ys zs : List (List Int)} (h : S5 ω0 ω p l a b ys zs) (us : List (List Int)) : S5 ω0 (ω.put b (.own ((us.map wdD).map AV.d))) p l a b ys us :=
  ⟨let ⟨c, e⟩ := h.ex; ⟨c, e.over (put_none h.nb h.pb)⟩, by rw [Om.put_ne h.lb]; exact h.hl, by rw [Om.put_ne h.ab]; exact h.ha, Om.put_same, h.nl, h.na, h.nb, h.pl, h.pa, h.pb, h.la, h.lb, h.ab⟩
theorem frzA_of {ω : Om} {z : AV} {d : D} {K : D → Om → Prop} (h : datA ω z = some d) (k : ∀ ω', (ω' = ω ∨ ∃ a ds, z = .r (.ref a) ∧ ω a = some (.own (ds.map AV.d)) ∧ ω' = ω.put a (.frz ds)) → K d ω') : frzA ω z K := by
  cases z with
  | d x => cases h; exact k _ (.inl rfl)
  | p u P => cases h
  | r u =>
    cases u with
    | ref a =>
      simp only [datA] at h
      simp only [frzA]
      cases e : ω a with
      | none => rw [e] at h; cases h
      | some c =>
        rw [e] at h
        cases c with
        | own xs =>
          simp only [Option.map_eq_some_iff] at h
          obtain ⟨ds, h1, rfl⟩ := h
          refine ⟨ds, h1, k _ (.inr ⟨a, ds, rfl, ?_, rfl⟩)⟩
          rw [e, und_some h1]
        | frz ds => cases h; exact k _ (.inl rfl)
        | dic ks => cases h
    | _ => cases h
theorem datA_frz {ω : Om} {a : Addr} {ds : List D} (h : ω a = some (.own (ds.map AV.d))) (x : AV) : datA (ω.put a (.frz ds)) x = datA ω x := by
  cases x with
  | d x => rfl
  | p u P => rfl
  | r u =>
    cases u with
    | ref b =>
      by_cases e : b = a
      · subst e
        rw [datA_own h]
        simp only [datA, Om.put_same]
      · simp only [datA, Om.put_ne e]
    | _ => rfl
theorem datA_put {ω : Om} {l : Addr} {c : OC} {x : AV} (h : ∀ a, x = .r (.ref a) → a ≠ l) : datA (ω.put l c) x = datA ω x := by
  cases x with
  | d x => rfl
  | p u P => rfl
  | r u =>
    cases u with
    | ref b => simp only [datA, Om.put_ne (h b rfl)]
    | _ => rfl
structure Wz (ω0 ω : Om) (p l : Addr) (z : AV) : Prop where
  dat : ∃ ws : List (List Int), ws.length ≤ 32 ∧ datA ω z = some (.lst (ws.map wdD))
  adr : ∀ a, z = .r (.ref a) → a ≠ l ∧ a ≠ p ∧ ω0 a = none
structure S6 (ω0 ω : Om) (p l : Addr) (zs : List AV) : Prop where
  ex : ∃ c, Ex (ω0.put p (plO c)) ω
  hl : ω l = some (.own zs)
  h2 : zs.length = 2
  nl : ω0 l = none
  pl : l ≠ p
  wz : ∀ z ∈ zs, Wz ω0 ω p l z
theorem S6.frz {ω0 ω ω' : Om} {p l : Addr} {zs : List AV} (h : S6 ω0 ω p l zs) {z : AV} (hz : Wz ω0 ω p l z) (e : ω' = ω ∨ ∃ a ds, z = .r (.ref a) ∧ ω a = some (.own (ds.map AV.d)) ∧ ω' = ω.put a (.frz ds)) : S6 ω0 ω' p l zs := by
  rcases e with rfl | ⟨a, ds, rfl, ha, rfl⟩
  · exact h
  · obtain ⟨n1, n2, n3⟩ := hz.adr a rfl
    exact ⟨let ⟨c, e⟩ := h.ex; ⟨c, e.over (put_none n3 n2)⟩, by rw [Om.put_ne n1.symm]; exact h.hl, h.h2, h.nl, h.pl, fun y hy => ⟨let ⟨ws, q1, q2⟩ := (h.wz y hy).dat; ⟨ws, q1, by rw [datA_frz ha]; exact q2⟩, (h.wz y hy).adr⟩⟩
theorem Wz.keep {ω0 ω : Om} {p l : Addr} {y : AV} {c : OC} (hy : Wz ω0 ω p l y) : Wz ω0 (ω.put l c) p l y := ⟨let ⟨ws, q1, q2⟩ := hy.dat; ⟨ws, q1, by rw [datA_put fun a e => (hy.adr a e).1]; exact q2⟩, hy.adr⟩
theorem S6.set {ω0 ω : Om} {p l : Addr} {zs : List AV} (h : S6 ω0 ω p l zs) {j : Nat} {v : AV} (hv : Wz ω0 ω p l v) : S6 ω0 (ω.put l (.own (zs.set j v))) p l (zs.set j v) := by
  refine ⟨let ⟨c, e⟩ := h.ex; ⟨c, e.over (put_none h.nl h.pl)⟩, Om.put_same, by simp [h.h2], h.nl, h.pl, fun y hy => ?_⟩
  rcases List.mem_or_eq_of_mem_set hy with hy | rfl
  · exact (h.wz y hy).keep
  · exact hv.keep
theorem S6.new {ω0 ω : Om} {p l q : Addr} {zs : List AV} (h : S6 ω0 ω p l zs) {us : List (List Int)} (hq : ω q = none) (hu : us.length ≤ 32) : S6 ω0 (ω.put q (.own ((us.map wdD).map AV.d))) p l zs ∧ Wz ω0 (ω.put q (.own ((us.map wdD).map AV.d))) p l (.r (.ref q)) := by
  obtain ⟨c, e⟩ := h.ex
  have h0 : (ω0.put p (plO c)) q = none := e.none hq
  have nq : l ≠ q := fun z => by subst z; rw [h.hl] at hq; cases hq
  have npq : q ≠ p := fun z => by subst z; rw [Om.put_same] at h0; cases h0
  rw [Om.put_ne npq] at h0
  refine ⟨⟨⟨c, e.new hq⟩, by rw [Om.put_ne nq]; exact h.hl, h.h2, h.nl, h.pl, fun y hy => ?_⟩, ⟨us, hu, datA_own Om.put_same⟩, fun a e => ?_⟩
  · obtain ⟨ws, q1, q2⟩ := (h.wz y hy).dat
    refine ⟨⟨ws, q1, ?_⟩, (h.wz y hy).adr⟩
    rw [datA_put fun a ea z => ?_]
    · exact q2
    · subst ea z
      simp only [datA, hq] at q2
      cases q2
  · cases e
    exact ⟨nq.symm, npq, h0⟩
theorem wz_d {ω0 ω : Om} {p l : Addr} {us : List (List Int)} (hu : us.length ≤ 32) : Wz ω0 ω p l (.d (.lst (us.map wdD))) := ⟨⟨us, hu, rfl⟩, fun a e => by cases e⟩
theorem slA_dat {ω : Om} {o : AV} {ds : List D} {lo hi : Option Int} {Q : AV → Om → Prop} (h : datA ω o = some (.lst ds)) (q : Q (.d (.lst (cutL ds lo hi))) ω) : slA o lo hi ω Q := by
  cases o with
  | d x => cases h; rw [slA_lst]; exact q
  | p u P => cases h
  | r u =>
    cases u with
    | ref b => rw [slA_ref]; exact ⟨ds, h, q⟩
    | _ => cases h
theorem cut1 {α : Type} (xs : List α) : (cutL xs none (some 1)).length ≤ 1 := by
  have h := HT.sIx_nat xs.length xs.length 1
  simp only [cutL, List.length_take, HT.sIx_none]
  have h : HT.sIx xs.length xs.length (some 1) = min 1 xs.length := h
  omega
theorem at2 {zs : List AV} {k : Int} (h2 : zs.length = 2) (h0 : 0 ≤ k) (h1 : k < 2) : ∃ z, z ∈ zs ∧ atI zs k = some z := by
  match zs, h2 with
  | [x, y], _ =>
    rcases (by omega : k = 0 ∨ k = 1) with rfl | rfl
    · exact ⟨x, by simp, rfl⟩
    · exact ⟨y, by simp, rfl⟩
theorem ix2 {k : Int} (h0 : 0 ≤ k) (h1 : k < 2) : ∃ j, ixN 2 k = some j := by
  rcases (by omega : k = 0 ∨ k = 1) with rfl | rfl
  · exact ⟨0, rfl⟩
  · exact ⟨1, rfl⟩
def sp_sorts : ASp := fun xs ω Q => ∃ (p : Addr) (n : Nat), xs = [.r (.ref p), .d (.int n)] ∧ PlAt ω p ∧ 1 ≤ n ∧ n ≤ 5 ∧ ∀ (ys zs : List (List Int)) (c : Pl), Q (.d (.tup [.tup (ys.map wdD), .tup (zs.map wdD)])) (ω.put p (plO c))
theorem ok_sorts (T : Txt K mg t) : FnOk P w K mg base CX0 3 t.a_l_sorts t.d_l_sorts ["_law_pen_here", "_law_places"] (lift sp_sorts) := by
  have G_l_draw : FnOk P w K mg base CX0 1 t.a_l_draw t.d_l_draw ["_law_pen_here", "_law_many"] (lift sp_draw) := ok_draw T
  have G_l_all : FnOk P w K mg base CX0 1 t.a_l_all t.d_l_all ["_law_places"] (lift sp_all) := ok_all T
  refine T.f_l_sorts.okD sc_l_sorts (fun xs ω Q h => by obtain ⟨p, n, rfl, _⟩ := h; rfl) (fun cdv A outer s H E hr => ⟨_, _, (pss_cons (ps_set (i := 2) sc_l_sorts.nd rfl (Or.inl rfl) (pe_call G_l_all (hr.mono (by omega)) (by rfl) T.m_l_all T.k_l_all T.p_l_all .nil pass0 (pa_cons (pv 1) pa_nil)))
      (pss_cons (ps_set (i := 3) sc_l_sorts.nd rfl (Or.inl rfl) (pe_call G_l_draw (hr.mono (by omega)) (by rfl) T.m_l_draw T.k_l_draw T.p_l_draw .nil pass0 (pa_cons (pv 0) (pa_consC pe_int pa_nil))))
      (pss_cons (ps_set (i := 4) sc_l_sorts.nd rfl (Or.inl rfl) (pe_op (op_alt op_add (op_alt op_cat3 op_cat)) pe_int (pe_call G_l_draw (hr.mono (by omega)) (by rfl) T.m_l_draw T.k_l_draw T.p_l_draw .nil pass0 (pa_cons (pv 0) (pa_cons (pv 1) pa_nil)))))
      (pss_cons (ps_set (i := 5) sc_l_sorts.nd rfl (Or.inl rfl) (pe_call G_l_draw (hr.mono (by omega)) (by rfl) T.m_l_draw T.k_l_draw T.p_l_draw .nil pass0 (pa_cons (pv 0) (pa_cons (pv 1) pa_nil))))
      (pss_cons (ps_set (i := 6) sc_l_sorts.nd rfl (Or.inl rfl) (pe_ix (ix_seqK K rfl) (pe_lst (pa_consC pe_int (pa_consC pe_int (pa_consC pe_int (pa_consC pe_int pa_nil))))) (pe_call G_l_draw (hr.mono (by omega)) (by rfl) T.m_l_draw T.k_l_draw T.p_l_draw .nil pass0 (pa_cons (pv 0) (pa_consC pe_int pa_nil))) (fun _ _ => rfl)))
      (pss_cons (ps_set (i := 7) sc_l_sorts.nd rfl (Or.inr rfl) (pe_lst (pa_consL (pe_lst pa_nil) (pa_consL (pe_lst pa_nil) pa_nil))))
      (pss_cons (ps_for PassesOwn.never rfl (pi_seq K rfl (pv 2)) (pg_name (i := 8) sc_l_sorts.nd rfl (Or.inl rfl)) (pss_cons (ps_set (i := 9) sc_l_sorts.nd rfl (Or.inl rfl) (pe_call G_l_draw (hr.mono (by omega)) (by rfl) T.m_l_draw T.k_l_draw T.p_l_draw .nil pass0 (pa_cons (pv 0) (pa_consC pe_int pa_nil))))
      (pss_cons (ps_set (i := 10) sc_l_sorts.nd rfl (Or.inr rfl) (pe_ix (ix_seqK K rfl) (pe_lst (pa_cons (pv 9) (pa_cons (pe_callTy call_int1 (by rfl) T.b_int (by kernel_rfl) (pa_cons (pe_cmpR op_lt (pe_callB (call_sumU K rfl rfl) (by rfl) T.b_sum (by kernel_rfl) (pa_cons (pv 8) pa_nil)) (pv 4) (nomark _)) pa_nil)) (pa_cons (pe_op op_mod (pe_callB (call_sumU K rfl rfl) (by rfl) T.b_sum (by kernel_rfl) (pa_cons (pv 8) pa_nil)) pe_int) (pa_cons (pe_op op_sub pe_int (pe_ix (ix_seqK K rfl) (pv 8) (pv 5) (fun _ _ => rfl))) (pa_cons (pe_callTy call_int1 (by rfl) T.b_int (by kernel_rfl) (pa_cons (pe_cmpR op_lt (pe_op (op_alt op_add (op_alt op_cat3 op_cat)) (pe_callB (call_sumU K rfl rfl) (by rfl) T.b_sum (by kernel_rfl) (pa_cons (pv 8) pa_nil)) (pv 9)) (pv 4) (nomark _)) pa_nil)) pa_nil)))))) (pv 3) (fun _ _ => rfl)))
      (pss_one (ps_if (pt_cmpR (op_eqD hr.u100) (pe_call G_l_draw (hr.mono (by omega)) (by rfl) T.m_l_draw T.k_l_draw T.p_l_draw .nil pass0 (pa_cons (pv 0) (pa_cons (pv 6) pa_nil))) pe_int (nomark _)) (pss_one (ps_expr (pe_bm PySem.F.plainAttrs_list PySem.F.slot_list_append PySem.F.type_list_append mt_append (pe_ix (ix_seqK K rfl) (pv 7) (pv 10) (fun _ _ => rfl)) (pa_cons (pv 8) pa_nil)))) pss_nil)))))
      (pss_cons (ps_for PassesOwn.never rfl (pi_range1 rfl T.b_range (pa_consC pe_int pa_nil)) (pg_name (i := 10) sc_l_sorts.nd rfl (Or.inr rfl)) (pss_one (ps_if (pt_cmpR (op_eqD hr.u100) (pe_ix (ix_seqK K rfl) (pv 7) (pv 10) (fun _ _ => rfl)) (pe_lst pa_nil) (nomark _)) (pss_cons (ps_set (i := 11) sc_l_sorts.nd rfl (Or.inr rfl) (pe_ix (ix_seqK K rfl) (pv 7) (pe_op op_sub pe_int (pv 10)) (fun _ _ => rfl)))
      (pss_cons (ps_asg (pe_slice (sl_any K rfl) (pe_op (op_alt op_add (op_alt op_cat3 op_cat)) (pe_comp (N := (["_law_word", "_law_others"] : List Str)) (src := [none, some 11]) rfl (by show blkOk _ (defScope s_l_sorts) _ _ (["_law_pen_here", "_law_places", "_law_words", "_law_way", "_law_top", "_law_place", "_law_share", "_law_sorts_here", "_law_word", "_law_more", "_law_sort", "_law_others"] : List Str) = true; decide +kernel) (by intro g' h; cases h) (pi_seq K rfl (pv 2)) (fun _ _ _ _ _ _ => (pg_name (i := 0) (show (["_law_word", "_law_others"] : List Str).Nodup by decide +kernel) rfl (Or.inl rfl))) (fun _ _ _ _ _ _ => (pts_one (pt_cmpR (op_notInD hr.u100) (pv 0) (pv 1) (by with_unfolding_all rfl)))) (fun _ _ _ _ _ _ => (pl_last rfl rfl (pv 0)))) (pe_slice (sl_any K rfl) (pv 11) po_none (po_some pe_int))) po_none (po_some pe_int)) (pg_sub (pv 7) (pv 10) set_list))
      (pss_one (ps_asg (pe_comp (N := (["_law_word", "_law_sorts_here", "_law_sort"] : List Str)) (src := [none, some 7, some 10]) rfl (by show blkOk _ (defScope s_l_sorts) _ _ (["_law_pen_here", "_law_places", "_law_words", "_law_way", "_law_top", "_law_place", "_law_share", "_law_sorts_here", "_law_word", "_law_more", "_law_sort", "_law_others"] : List Str) = true; decide +kernel) (by intro g' h; cases h) (pi_seq K rfl (pv 11)) (fun _ _ _ _ _ _ => (pg_name (i := 0) (show (["_law_word", "_law_sorts_here", "_law_sort"] : List Str).Nodup by decide +kernel) rfl (Or.inl rfl))) (fun _ _ _ _ _ _ => (pts_one (pt_cmpR (op_notInD hr.u100) (pv 0) (pe_ix (ix_seqK K rfl) (pv 1) (pv 2) (fun _ _ => rfl)) (by with_unfolding_all rfl)))) (fun _ _ _ _ _ _ => (pl_last rfl rfl (pv 0)))) (pg_sub (pv 7) (pe_op op_sub pe_int (pv 10)) set_list))))) pss_nil)))
      (pss_one (ps_ret (pe_tup (pa_cons (pe_callTy (call_tuple_ofK K rfl) (by rfl) T.b_tuple (by kernel_rfl) (pa_cons (pe_ix (ix_seqK K rfl) (pv 7) pe_int (fun _ _ => rfl)) pa_nil)) (pa_cons (pe_callTy (call_tuple_ofK K rfl) (by rfl) T.b_tuple (by kernel_rfl) (pa_cons (pe_ix (ix_seqK K rfl) (pv 7) pe_int (fun _ _ => rfl)) pa_nil)) pa_nil))))))))))))), (s_seq (s_asg (e_call (a_cons e_var a_nil)) g_name)
      (s_seq (s_asg (e_call (a_cons e_var (a_cons e_int a_nil))) g_name)
      (s_seq (s_asg (e_op o_add e_int (e_call (a_cons e_var (a_cons e_var a_nil)))) g_name)
      (s_seq (s_asg (e_call (a_cons e_var (a_cons e_var a_nil))) g_name)
      (s_seq (s_asg (e_op o_ix (e_lst (a_cons e_int (a_cons e_int (a_cons e_int (a_cons e_int a_nil))))) (e_call (a_cons e_var (a_cons e_int a_nil)))) g_name)
      (s_seq (s_asg (e_lstO (a_cons (e_lstO a_nil) (a_cons (e_lstO a_nil) a_nil))) g_name)
      (s_seq (s_for (i_seq e_var) g_name (s_seq (s_asg (e_call (a_cons e_var (a_cons e_int a_nil))) g_name)
      (s_seq (s_asg (e_op o_ix (e_lst (a_cons e_var (a_cons (e_cb c_int (a_cons (e_op o_I0b (e_cb c_sumU (a_cons e_var a_nil)) e_var) a_nil)) (a_cons (e_op o_Ii (e_cb c_sumU (a_cons e_var a_nil)) e_int) (a_cons (e_op o_I0i e_int (e_op o_ix e_var e_var)) (a_cons (e_cb c_int (a_cons (e_op o_I0b (e_op o_add (e_cb c_sumU (a_cons e_var a_nil)) e_var) e_var) a_nil)) a_nil)))))) e_var) g_name)
      (s_if (t_test (e_op o_eqD (e_call (a_cons e_var (a_cons e_var a_nil))) e_int)) (s_drop (e_append (e_op o_ix e_var e_var) (a_cons e_var a_nil))) s_next))))
      (s_seq (s_for (i_rng1 (a_cons e_int a_nil)) g_name (s_if (t_test (e_op o_eqD (e_op o_ix e_var e_var) (e_lst a_nil))) (s_seq (s_asg (e_op o_ix e_var (e_op o_I0i e_int e_var)) g_name)
      (s_seq (s_asg (e_sl (e_op o_add (e_comp (i_seq e_var) g_name (t_test (e_op o_in e_var e_var)) (l_last e_var)) (e_sl e_var n_none (n_some e_int))) n_none (n_some e_int)) (g_sub e_var e_var))
      (s_asg (e_compO (i_seq e_var) g_name (t_test (e_op o_in e_var (e_op o_ix e_var e_var))) (l_last e_var)) (g_sub e_var (e_op o_I0i e_int e_var))))) s_next))
      (s_ret (e_tup (a_cons (e_cb c_tuple (a_cons (e_op o_ix e_var e_int) a_nil)) (a_cons (e_cb c_tuple (a_cons (e_op o_ix e_var e_int) a_nil)) a_nil)))))))))))), fun xs ω Q h => ?_⟩)
  obtain ⟨p, n, rfl, hp, hn1, hn, k⟩ := h
  have hwn := wl_le hn
  walk_at "s1"
  refine ⟨n, rfl, hn, ?_⟩
  walk_at "s1"
  refine ⟨p, 5, rfl, hp, by decide, by decide, fun way c w0 w1 => ?_⟩
  walk_at "s1"
  refine ⟨p, n, rfl, plAt_put, by omega, by omega, fun top c t0 t1 => ⟨top, rfl, ?_⟩⟩
  rw [Om.put_put]
  walk_at "s1"
  refine ⟨p, n, rfl, plAt_put, by omega, by omega, fun pl c p0 p1 => ?_⟩
  rw [Om.put_put]
  walk_at "s1"
  refine ⟨p, 4, rfl, plAt_put, by decide, by decide, fun v c v0 v1 => ⟨v, rfl, ?_⟩⟩
  rw [Om.put_put]
  obtain ⟨sh, esh, sh1, sh2⟩ : ∃ sh : Int, atI [AV.d (D.int 1), AV.d (D.int 1), AV.d (D.int 3), AV.d (D.int 6)] v = some (.d (.int sh)) ∧ 1 ≤ sh ∧ sh ≤ 8 := by
    rcases (by omega : v = 0 ∨ v = 1 ∨ v = 2 ∨ v = 3) with rfl | rfl | rfl | rfl
    · exact ⟨1, rfl, by decide, by decide⟩
    · exact ⟨1, rfl, by decide, by decide⟩
    · exact ⟨3, rfl, by decide, by decide⟩
    · exact ⟨6, rfl, by decide, by decide⟩
  refine ⟨_, esh, ?_⟩
  walk_at "s1"
  intro a ha b hb l hl
  have hS : S5 ω ((((ω.put p (plO c)).put a (OC.own [])).put b (OC.own [])).put l (OC.own [AV.r (V.ref a), AV.r (V.ref b)])) p l a b [] [] := by
    have ex : Ex (ω.put p (plO c)) ((((ω.put p (plO c)).put a (OC.own [])).put b (OC.own [])).put l (OC.own [AV.r (V.ref a), AV.r (V.ref b)])) := (((Ex.refl _).new ha).new hb).new hl
    obtain ⟨nap, ha⟩ := put_free ha
    obtain ⟨nba, hb⟩ := put_free hb
    obtain ⟨nbp, hb⟩ := put_free hb
    obtain ⟨nlb, hl⟩ := put_free hl
    obtain ⟨nla, hl⟩ := put_free hl
    obtain ⟨nlp, hl⟩ := put_free hl
    exact ⟨⟨c, ex⟩, Om.put_same, by rw [Om.put_ne (Ne.symm nla), Om.put_ne (Ne.symm nba), Om.put_same]; rfl, by rw [Om.put_ne (Ne.symm nlb), Om.put_same]; rfl, hl, ha, hb, nlp, nap, nbp, nla, nlb, Ne.symm nba⟩
  revert hS
  generalize (((ω.put p (plO c)).put a (OC.own [])).put b (OC.own [])).put l (OC.own [AV.r (V.ref a), AV.r (V.ref b)]) = ω1
  intro hS
  walk_at "s1"
  refine for_D (fun i ρ ω' => ∃ (ys zs : List (List Int)) (v8 v9 v10 : Option AV), S5 ω ω' p l a b ys zs ∧ ρ = [some (AV.r (V.ref p)), some (AV.d (D.int n)), some (AV.d (D.lst ((wl n).map wdD))), some (AV.d (D.int way)), some (AV.d (D.int (1 + top))), some (AV.d (D.int pl)), some (AV.d (D.int sh)), some (AV.r (V.ref l)), v8, v9, v10, none] ∧ ys.length ≤ i ∧ zs.length ≤ i) ⟨[], [], _, _, _, hS, rfl, Nat.le_refl _, Nat.le_refl _⟩ ?_ ?_
  · rintro i d ρ ω' N hd ⟨ys, zs, v8, v9, v10, hS, rfl, hy, hz⟩ kN
    obtain ⟨x, hx, rfl⟩ := L2.map_get hd
    have hi := (List.getElem?_eq_some_iff.mp hx).1
    have hxl := (wl_mem (List.mem_of_getElem? hx)).1
    have hx01 := (wl_mem (List.mem_of_getElem? hx)).2
    walk_at "s1"
    refine ⟨p, 2, rfl, ex_pl hS.ex, by decide, by decide, fun u c u0 u1 => ?_⟩
    have hS := hS.draw c
    revert hS
    generalize ω'.put p (plO c) = ω2
    intro hS
    refine seq_cut (fun ρ' ω' => ω' = ω2 ∧ ∃ g : Int, (g = 0 ∨ g = 1) ∧ ρ' = [some (AV.r (V.ref p)), some (AV.d (D.int n)), some (AV.d (D.lst ((wl n).map wdD))), some (AV.d (D.int way)), some (AV.d (D.int (1 + top))), some (AV.d (D.int pl)), some (AV.d (D.int sh)), some (AV.r (V.ref l)), some (AV.d (wdD x)), some (AV.d (D.int u)), some (AV.d (D.int g)), none]) (fun M kM => ?_) ?_
    · walk_at "a1"
      have hpx := wd_at (w := x) (i := pl) p0 (by omega)
      have hb1 : x.getD pl.toNat 0 = 0 ∨ x.getD pl.toNat 0 = 1 := by
        rw [List.getD_eq_getElem?_getD]
        cases e : x[pl.toNat]? with
        | none => exact .inl rfl
        | some y => exact hx01 y (List.mem_of_getElem? e)
      refine ⟨x, rfl, x, rfl, _, hpx, _, rfl, x, rfl, ?_⟩
      have b01 : ∀ P : Prop, [Decidable P] → (if P then (1 : Int) else 0) = 0 ∨ (if P then (1 : Int) else 0) = 1 := fun P _ => by split <;> simp
      rcases (by omega : way = 0 ∨ way = 1 ∨ way = 2 ∨ way = 3 ∨ way = 4) with rfl | rfl | rfl | rfl | rfl
      · exact ⟨_, rfl, kM _ _ ⟨rfl, u, by omega, rfl⟩⟩
      · exact ⟨_, rfl, kM _ _ ⟨rfl, _, b01 _, rfl⟩⟩
      · exact ⟨_, rfl, kM _ _ ⟨rfl, _, by omega, rfl⟩⟩
      · exact ⟨_, rfl, kM _ _ ⟨rfl, _, by omega, rfl⟩⟩
      · exact ⟨_, rfl, kM _ _ ⟨rfl, _, b01 _, rfl⟩⟩
    rintro ρ' ω' ⟨rfl, g, hg, rfl⟩
    walk_at "a1"
    refine ⟨p, sh, rfl, ex_pl hS.ex, by omega, by omega, fun u2 c2 u20 u21 => ⟨.int u2, rfl, by simp [dep], ?_⟩⟩
    have hS := hS.draw c2
    revert hS
    generalize ω'.put p (plO c2) = ω3
    intro hS
    refine ite2 (fun h2 => ?_) (fun h2 => kN _ _ ⟨ys, zs, _, _, _, hS, rfl, by omega, by omega⟩)
    simp only [hS.hl]
    rcases hg with rfl | rfl
    · refine ⟨_, rfl, .r (.ref a), rfl, a, rfl, ⟨_, hS.ha⟩, _, hS.ha, small1000 (by simp; omega), kN _ _ ⟨ys ++ [x], zs, _, _, _, ?_, rfl, by simp; omega, by omega⟩⟩
      simpa using hS.setA (ys ++ [x])
    · refine ⟨_, rfl, .r (.ref b), rfl, b, rfl, ⟨_, hS.hb⟩, _, hS.hb, small1000 (by simp; omega), kN _ _ ⟨ys, zs ++ [x], _, _, _, ?_, rfl, by omega, by simp; omega⟩⟩
      simpa using hS.setB (zs ++ [x])
  · rintro ρ ω' ⟨ys, zs, v8, v9, v10, hS, rfl, hy, hz⟩
    rw [List.length_map] at hy hz
    have hS : S6 ω ω' p l [.r (.ref a), .r (.ref b)] := ⟨hS.ex, hS.hl, rfl, hS.nl, hS.pl, fun z hz' => by
      simp only [List.mem_cons, List.not_mem_nil, or_false] at hz'
      rcases hz' with rfl | rfl
      · exact ⟨⟨ys, by omega, datA_own hS.ha⟩, fun a e => by cases e; exact ⟨hS.la.symm, hS.pa, hS.na⟩⟩
      · exact ⟨⟨zs, by omega, datA_own hS.hb⟩, fun a e => by cases e; exact ⟨hS.lb.symm, hS.pb, hS.nb⟩⟩⟩
    dsimp only
    walk_at "s1"
    refine ⟨by decide, by decide, for_rng (fun i ρ ω' => ∃ (zs : List AV) (v8 v9 v10 v11 : Option AV), S6 ω ω' p l zs ∧ ρ = [some (AV.r (V.ref p)), some (AV.d (D.int n)), some (AV.d (D.lst ((wl n).map wdD))), some (AV.d (D.int way)), some (AV.d (D.int (1 + top))), some (AV.d (D.int pl)), some (AV.d (D.int sh)), some (AV.r (V.ref l)), v8, v9, v10, v11]) ⟨_, _, _, _, _, hS, rfl⟩ ?_ ?_⟩
    · rintro i ρ ω1 N hi ⟨zs, v8, v9, v10, v11, hS, rfl⟩ kN
      have hi2 : i < 2 := hi
      obtain ⟨z, mz, ez⟩ := at2 (k := 0 + (i : Int)) hS.h2 (by omega) (by omega)
      obtain ⟨ws, hws, dz⟩ := (hS.wz z mz).dat
      obtain ⟨o, mo, eo⟩ := at2 (k := 1 - (0 + (i : Int))) hS.h2 (by omega) (by omega)
      obtain ⟨us, hus, doo⟩ := (hS.wz o mo).dat
      obtain ⟨j, ej⟩ := ix2 (k := 0 + (i : Int)) (by omega) (by omega)
      obtain ⟨j2, ej2⟩ := ix2 (k := 1 - (0 + (i : Int))) (by omega) (by omega)
      have hwd : ∀ ws : List (List Int), dep (D.lst (ws.map wdD)) ≤ 100 := fun ws => by have := deps_wds ws; simp only [dep]; omega
      walk_at "a1"
      simp only [hS.hl]
      refine ⟨_, rfl, _, ez, _, dz, hwd _, ite2 (fun h => ?_) (fun h => kN _ _ ⟨zs, _, _, _, _, hS, rfl⟩)⟩
      walk_at "s1"
      simp only [hS.hl]
      refine ⟨_, rfl, _, eo, ?_⟩
      walk_at "s1"
      refine comp_ft wdD (fun v => !decide (v ∈ us)) wdD (Nat.le_of_lt (small1000 (by omega))) (fun v hv Q q => ?_) (fun v hv _ Q q => ?_) (fun ρ => ⟨_, und_map _, ?_⟩)
      · walk_at "a1"
        refine ⟨_, doo, _, .inl rfl, by have := deps_wds us; omega, ?_⟩
        rw [inD_wd]
        exact q
      · walk_at "a1"
        exact q
      refine slA_dat doo ⟨_, rfl, ?_, _, hS.hl, j, by rw [hS.h2]; exact ej, ?_⟩
      · have h1 := (List.length_filter_le (fun v => !decide (v ∈ us)) (wl n))
        have h2 := (cutL_sub (us.map wdD) none (some 1)).length_le
        rw [List.length_map] at h2 ⊢
        exact Nat.le_of_lt (small1000 (by omega))
      rw [cutL_map, ← List.map_append, cutL_map]
      have hc1 := Nat.le_trans (cut1 (((wl n).filter fun v => !decide (v ∈ us)) ++ cutL us none (some 1))) (by decide : 1 ≤ 32)
      have hS2 := hS.set (j := j) (wz_d (us := cutL (((wl n).filter fun v => !decide (v ∈ us)) ++ cutL us none (some 1)) none (some 1)) hc1)
      have ho := (hS.wz o mo).keep (c := OC.own (zs.set j (AV.d (D.lst ((cutL (((wl n).filter fun v => !decide (v ∈ us)) ++ cutL us none (some 1)) none (some 1)).map wdD)))))
      have doo2 : datA (ω1.put l (OC.own (zs.set j (AV.d (D.lst ((cutL (((wl n).filter fun v => !decide (v ∈ us)) ++ cutL us none (some 1)) none (some 1)).map wdD)))))) o = some (D.lst (us.map wdD)) := by rw [datA_put fun a e => ((hS.wz o mo).adr a e).1]; exact doo
      revert hS2 ho doo2
      generalize cutL (((wl n).filter fun v => !decide (v ∈ us)) ++ cutL us none (some 1)) none (some 1) = fs at hc1 ⊢
      generalize ω1.put l (OC.own (zs.set j (AV.d (D.lst (fs.map wdD))))) = ω2
      intro hS2 ho doo2
      refine frzA_of doo2 fun ω3 e3 => ⟨_, rfl, ?_⟩
      have hS3 : S6 ω ω3 p l (zs.set j (AV.d (D.lst (fs.map wdD)))) := hS2.frz ho e3
      obtain ⟨z3, m3, e3'⟩ := at2 (k := 0 + (i : Int)) hS3.h2 (by omega) (by omega)
      obtain ⟨w3, hw3, d3⟩ := (hS3.wz z3 m3).dat
      refine comp_ft wdD (fun v => !decide (v ∈ w3)) wdD (Nat.le_of_lt (small1000 (by omega))) (fun v hv Q q => ?_) (fun v hv _ Q q => ?_) (fun ρ q hq => ?_)
      · walk_at "a1"
        simp only [hS3.hl]
        refine ⟨_, rfl, _, e3', _, d3, _, .inl rfl, by have := deps_wds w3; omega, ?_⟩
        rw [inD_wd]
        exact q
      · walk_at "a1"
        exact q
      obtain ⟨hS4, hW⟩ := hS3.new (us := us.filter fun v => !decide (v ∈ w3)) hq (Nat.le_trans (List.length_filter_le _ _) hus)
      exact ⟨_, hS4.hl, j2, by rw [hS4.h2]; exact ej2, kN _ _ ⟨_, _, _, _, _, hS4.set hW, rfl⟩⟩
    · rintro ρ ω1 ⟨zs, v8, v9, v10, v11, hS, rfl⟩
      obtain ⟨c, ex⟩ := hS.ex
      obtain ⟨z, mz, ez⟩ := at2 (k := 0) hS.h2 (by decide) (by decide)
      obtain ⟨ws, hws, dz⟩ := (hS.wz z mz).dat
      obtain ⟨o, mo, eo⟩ := at2 (k := 1) hS.h2 (by decide) (by decide)
      obtain ⟨us, hus, doo⟩ := (hS.wz o mo).dat
      walk_at "a1"
      simp only [hS.hl]
      refine ⟨_, rfl, _, ez, _, .inl dz, _, rfl, _, eo, _, .inl doo, ?_⟩
      rw [only_put ex hp.some]
      exact k ws us c
end
section
variable {P : Program} {w : World} {K : PySem.W.Frag} {mg : Str → Option Value} {base : Heap} {t : Adr}
theorem wl_flat (ws : List (List Int)) : (ws.flatMap fun w => [w ++ [0], w ++ [1]]).length = 2 * ws.length := by
  induction ws with
  | nil => rfl
  | cons a r ih => rw [List.flatMap_cons, List.length_append, ih]; simp; omega
theorem ok_allw (T : Txt K mg t) : FnOk P w K mg base CX0 1 t.a_all_words t.d_all_words ["places"] (lift sp_all) := by
  refine T.f_all_words.okD sc_all_words (fun xs ω Q h => by obtain ⟨n, rfl, _⟩ := h; rfl) (fun cdv A outer s H E hr => ⟨_, _, (pss_cons (ps_set (i := 1) sc_all_words.nd rfl (Or.inl rfl) (pe_lst (pa_consT (pe_tup pa_nil) pa_nil)))
      (pss_cons (ps_for PassesOwn.never rfl (pi_range1 rfl T.b_range (pa_cons (pv 0) pa_nil)) (pg_name (i := 2) sc_all_words.nd rfl (Or.inl rfl)) (pss_one (ps_setC (i := 1) sc_all_words.nd rfl (Or.inl rfl) (N := (["word", "bit"] : List Str)) (src := [none, none]) rfl (by show blkOk _ (defScope s_all_words) _ _ (["places", "words", "place"] : List Str) = true; decide +kernel) (by intro g' h; cases h; rfl) (pi_seq K rfl (pv 1)) (fun _ _ _ _ _ _ => (pg_name (i := 0) (show (["word", "bit"] : List Str).Nodup by decide +kernel) rfl (Or.inl rfl))) (fun _ _ _ _ _ _ => pts_nil) (fun _ _ _ _ _ _ => (pl_for rfl rfl rfl (by intro g' h; cases h) (pi_seq K rfl (pe_tup (pa_consC pe_int (pa_consC pe_int pa_nil)))) (pg_name (i := 1) (show (["word", "bit"] : List Str).Nodup by decide +kernel) rfl (Or.inl rfl)) pts_nil (pl_last rfl rfl (pe_op (op_alt op_add (op_alt op_cat3 op_cat)) (pv 0) (pe_tup (pa_cons (pv 1) pa_nil)))))))))
      (pss_one (ps_ret (pv 1))))), (s_seq (s_asg (e_lst (a_cons (e_tup a_nil) a_nil)) g_name)
      (s_seq (s_for (i_rng1 (a_cons e_var a_nil)) g_name (s_asg (e_comp (i_seq e_var) g_name t_no (l_for (i_seq (e_tup (a_cons e_int (a_cons e_int a_nil)))) g_name t_no (l_last (e_op o_add e_var (e_tup (a_cons e_var a_nil)))))) g_name))
      (s_ret e_var))), fun xs ω Q h => ?_⟩)
  obtain ⟨n, rfl, hn, k⟩ := h
  walk_at "s1"
  walk_at "s1"
  refine ⟨by omega, by omega, for_rng (fun i ρ ω' => ω' = ω ∧ ∃ v2, ρ = [some (.d (.int n)), some (.d (.lst ((wl i).map wdD))), v2]) ⟨rfl, _, rfl⟩ ?_ ?_⟩
  · rintro i ρ ω1 N hi ⟨rfl, v2, rfl⟩ kN
    have hw := wl_le (n := i) (by omega)
    walk_at "a1"
    refine loop_D (fun j xs ρ ω' => ω' = ω1 ∧ (∃ v v', ρ = [v, v']) ∧ xs = ((((wl i).take j).flatMap fun w => [w ++ [0], w ++ [1]]).map wdD).map AV.d) ⟨rfl, ⟨_, _, rfl⟩, rfl⟩ ?_ ?_
    · rintro j d xs ρ ω' N hd ⟨rfl, ⟨v, v', rfl⟩, rfl⟩ kN2
      obtain ⟨x, hx, rfl⟩ := map_get hd
      have hx1 := (wl_mem (List.mem_of_getElem? hx)).1
      have hj := (List.getElem?_eq_some_iff.mp hx).1
      have et : (((wl i).take (j + 1)).flatMap fun w => [w ++ [0], w ++ [1]]) = ((wl i).take j).flatMap (fun w => [w ++ [0], w ++ [1]]) ++ [x ++ [0], x ++ [1]] := by
        rw [List.take_succ, hx, List.flatMap_append]; simp
      have hl2 := wl_flat ((wl i).take j)
      rw [List.length_take] at hl2
      walk_at "ab"
      exact ⟨le_dec (m := 0) (by omega), small1000 (by omega), le_dec (m := 0) (by omega), small1000 (by omega), kN2 _ _ _ ⟨rfl, ⟨_, _, rfl⟩, by rw [et]; simp⟩⟩
    · rintro xs ρ ω' ⟨rfl, _, rfl⟩
      rw [List.length_map, List.take_length]
      refine ⟨_, und_map _, kN _ _ ⟨rfl, _, rfl⟩⟩
  · rintro ρ ω1 ⟨rfl, v2, rfl⟩
    walk_at "a1"
    rw [only_self]
    exact k
def num (w : List Int) : Int := w.foldl (fun a b => 2 * a + b) 0
theorem num_lt : ∀ {w : List Int}, (∀ b ∈ w, b = 0 ∨ b = 1) → ∀ a : Int, 0 ≤ a → 0 ≤ w.foldl (fun a b => 2 * a + b) a ∧ w.foldl (fun a b => 2 * a + b) a < (a + 1) * 2 ^ w.length
  | [], _, a, ha => by simp; omega
  | b :: w, h, a, ha => by
    have hb := h b List.mem_cons_self
    obtain ⟨h1, h2⟩ := num_lt (fun x hx => h x (List.mem_cons_of_mem _ hx)) (2 * a + b) (by omega)
    refine ⟨h1, Int.lt_of_lt_of_le h2 ?_⟩
    have : (2 * a + b + 1) * 2 ^ w.length ≤ (2 * a + 2) * 2 ^ w.length := Int.mul_le_mul_of_nonneg_right (by omega) (Int.le_of_lt (Int.pow_pos (by decide)))
    rw [List.length_cons, Int.pow_succ]
    refine Int.le_trans this (Int.le_of_eq ?_)
    rw [show 2 * a + 2 = (a + 1) * 2 from by omega, Int.mul_assoc, Int.mul_comm 2]
def sp_value : ASp := fun xs ω Q => ∃ (tb w : List Int), xs = [.d (wdD tb), .d (wdD w)] ∧ (∀ b ∈ w, b = 0 ∨ b = 1) ∧ tb.length = 2 ^ w.length ∧ Q (.d (.int (tb.getD (num w).toNat 0))) ω
theorem ok_value (T : Txt K mg t) : FnOk P w K mg base CX0 1 t.a_value_at t.d_value_at ["table", "word"] (lift sp_value) := by
  refine T.f_value_at.okD sc_value_at (fun xs ω Q h => by obtain ⟨tb, w, rfl, _⟩ := h; rfl) (fun cdv A outer s H E hr => ⟨_, _, (pss_cons (ps_set (i := 2) sc_value_at.nd rfl (Or.inl rfl) pe_int)
      (pss_cons (ps_for PassesOwn.never rfl (pi_seq K rfl (pv 1)) (pg_name (i := 3) sc_value_at.nd rfl (Or.inl rfl)) (pss_one (ps_set (i := 2) sc_value_at.nd rfl (Or.inl rfl) (pe_op (op_alt op_add (op_alt op_cat3 op_cat)) (pe_op (op_alt op_mul op_rep) pe_int (pv 2)) (pv 3)))))
      (pss_one (ps_ret (pe_ix (ix_seqK K rfl) (pv 0) (pv 2) (fun _ _ => rfl)))))), (s_seq (s_asg e_int g_name)
      (s_seq (s_for (i_seq e_var) g_name (s_asg (e_op o_add (e_op o_mul e_int e_var) e_var) g_name))
      (s_ret (e_op o_ix e_var e_var)))), fun xs ω Q h => ?_⟩)
  obtain ⟨tb, w, rfl, hb, hl, k⟩ := h
  obtain ⟨n1, n2⟩ := num_lt hb 0 (Int.le_refl _)
  walk_at "s1"
  walk_at "s1"
  refine for_D (fun i ρ ω' => ω' = ω ∧ ∃ v3, ρ = [some (.d (wdD tb)), some (.d (wdD w)), some (.d (.int (num (w.take i)))), v3]) ⟨rfl, _, rfl⟩ ?_ ?_
  · rintro i d ρ ω1 N hd ⟨rfl, v3, rfl⟩ kN
    obtain ⟨b, hb1, rfl⟩ := L2.map_get hd
    walk_at "a1"
    have e : num (w.take (i + 1)) = 2 * num (w.take i) + b := by
      unfold num
      rw [List.take_succ, hb1, List.foldl_append]
      rfl
    exact ⟨cmul_l (by decide), kN _ _ ⟨rfl, _, by rw [e]⟩⟩
  · rintro ρ ω1 ⟨rfl, v3, rfl⟩
    rw [List.length_map, List.take_length]
    walk_at "a1"
    refine ⟨_, wd_at n1 ?_, ?_⟩
    · rw [hl]
      unfold num
      simpa using n2
    · refine ⟨_, rfl, ?_⟩
      rw [only_self]
      exact k
theorem bits_pow : ∀ c : Fin 6, Builtin.Int.intBits ((2 ^ c.val : Nat) : Int) = c.val + 1 := by decide +kernel
def sp_plo : ASp := fun xs ω Q => ∃ (tb : List Int) (c : Nat), xs = [.d (wdD tb)] ∧ tb.length = 2 ^ c ∧ c ≤ 5 ∧ Q (.d (.int c)) ω
theorem ok_plo (T : Txt K mg t) : FnOk P w K mg base CX0 1 t.a_places_of t.d_places_of ["table"] (lift sp_plo) := by
  refine T.f_places_of.okD sc_places_of (fun xs ω Q h => by obtain ⟨tb, c, rfl, _⟩ := h; rfl) (fun cdv A outer s H E hr => ⟨_, _, (pss_one (ps_ret (pe_op op_sub (pe_bm0 PySem.F.plainAttrs_int PySem.F.slot_int_bit_length PySem.F.type_int_bit_length mt_bitlen (pe_callB (call_lenK K rfl) (by rfl) T.b_len (by kernel_rfl) (pa_cons (pv 0) pa_nil))) pe_int))), (s_ret (e_op o_I0i (e_bits (e_cb c_len (a_cons e_var a_nil))) e_int)), fun xs ω Q h => ?_⟩)
  obtain ⟨tb, c, rfl, hl, hc, k⟩ := h
  walk_at "a1"
  rw [hl, bits_pow ⟨c, by omega⟩, only_self]
  simpa using k
structure Tbs (cs : List Nat) (tbs : List (List Int)) : Prop where
  len : tbs.length = cs.length
  l5 : cs.length ≤ 5
  c5 : ∀ c ∈ cs, c ≤ 5
  tb : ∀ (i : Nat) (tb : List Int) (c : Nat), tbs[i]? = some tb → cs[i]? = some c → tb.length = 2 ^ c
def inn : List (List Int) → List Nat → List Int → List Int
  | tb :: r, c :: cs, w => tb.getD (num (w.take c)).toNat 0 :: inn r cs (w.drop c)
  | _, _, _ => []
theorem inn_len : ∀ {tbs : List (List Int)} {cs : List Nat} {w : List Int}, tbs.length = cs.length → (inn tbs cs w).length = cs.length
  | [], [], w, _ => rfl
  | tb :: r, c :: cs, w, h => by simp only [inn, List.length_cons]; rw [inn_len (by simpa using h)]
theorem inn_get : ∀ {tbs : List (List Int)} {cs : List Nat} {w : List Int} {i : Nat} {tb : List Int} {c : Nat}, tbs[i]? = some tb → cs[i]? = some c → (inn tbs cs w)[i]? = some (tb.getD (num ((w.drop (cs.take i).sum).take c)).toNat 0)
  | tb :: r, c :: cs, w, 0, tb', c', h1, h2 => by
    simp at h1 h2; subst h1 h2; simp [inn]
  | tb :: r, c :: cs, w, i + 1, tb', c', h1, h2 => by
    simp only [List.getElem?_cons_succ] at h1 h2
    simp only [inn, List.getElem?_cons_succ, List.take_succ_cons, List.sum_cons]
    rw [inn_get h1 h2, List.drop_drop]
theorem sum_take_le : ∀ {cs : List Nat} {i c : Nat}, cs[i]? = some c → (cs.take i).sum + c ≤ cs.sum
  | c' :: cs, 0, c, h => by simp at h; subst h; simp
  | c' :: cs, i + 1, c, h => by
    have := sum_take_le (cs := cs) (i := i) (c := c) (by simpa using h)
    simp only [List.take_succ_cons, List.sum_cons]; omega
theorem cast_sum : ∀ cs : List Nat, (cs.map fun c : Nat => (c : Int)).sum = (cs.sum : Nat)
  | [] => rfl
  | c :: cs => by simp only [List.map_cons, List.sum_cons, cast_sum cs]; omega
theorem cut_mid {w : List Int} {s c : Nat} (h : s + c ≤ w.length) : cutL w (some (s : Int)) (some ((s : Int) + (c : Int))) = (w.drop s).take c := by
  unfold cutL
  rw [show ((s : Int) + (c : Int)) = ((s + c : Nat) : Int) from by omega, HT.sIx_nat, HT.sIx_nat, Nat.min_eq_left h, Nat.min_eq_left (by omega : s ≤ w.length), Nat.add_sub_cancel_left]
def sp_inner : ASp := fun xs ω Q => ∃ (tbs : List (List Int)) (cs : List Nat) (w : List Int), xs = [.d (.lst (tbs.map wdD)), .d (wdD w)] ∧ Tbs cs tbs ∧ (∀ b ∈ w, b = 0 ∨ b = 1) ∧ w.length = cs.sum ∧ Q (.d (wdD (inn tbs cs w))) ω
theorem ok_inner (T : Txt K mg t) : FnOk P w K mg base CX0 2 t.a_inner_word t.d_inner_word ["tables", "word"] (lift sp_inner) := by
  have G_places_of : FnOk P w K mg base CX0 1 t.a_places_of t.d_places_of ["table"] (lift sp_plo) := ok_plo T
  have G_block_starts : FnOk P w K mg base CX0 1 t.a_block_starts t.d_block_starts ["counts"] (lift sp_starts) := ok_starts T
  have G_value_at : FnOk P w K mg base CX0 1 t.a_value_at t.d_value_at ["table", "word"] (lift sp_value) := ok_value T
  refine T.f_inner_word.okD sc_inner_word (fun xs ω Q h => by obtain ⟨tbs, cs, w, rfl, _⟩ := h; rfl) (fun cdv A outer s H E hr => ⟨_, _, (pss_cons (ps_setC (i := 2) sc_inner_word.nd rfl (Or.inl rfl) (N := (["table"] : List Str)) (src := [none]) rfl (by show blkOk _ (defScope s_inner_word) _ _ (["tables", "word", "counts"] : List Str) = true; decide +kernel) (by intro g' h; cases h) (pi_seq K rfl (pv 0)) (fun _ _ _ _ _ _ => (pg_name (i := 0) (show (["table"] : List Str).Nodup by decide +kernel) rfl (Or.inl rfl))) (fun _ _ _ _ _ _ => pts_nil) (fun _ _ _ _ _ _ => (pl_last rfl rfl (pe_call G_places_of (hr.mono (by omega)) (by rfl) T.m_places_of T.k_places_of T.p_places_of .nil pass0 (pa_cons (pv 0) pa_nil)))))
      (pss_one (ps_ret (pe_callTy (call_tuple_ofK K rfl) (by rfl) T.b_tuple (by kernel_rfl) (pa_cons (pe_comp (N := (["table", "start", "count", "word"] : List Str)) (src := [none, none, none, some 1]) rfl (by show blkOk _ (defScope s_inner_word) _ _ (["tables", "word", "counts"] : List Str) = true; decide +kernel) (by intro g' h; cases h) (pi_zip3 K rfl (by rfl) T.b_zip (pa_cons (pv 0) (pa_cons (pe_call G_block_starts (hr.mono (by omega)) (by rfl) T.m_block_starts T.k_block_starts T.p_block_starts .nil pass0 (pa_cons (pv 2) pa_nil)) (pa_cons (pv 2) pa_nil)))) (fun _ _ _ _ _ _ => (pg_tupK K rfl (n := 3) rfl (pgs_cons (pg_name (i := 0) (show (["table", "start", "count", "word"] : List Str).Nodup by decide +kernel) rfl (Or.inl rfl)) (pgs_cons (pg_name (i := 1) (show (["table", "start", "count", "word"] : List Str).Nodup by decide +kernel) rfl (Or.inl rfl)) (pgs_cons (pg_name (i := 2) (show (["table", "start", "count", "word"] : List Str).Nodup by decide +kernel) rfl (Or.inl rfl)) pgs_nil))))) (fun _ _ _ _ _ _ => pts_nil) (fun _ _ _ _ _ _ => (pl_last rfl rfl (pe_call G_value_at (hr.mono (by omega)) (by rfl) T.m_value_at T.k_value_at T.p_value_at .nil pass0 (pa_cons (pv 0) (pa_cons (pe_slice (sl_any K rfl) (pv 3) (po_some (pv 1)) (po_some (pe_op (op_alt op_add (op_alt op_cat3 op_cat)) (pv 1) (pv 2)))) pa_nil)))))) pa_nil))))), (s_seq (s_asg (e_comp (i_seq e_var) g_name t_no (l_last (e_call (a_cons e_var a_nil)))) g_name)
      (s_ret (e_cb c_tuple (a_cons (e_comp (i_zip3 (a_cons e_var (a_cons (e_call (a_cons e_var a_nil)) (a_cons e_var a_nil)))) (g_tup (g_cons g_name (g_cons g_name (g_cons g_name g_nil)))) t_no (l_last (e_call (a_cons e_var (a_cons (e_sl e_var (n_some e_var) (n_some (e_op o_add e_var e_var))) a_nil))))) a_nil)))), fun xs ω Q h => ?_⟩)
  obtain ⟨tbs, cs, w, rfl, hT, hb, hw, k⟩ := h
  have hl5 := hT.l5
  have hlen := hT.len
  walk_at "s1"
  refine comp_ix (rs := cs.map fun c : Nat => D.int c) (by simp [hT.len]) (le_dec (m := 0) (by simp; omega)) (fun i a r ha hr' Q q => ?_) (fun ρ => ⟨_, und_map _, ?_⟩)
  · simp only [List.getElem?_map, Option.map_eq_some_iff] at ha hr'
    obtain ⟨_, ⟨tb, h1, rfl⟩, rfl⟩ := ha
    obtain ⟨c, h2, rfl⟩ := hr'
    walk_at "a1"
    exact ⟨tb, c, rfl, hT.tb i tb c h1 h2, hT.c5 c (List.mem_of_getElem? h2), q⟩
  refine ⟨cs.map fun c : Nat => (c : Int), by simp [Function.comp_def], by simpa using hl5, ?_⟩
  walk_at "a1"
  have lenS : (startsL (cs.map fun c : Nat => (c : Int))).length = cs.length := by simp [startsL]
  refine comp_zip3 (rs := (inn tbs cs w).map D.int) (by simp [hT.len, inn_len]) (by simp [hT.len, inn_len, lenS]) (by simp [hT.len, inn_len]) (le_dec (m := 0) (by simp [hT.len, inn_len]; omega)) (fun i d e f r h1 h2 h3 h4 Q q => ?_) (fun ρ => ⟨_, und_map _, ?_⟩)
  · simp only [List.getElem?_map, Option.map_eq_some_iff] at h1 h2 h3 h4
    obtain ⟨tb, h1, rfl⟩ := h1
    obtain ⟨s', h2, rfl⟩ := h2
    obtain ⟨c, h3, rfl⟩ := h3
    obtain ⟨r, h4, rfl⟩ := h4
    rw [inn_get h1 h3] at h4
    cases h4
    have hs' : s' = ((cs.take i).sum : Nat) := by
      unfold startsL at h2
      rw [List.getElem?_map, Option.map_eq_some_iff] at h2
      obtain ⟨i', e1, e2⟩ := h2
      rw [List.getElem?_range (by simpa using (List.getElem?_eq_some_iff.mp h3).1)] at e1
      cases e1
      rw [← e2, ← List.map_take, cast_sum]
    subst hs'
    have hle := sum_take_le h3
    walk_at "a1"
    rw [cut_mid (by omega)]
    refine ⟨tb, (w.drop (cs.take i).sum).take c, rfl, fun b h => hb b (List.mem_of_mem_drop (List.mem_of_mem_take h)), ?_, q⟩
    rw [hT.tb i tb c h1 h3, List.length_take, List.length_drop, Nat.min_eq_left (by omega)]
  · rw [only_self]
    exact k
def putL (tbs : List (List Int)) (cs : List Nat) (ys : List (List Int)) : List (List Int) := (wl cs.sum).filter fun v => decide (inn tbs cs v ∈ ys)
def badP (tbs : List (List Int)) (cs : List Nat) (ys zs : List (List Int)) : Prop := 5 < cs.sum ∨ putL tbs cs ys = [] ∨ putL tbs cs zs = []
instance (tbs : List (List Int)) (cs : List Nat) (ys zs : List (List Int)) : Decidable (badP tbs cs ys zs) := by unfold badP; infer_instance
def sp_put (t : Adr) : ASpX := fun xs ω Q Ex => ∃ (n : Nat) (ys zs tbs : List (List Int)) (cs : List Nat), xs = [.d (csD n ys zs), .d (.lst (tbs.map wdD))] ∧ Tbs cs tbs ∧ if badP tbs cs ys zs then Ex t.a_NoCase ω else Q (.d (csD cs.sum (putL tbs cs ys) (putL tbs cs zs))) ω
theorem ok_put (T : Txt K mg t) : FnOk P w K mg base (CXx P w) 4 t.a_put_case t.d_put_case ["case", "tables"] (liftX (sp_put t)) := by
  have G_places_of : FnOk P w K mg base CX0 1 t.a_places_of t.d_places_of ["table"] (lift sp_plo) := ok_plo T
  have G_all_words : FnOk P w K mg base CX0 1 t.a_all_words t.d_all_words ["places"] (lift sp_all) := ok_allw T
  have G_inner_word : FnOk P w K mg base CX0 2 t.a_inner_word t.d_inner_word ["tables", "word"] (lift sp_inner) := ok_inner T
  refine T.f_put_case.okX sc_put_case (fun xs ω Q Ex h => by obtain ⟨n, ys, zs, tbs, cs, rfl, _⟩ := h; rfl) (fun cdv A outer s H E hr => ⟨_, _, (pss_cons (PS.nox (ps_set (i := 2) sc_put_case.nd rfl (Or.inl rfl) (pe_callB (call_sumU K rfl rfl) (by rfl) T.b_sum (by kernel_rfl) (pa_cons (pe_comp (N := (["table"] : List Str)) (src := [none]) rfl (by show blkOk _ (defScope s_put_case) _ _ (["case", "tables", "places", "words", "yes", "no"] : List Str) = true; decide +kernel) (by intro g' h; cases h) (pi_seq K rfl (pv 1)) (fun _ _ _ _ _ _ => (pg_name (i := 0) (show (["table"] : List Str).Nodup by decide +kernel) rfl (Or.inl rfl))) (fun _ _ _ _ _ _ => pts_nil) (fun _ _ _ _ _ _ => (pl_last rfl rfl (pe_call G_places_of (hr.mono (by omega)) (by rfl) T.m_places_of T.k_places_of T.p_places_of .nil pass0 (pa_cons (pv 0) pa_nil))))) pa_nil))))
      (pss_cons (ps_if (PT.nox (pt_cmpR op_gt (pv 2) (pe_glob (v := .int 5) rfl T.c_MOST_PLACES ⟨_, rfl⟩) (nomark _))) (pss_one (ps_raise hr.hd (by rfl) T.c_NoCase (exc_in T.x_NoCase) (pa_consC pe_str pa_nil))) pss_nil)
      (pss_cons (PS.nox (ps_set (i := 3) sc_put_case.nd rfl (Or.inl rfl) (pe_call G_all_words (hr.mono (by omega)) (by rfl) T.m_all_words T.k_all_words T.p_all_words .nil pass0 (pa_cons (pv 2) pa_nil))))
      (pss_cons (PS.nox (ps_set (i := 4) sc_put_case.nd rfl (Or.inl rfl) (pe_callTy (call_tuple_ofK K rfl) (by rfl) T.b_tuple (by kernel_rfl) (pa_cons (pe_comp (N := (["word", "case", "tables"] : List Str)) (src := [none, some 0, some 1]) rfl (by show blkOk _ (defScope s_put_case) _ _ (["case", "tables", "places", "words", "yes", "no"] : List Str) = true; decide +kernel) (by intro g' h; cases h) (pi_seq K rfl (pv 3)) (fun _ _ _ _ _ _ => (pg_name (i := 0) (show (["word", "case", "tables"] : List Str).Nodup by decide +kernel) rfl (Or.inl rfl))) (fun _ _ _ _ _ _ => (pts_one (pt_cmpR (op_inD hr.u100) (pe_call G_inner_word (hr.mono (by omega)) (by rfl) T.m_inner_word T.k_inner_word T.p_inner_word .nil pass0 (pa_cons (pv 2) (pa_cons (pv 0) pa_nil))) (pe_ix (ix_seqK K rfl) (pv 1) pe_int (fun _ _ => rfl)) (by with_unfolding_all rfl)))) (fun _ _ _ _ _ _ => (pl_last rfl rfl (pv 0)))) pa_nil))))
      (pss_cons (PS.nox (ps_set (i := 5) sc_put_case.nd rfl (Or.inl rfl) (pe_callTy (call_tuple_ofK K rfl) (by rfl) T.b_tuple (by kernel_rfl) (pa_cons (pe_comp (N := (["word", "case", "tables"] : List Str)) (src := [none, some 0, some 1]) rfl (by show blkOk _ (defScope s_put_case) _ _ (["case", "tables", "places", "words", "yes", "no"] : List Str) = true; decide +kernel) (by intro g' h; cases h) (pi_seq K rfl (pv 3)) (fun _ _ _ _ _ _ => (pg_name (i := 0) (show (["word", "case", "tables"] : List Str).Nodup by decide +kernel) rfl (Or.inl rfl))) (fun _ _ _ _ _ _ => (pts_one (pt_cmpR (op_inD hr.u100) (pe_call G_inner_word (hr.mono (by omega)) (by rfl) T.m_inner_word T.k_inner_word T.p_inner_word .nil pass0 (pa_cons (pv 2) (pa_cons (pv 0) pa_nil))) (pe_ix (ix_seqK K rfl) (pv 1) pe_int (fun _ _ => rfl)) (by with_unfolding_all rfl)))) (fun _ _ _ _ _ _ => (pl_last rfl rfl (pv 0)))) pa_nil))))
      (pss_cons (ps_if (PT.nox (PW.pt (pw_or (pt_cmpR (op_eqD hr.u100) (pe_callB (call_lenK K rfl) (by rfl) T.b_len (by kernel_rfl) (pa_cons (pv 4) pa_nil)) pe_int (nomark _)) (pw_or1 (pt_cmpR (op_eqD hr.u100) (pe_callB (call_lenK K rfl) (by rfl) T.b_len (by kernel_rfl) (pa_cons (pv 5) pa_nil)) pe_int (nomark _)))))) (pss_one (ps_raise hr.hd (by rfl) T.c_NoCase (exc_in T.x_NoCase) (pa_consC pe_str pa_nil))) pss_nil)
      (pss_one (PS.nox (ps_ret (pe_tup (pa_cons (pv 2) (pa_cons (pv 4) (pa_cons (pv 5) pa_nil))))))))))))), (x_seq (x_of (s_asg (e_cb c_sumU (a_cons (e_comp (i_seq e_var) g_name t_no (l_last (e_call (a_cons e_var a_nil)))) a_nil)) g_name))
      (x_seq (x_if (t_test (e_op o_I0b e_var e_int)) (x_raise (a_cons e_str a_nil)) (x_of s_next))
      (x_seq (x_of (s_asg (e_call (a_cons e_var a_nil)) g_name))
      (x_seq (x_of (s_asg (e_cb c_tuple (a_cons (e_comp (i_seq e_var) g_name (t_test (e_op o_in (e_call (a_cons e_var (a_cons e_var a_nil))) (e_op o_ix e_var e_int))) (l_last e_var)) a_nil)) g_name))
      (x_seq (x_of (s_asg (e_cb c_tuple (a_cons (e_comp (i_seq e_var) g_name (t_test (e_op o_in (e_call (a_cons e_var (a_cons e_var a_nil))) (e_op o_ix e_var e_int))) (l_last e_var)) a_nil)) g_name))
      (x_seq (x_if (t_or (t_test (e_op o_eqD (e_cb c_len (a_cons e_var a_nil)) e_int)) (t_test (e_op o_eqD (e_cb c_len (a_cons e_var a_nil)) e_int))) (x_raise (a_cons e_str a_nil)) (x_of s_next))
      (x_of (s_ret (e_tup (a_cons e_var (a_cons e_var (a_cons e_var a_nil)))))))))))), fun xs ω Q Ex h => ?_⟩)
  obtain ⟨n, ys, zs, tbs, cs, rfl, hT, k⟩ := h
  have hl5 := hT.l5
  have hlen := hT.len
  simp only [csD] at k ⊢
  walk_at "s1"
  refine comp_ix (rs := cs.map fun c : Nat => D.int c) (by simp [hT.len]) (le_dec (m := 0) (by simp; omega)) (fun i a r ha hr' Q q => ?_) (fun ρ => ⟨_, und_map _, ?_⟩)
  · simp only [List.getElem?_map, Option.map_eq_some_iff] at ha hr'
    obtain ⟨_, ⟨tb, h1, rfl⟩, rfl⟩ := ha
    obtain ⟨c, h2, rfl⟩ := hr'
    walk_at "a1"
    exact ⟨tb, c, rfl, hT.tb i tb c h1 h2, hT.c5 c (List.mem_of_getElem? h2), q⟩
  refine ⟨cs.map fun c : Nat => (c : Int), by simp [Function.comp_def], ?_⟩
  rw [cast_sum]
  walk_at "s1"
  refine ite2 (fun h => ?_) (fun h => ?_)
  · rw [if_pos (.inl (by omega))] at k
    rw [only_self]
    exact k
  · have h5 : cs.sum ≤ 5 := by omega
    have hwl := wl_le h5
    walk_at "s1"
    refine ⟨cs.sum, rfl, h5, ?_⟩
    have tst : ∀ v ∈ wl cs.sum, (∀ b ∈ v, b = 0 ∨ b = 1) ∧ v.length = cs.sum := fun v hv => ⟨(wl_mem hv).2, (wl_mem hv).1⟩
    walk_at "s1"
    refine comp_ft wdD (fun v => decide (inn tbs cs v ∈ ys)) wdD (Nat.le_of_lt (small1000 (by omega))) (fun v hv Q q => ?_) (fun v hv _ Q q => ?_) (fun ρ => ⟨_, und_map _, ?_⟩)
    · obtain ⟨t1, t2⟩ := tst v hv
      walk_at "a1"
      refine ⟨tbs, cs, v, rfl, hT, t1, t2, ?_⟩
      walk_at "a1"
      refine ⟨by have := deps_wds ys; omega, ?_⟩
      rw [inD_wd]
      exact q
    · walk_at "a1"
      exact q
    walk_at "s1"
    refine comp_ft wdD (fun v => decide (inn tbs cs v ∈ zs)) wdD (Nat.le_of_lt (small1000 (by omega))) (fun v hv Q q => ?_) (fun v hv _ Q q => ?_) (fun ρ => ⟨_, und_map _, ?_⟩)
    · obtain ⟨t1, t2⟩ := tst v hv
      walk_at "a1"
      refine ⟨tbs, cs, v, rfl, hT, t1, t2, ?_⟩
      walk_at "a1"
      refine ⟨by have := deps_wds zs; omega, ?_⟩
      rw [inD_wd]
      exact q
    · walk_at "a1"
      exact q
    walk_at "s1"
    simp only [only_self]
    have e0 : ∀ l : List (List Int), ((l.length : Int) = 0) ↔ l = [] := fun l => by rw [← List.length_eq_zero_iff]; omega
    refine ite2 (fun h1 => ?_) (fun h1 => ite2 (fun h2 => ?_) (fun h2 => ?_))
    · rw [if_pos (.inr (.inl ((e0 _).mp h1)))] at k
      exact k
    · rw [if_pos (.inr (.inr ((e0 _).mp h2)))] at k
      exact k
    · rw [if_neg (fun z => by
        rcases z with z | z | z
        · omega
        · exact h1 ((e0 _).mpr z)
        · exact h2 ((e0 _).mpr z))] at k
      exact k
end
section
variable {P : Program} {w : World} {K : PySem.W.Frag} {mg : Str → Option Value} {base : Heap} {t : Adr}
theorem pw5 (q : Nat) : (1 * 2 ^ q : Int) = ((2 ^ q : Nat) : Int) := by rw [Int.one_mul, Int.natCast_pow]; rfl
theorem pw32 {q : Nat} (h : q ≤ 5) : 2 ^ q ≤ 32 := Nat.pow_le_pow_right (by decide) h
def sp_table : ASp := fun xs ω Q => ∃ (p : Addr) (q : Nat), xs = [.r (.ref p), .d (.int q)] ∧ PlAt ω p ∧ q ≤ 5 ∧ ∀ (tb : List Int) (c : Pl), tb.length = 2 ^ q → Q (.d (wdD tb)) (ω.put p (plO c))
theorem ok_table (T : Txt K mg t) : FnOk P w K mg base CX0 2 t.a_l_table t.d_l_table ["_law_pen_here", "_law_places"] (lift sp_table) := by
  have G_l_draw : FnOk P w K mg base CX0 1 t.a_l_draw t.d_l_draw ["_law_pen_here", "_law_many"] (lift sp_draw) := ok_draw T
  refine T.f_l_table.okD sc_l_table (fun xs ω Q h => by obtain ⟨p, q, rfl, _⟩ := h; rfl) (fun cdv A outer s H E hr => ⟨_, _, (pss_cons (ps_set (i := 2) sc_l_table.nd rfl (Or.inr rfl) (pe_call G_l_draw (hr.mono (by omega)) (by rfl) T.m_l_draw T.k_l_draw T.p_l_draw .nil pass0 (pa_cons (pv 0) (pa_consC pe_int pa_nil))))
      (pss_one (ps_ret (pe_callTy (call_tuple_ofK K rfl) (by rfl) T.b_tuple (by kernel_rfl) (pa_cons (pe_comp (N := (["_law_k", "_law_pen_here", "_law_places", "_law_same"] : List Str)) (src := [none, some 0, some 1, some 2]) rfl (by show blkOk _ (defScope s_l_table) _ _ (["_law_pen_here", "_law_places", "_law_same"] : List Str) = true; decide +kernel) (by intro g' h; cases h) (pi_range1 rfl T.b_range (pa_cons (pe_op op_shl pe_int (pv 1)) pa_nil)) (fun _ _ _ _ _ _ => (pg_name (i := 0) (show (["_law_k", "_law_pen_here", "_law_places", "_law_same"] : List Str).Nodup by decide +kernel) rfl (Or.inl rfl))) (fun _ _ _ _ _ _ => pts_nil) (fun _ _ _ _ _ _ => (pl_last rfl rfl (pe_ix (ix_seqK K rfl) (pe_lst (pa_cons (pe_call G_l_draw (hr.mono (by omega)) (by rfl) T.m_l_draw T.k_l_draw T.p_l_draw .nil pass0 (pa_cons (pv 1) (pa_consC pe_int pa_nil))) (pa_cons (pv 3) pa_nil))) (pe_callTy call_int1 (by rfl) T.b_int (by kernel_rfl) (pa_cons (pe_andG K rfl (pe_cmpR op_lt (pv 3) pe_int (nomark _)) (pe_one (pe_cmpR op_lt (pv 2) pe_int (nomark _)))) pa_nil)) (fun _ _ => rfl))))) pa_nil))))), (s_seq (s_asg (e_call (a_cons e_var (a_cons e_int a_nil))) g_name)
      (s_ret (e_cb c_tuple (a_cons (e_comp (i_rng1 (a_cons (e_op o_Ii e_int e_var) a_nil)) g_name t_no (l_last (e_op o_ix (e_lst (a_cons (e_call (a_cons e_var (a_cons e_int a_nil))) (a_cons e_var a_nil))) (e_cb c_int (a_cons (e_andG (e_op o_I0b e_var e_int) (e_op o_I0b e_var e_int)) a_nil))))) a_nil)))), fun xs ω Q h => ?_⟩)
  obtain ⟨p, q, rfl, hp, hq, k⟩ := h
  walk_at "s1"
  refine ⟨p, 8, rfl, hp, by decide, by decide, fun r c r0 r1 => ?_⟩
  walk_at "a1"
  have h32 := pw32 hq
  rw [pw5]
  generalize 2 ^ q = z at h32 k ⊢
  refine ⟨⟨by omega, by omega, by decide⟩, by omega, by omega, ?_⟩
  rw [Int.toNat_natCast]
  refine comp_st (fun ω' => ∃ c, ω' = ω.put p (plO c)) D.int (fun _ _ => True) ⟨c, rfl⟩ (Nat.le_of_lt (small1000 (by simp [rngA]; omega))) (fun i a ha ω' ⟨c1, e1⟩ Q' q' => ?_) (fun bs ρ ω' hl _ ⟨c1, e1⟩ => ⟨_, und_map _, ?_⟩)
  · subst e1
    walk_at "a1"
    refine ⟨p, 2, rfl, plAt_put, by decide, by decide, fun x c2 x0 x1 => ?_⟩
    rw [Om.put_put]
    have fin : ∀ y : Int, Q' (.d (.int y)) (ω.put p (plO c2)) := fun y => q' y _ trivial ⟨c2, rfl⟩
    walk_at "a1"
    have at01 : ∀ g : Int, (g = 0 ∨ g = 1) → ∃ y, atI [AV.d (D.int x), AV.d (D.int r)] g = some y ∧ Q' y (ω.put p (plO c2)) := fun g hg => by
      rcases hg with rfl | rfl
      · exact ⟨_, rfl, fin _⟩
      · exact ⟨_, rfl, fin _⟩
    have b01 : ∀ P : Prop, [Decidable P] → (if P then (1 : Int) else 0) = 0 ∨ (if P then (1 : Int) else 0) = 1 := fun P _ => by split <;> simp
    refine ite2 (fun h => ?_) (fun h => ?_)
    · exact at01 _ (b01 _)
    · exact at01 _ (b01 _)
  · subst e1
    rw [only_put (Ex.refl _) hp.some]
    exact k bs c1 (by simpa [rngA] using hl)
theorem ok_linner (T : Txt K mg t) : FnOk P w K mg base CX0 1 t.a_l_inner t.d_l_inner ["_law_tables", "_law_word"] (lift sp_inner) := by
  refine T.f_l_inner.okD sc_l_inner (fun xs ω Q h => by obtain ⟨tbs, cs, w, rfl, _⟩ := h; rfl) (fun cdv A outer s H E hr => ⟨_, _, (pss_cons (ps_set (i := 2) sc_l_inner.nd rfl (Or.inl rfl) (pe_lst pa_nil))
      (pss_cons (ps_set (i := 3) sc_l_inner.nd rfl (Or.inl rfl) pe_int)
      (pss_cons (ps_for PassesOwn.never rfl (pi_seq K rfl (pv 0)) (pg_name (i := 4) sc_l_inner.nd rfl (Or.inl rfl)) (pss_cons (ps_set (i := 5) sc_l_inner.nd rfl (Or.inl rfl) pe_int)
      (pss_cons (ps_set (i := 6) sc_l_inner.nd rfl (Or.inl rfl) pe_int)
      (pss_cons (ps_while PassesOwn.never (pt_cmpR op_lt (pe_op op_shl pe_int (pv 6)) (pe_callB (call_lenK K rfl) (by rfl) T.b_len (by kernel_rfl) (pa_cons (pv 4) pa_nil)) (nomark _)) (pss_cons (ps_set (i := 5) sc_l_inner.nd rfl (Or.inl rfl) (pe_op (op_alt op_add (op_alt op_cat3 op_cat)) (pe_op (op_alt op_mul op_rep) pe_int (pv 5)) (pe_ix (ix_seqK K rfl) (pv 1) (pe_op (op_alt op_add (op_alt op_cat3 op_cat)) (pv 3) (pv 6)) (fun _ _ => rfl))))
      (pss_one (ps_set (i := 6) sc_l_inner.nd rfl (Or.inl rfl) (pe_op (op_alt op_add (op_alt op_cat3 op_cat)) (pv 6) pe_int)))))
      (pss_cons (ps_expr (pe_bm PySem.F.plainAttrs_list PySem.F.slot_list_append PySem.F.type_list_append mt_append (pv 2) (pa_cons (pe_ix (ix_seqK K rfl) (pv 4) (pv 5) (fun _ _ => rfl)) pa_nil)))
      (pss_one (ps_set (i := 3) sc_l_inner.nd rfl (Or.inl rfl) (pe_op (op_alt op_add (op_alt op_cat3 op_cat)) (pv 3) (pv 6)))))))))
      (pss_one (ps_ret (pe_callTy (call_tuple_ofK K rfl) (by rfl) T.b_tuple (by kernel_rfl) (pa_cons (pv 2) pa_nil))))))), (s_seq (s_asg (e_lstO a_nil) g_name)
      (s_seq (s_asg e_int g_name)
      (s_seq (s_for (i_seq e_var) g_name (s_seq (s_asg e_int g_name)
      (s_seq (s_asg e_int g_name)
      (s_seq (s_while (t_test (e_op o_I0b (e_op o_Ii e_int e_var) (e_cb c_len (a_cons e_var a_nil)))) (s_seq (s_asg (e_op o_add (e_op o_mul e_int e_var) (e_op o_ix e_var (e_op o_add e_var e_var))) g_name)
      (s_asg (e_op o_add e_var e_int) g_name)))
      (s_seq (s_drop (e_append e_var (a_cons (e_op o_ix e_var e_var) a_nil)))
      (s_asg (e_op o_add e_var e_var) g_name))))))
      (s_ret (e_cb c_tuple (a_cons e_var a_nil)))))), fun xs ω Q h => ?_⟩)
  obtain ⟨tbs, cs, w, rfl, hT, hb, hw, k⟩ := h
  have hl5 := hT.l5
  have hlen := hT.len
  walk_at "s1"
  intro l hl
  walk_at "s1"
  walk_at "s1"
  refine for_D (fun i ρ ω' => ω' = ω.put l (.own ((((inn tbs cs w).take i).map D.int).map AV.d)) ∧ ∃ v4 v5 v6, ρ = [some (.d (.lst (tbs.map wdD))), some (.d (wdD w)), some (.r (.ref l)), some (.d (.int ((cs.take i).sum : Nat))), v4, v5, v6]) ⟨rfl, _, _, _, rfl⟩ ?_ ?_
  · rintro i d ρ ω1 N hd ⟨rfl, v4, v5, v6, rfl⟩ kN
    obtain ⟨tb, h1, rfl⟩ := L2.map_get hd
    have hi := (List.getElem?_eq_some_iff.mp h1).1
    obtain ⟨c, h2⟩ : ∃ c, cs[i]? = some c := ⟨_, List.getElem?_eq_getElem (by omega)⟩
    have htb := hT.tb i tb c h1 h2
    have hle := sum_take_le h2
    have hc5 := hT.c5 c (List.mem_of_getElem? h2)
    walk_at "s1"
    walk_at "s1"
    obtain ⟨Pv, iP⟩ := invA (fun m ρ ω' => ω' = ω.put l (.own ((((inn tbs cs w).take i).map D.int).map AV.d)) ∧ ∃ q : Nat, q + m = c ∧ ρ = [some (.d (.lst (tbs.map wdD))), some (.d (wdD w)), some (.r (.ref l)), some (.d (.int ((cs.take i).sum : Nat))), some (.d (wdD tb)), some (.d (.int (num ((w.drop (cs.take i).sum).take q)))), some (.d (.int q))])
    refine ⟨Pv, ⟨c, (iP _ _ _).mpr ⟨rfl, 0, by omega, rfl⟩⟩, fun m ρ ω' h => ?_⟩
    obtain ⟨rfl, q, hq, rfl⟩ := (iP _ _ _).mp h
    walk_at "a1"
    refine ⟨⟨by omega, by omega, by decide⟩, ite2 (fun h => ?_) (fun h => ?_)⟩
    · rw [pw5, htb] at h
      have hqc : q < c := by
        have h : 2 ^ q < 2 ^ c := Int.ofNat_lt.mp h
        exact (Nat.pow_lt_pow_iff_right (by decide)).mp h
      refine ⟨fun ρ' ω2 => ω2 = ω.put l (.own ((((inn tbs cs w).take i).map D.int).map AV.d)) ∧ ρ' = [some (.d (.lst (tbs.map wdD))), some (.d (wdD w)), some (.r (.ref l)), some (.d (.int ((cs.take i).sum : Nat))), some (.d (wdD tb)), some (.d (.int (num ((w.drop (cs.take i).sum).take (q + 1))))), some (.d (.int ((q + 1 : Nat) : Int)))], ?_, ?_⟩
      · rintro ρ' ω2 ⟨rfl, rfl⟩
        exact ⟨m - 1, by omega, (iP _ _ _).mpr ⟨rfl, q + 1, by omega, rfl⟩⟩
      · walk_at "s1"
        have ew := wd_at (w := w) (i := ((cs.take i).sum : Nat) + (q : Int)) (by omega) (by omega)
        refine ⟨cmul_l (by decide), _, ew, _, rfl, ?_⟩
        have e : num ((w.drop (cs.take i).sum).take (q + 1)) = 2 * num ((w.drop (cs.take i).sum).take q) + w.getD (((cs.take i).sum : Nat) + (q : Int)).toNat 0 := by
          unfold num
          rw [List.take_succ, List.foldl_append, List.getElem?_drop, show (((cs.take i).sum : Nat) + (q : Int)).toNat = (cs.take i).sum + q from by omega, List.getD_eq_getElem?_getD, List.getElem?_eq_getElem (by omega)]
          rfl
        exact ⟨e.symm, rfl⟩
    · rw [pw5, htb] at h
      have hqc : q = c := by
        rcases Nat.lt_or_ge q c with h' | h'
        · exact absurd (show (((2 ^ q : Nat) : Int)) < ((2 ^ c : Nat) : Int) from Int.ofNat_lt.mpr (Nat.pow_lt_pow_right (a := 2) (by decide) h')) h
        · omega
      subst hqc
      have bits : ∀ b ∈ (w.drop (cs.take i).sum).take q, b = 0 ∨ b = 1 := fun b h => hb b (List.mem_of_mem_drop (List.mem_of_mem_take h))
      have hlq : ((w.drop (cs.take i).sum).take q).length = q := by rw [List.length_take, List.length_drop]; omega
      obtain ⟨n1, n2⟩ := num_lt bits 0 (Int.le_refl _)
      rw [hlq] at n2
      have et := wd_at (w := tb) (i := num ((w.drop (cs.take i).sum).take q)) n1 (by rw [htb]; unfold num; simpa using n2)
      have hg := inn_get (w := w) h1 h2
      walk_at "s1"
      refine ⟨_, et, ?_⟩
      refine ⟨small1000 (by rw [List.length_take, inn_len hlen]; omega), ?_⟩
      have e1 : (inn tbs cs w).take (i + 1) = (inn tbs cs w).take i ++ [tb.getD (num ((w.drop (cs.take i).sum).take q)).toNat 0] := by rw [List.take_succ, hg]; rfl
      have e2 : (cs.take (i + 1)).sum = (cs.take i).sum + q := by rw [List.take_succ, h2]; simp
      exact kN _ _ ⟨by rw [e1]; simp, _, _, _, by rw [e2, Int.natCast_add]⟩
  · rintro ρ ω1 ⟨rfl, v4, v5, v6, rfl⟩
    walk_at "a1"
    rw [only_ex ((Ex.refl ω).new hl), List.take_of_length_le (by rw [inn_len hlen]; omega)]
    exact k
def putI (tbs : List (List Int)) (cs : List Nat) (ys : List (List Int)) (i : Nat) : List (List Int) := ((wl cs.sum).take i).filter fun v => decide (inn tbs cs v ∈ ys)
theorem putI_yes {tbs : List (List Int)} {cs : List Nat} {ys : List (List Int)} {i : Nat} {x : List Int} (h : (wl cs.sum)[i]? = some x) (hx : inn tbs cs x ∈ ys) : putI tbs cs ys (i + 1) = putI tbs cs ys i ++ [x] := by
  unfold putI
  rw [List.take_succ, h, List.filter_append]
  simp [hx]
theorem putI_no {tbs : List (List Int)} {cs : List Nat} {ys : List (List Int)} {i : Nat} {x : List Int} (h : (wl cs.sum)[i]? = some x) (hx : ¬ inn tbs cs x ∈ ys) : putI tbs cs ys (i + 1) = putI tbs cs ys i := by
  unfold putI
  rw [List.take_succ, h, List.filter_append]
  simp [hx]
theorem putI_len {tbs : List (List Int)} {cs : List Nat} {ys : List (List Int)} {i : Nat} : (putI tbs cs ys i).length ≤ i := by
  have := List.length_filter_le (fun v => decide (inn tbs cs v ∈ ys)) ((wl cs.sum).take i)
  rw [List.length_take] at this
  unfold putI
  omega
theorem frzA_own {ω : Om} {a : Addr} {ds : List D} {K : D → Om → Prop} (h : ω a = some (.own (ds.map AV.d))) (k : K (.lst ds) (ω.put a (.frz ds))) : frzA ω (.r (.ref a)) K := by
  simp only [frzA, h]
  exact ⟨ds, und_map ds, k⟩
theorem putI_all {tbs : List (List Int)} {cs : List Nat} {ys : List (List Int)} : putI tbs cs ys (wl cs.sum).length = putL tbs cs ys := by unfold putI; rw [List.take_length]; rfl
def sp_lput : ASp := fun xs ω Q => ∃ (n : Nat) (ys zs tbs : List (List Int)) (cs : List Nat), xs = [.d (.int cs.sum), .d (csD n ys zs), .d (.lst (tbs.map wdD))] ∧ Tbs cs tbs ∧ cs.sum ≤ 5 ∧ Q (.d (.lst [.lst ((putL tbs cs ys).map wdD), .lst ((putL tbs cs zs).map wdD)])) ω
theorem ok_lput (T : Txt K mg t) : FnOk P w K mg base CX0 2 t.a_l_put t.d_l_put ["_law_places", "_law_case", "_law_tables"] (lift sp_lput) := by
  have G_l_all : FnOk P w K mg base CX0 1 t.a_l_all t.d_l_all ["_law_places"] (lift sp_all) := ok_all T
  have G_l_inner : FnOk P w K mg base CX0 1 t.a_l_inner t.d_l_inner ["_law_tables", "_law_word"] (lift sp_inner) := ok_linner T
  refine T.f_l_put.okD sc_l_put (fun xs ω Q h => by obtain ⟨n, ys, zs, tbs, cs, rfl, _⟩ := h; rfl) (fun cdv A outer s H E hr => ⟨_, _, (pss_cons (ps_set (i := 3) sc_l_put.nd rfl (Or.inl rfl) (pe_lst (pa_consL (pe_lst pa_nil) (pa_consL (pe_lst pa_nil) pa_nil))))
      (pss_cons (ps_for PassesOwn.never rfl (pi_seq K rfl (pe_call G_l_all (hr.mono (by omega)) (by rfl) T.m_l_all T.k_l_all T.p_l_all .nil pass0 (pa_cons (pv 0) pa_nil))) (pg_name (i := 4) sc_l_put.nd rfl (Or.inl rfl)) (pss_one (ps_for PassesOwn.never rfl (pi_range1 rfl T.b_range (pa_consC pe_int pa_nil)) (pg_name (i := 5) sc_l_put.nd rfl (Or.inl rfl)) (pss_one (ps_if (pt_cmpR (op_inD hr.u100) (pe_call G_l_inner (hr.mono (by omega)) (by rfl) T.m_l_inner T.k_l_inner T.p_l_inner .nil pass0 (pa_cons (pv 2) (pa_cons (pv 4) pa_nil))) (pe_ix (ix_seqK K rfl) (pv 1) (pe_op (op_alt op_add (op_alt op_cat3 op_cat)) pe_int (pv 5)) (fun _ _ => rfl)) (by with_unfolding_all rfl)) (pss_one (ps_expr (pe_bm PySem.F.plainAttrs_list PySem.F.slot_list_append PySem.F.type_list_append mt_append (pe_ix (ix_seqK K rfl) (pv 3) (pv 5) (fun _ _ => rfl)) (pa_cons (pv 4) pa_nil)))) pss_nil)))))
      (pss_one (ps_ret (pv 3))))), (s_seq (s_asg (e_lstO (a_cons (e_lstO a_nil) (a_cons (e_lstO a_nil) a_nil))) g_name)
      (s_seq (s_for (i_seq (e_call (a_cons e_var a_nil))) g_name (s_for (i_rng1 (a_cons e_int a_nil)) g_name (s_if (t_test (e_op o_in (e_call (a_cons e_var (a_cons e_var a_nil))) (e_op o_ix e_var (e_op o_add e_int e_var)))) (s_drop (e_append (e_op o_ix e_var e_var) (a_cons e_var a_nil))) s_next)))
      (s_ret e_varFF))), fun xs ω Q h => ?_⟩)
  obtain ⟨n, ys, zs, tbs, cs, rfl, hT, h5, k⟩ := h
  have hwl := wl_le h5
  walk_at "s1"
  intro a ha b hb l hl
  obtain ⟨nba, hb⟩ := put_free hb
  obtain ⟨nlb, hl⟩ := put_free hl
  obtain ⟨nla, hl⟩ := put_free hl
  have eo : ((ω.put a (OC.own [])).put b (OC.own [])).put l (OC.own [AV.r (V.ref a), AV.r (V.ref b)]) = om3 ω a b l (.own (((putI tbs cs ys 0).map wdD).map AV.d)) (.own (((putI tbs cs zs 0).map wdD).map AV.d)) (OC.own [AV.r (V.ref a), AV.r (V.ref b)]) := rfl
  rw [eo]
  walk_at "s1"
  refine ⟨cs.sum, rfl, h5, _, rfl, ?_⟩
  refine for_D (fun i ρ ω' => ω' = om3 ω a b l (.own (((putI tbs cs ys i).map wdD).map AV.d)) (.own (((putI tbs cs zs i).map wdD).map AV.d)) (OC.own [AV.r (V.ref a), AV.r (V.ref b)]) ∧ ∃ v4 v5, ρ = [some (.d (.int cs.sum)), some (.d (csD n ys zs)), some (.d (.lst (tbs.map wdD))), some (.r (.ref l)), v4, v5]) ⟨rfl, _, _, rfl⟩ ?_ ?_
  · rintro i d ρ ω1 N hd ⟨rfl, v4, v5, rfl⟩ kN
    obtain ⟨x, hx, rfl⟩ := L2.map_get hd
    have hi := (List.getElem?_eq_some_iff.mp hx).1
    obtain ⟨x1, x2⟩ := wl_mem (List.mem_of_getElem? hx)
    have et : (wl cs.sum).take (i + 1) = (wl cs.sum).take i ++ [x] := by rw [List.take_succ, hx]; rfl
    walk_at "a1"
    have nn : a ≠ b := nba.symm
    refine ⟨by decide, by decide, for_rng (fun j ρ ω' => ω' = om3 ω a b l (.own (((putI tbs cs ys (if 1 ≤ j then i + 1 else i)).map wdD).map AV.d)) (.own (((putI tbs cs zs (if 2 ≤ j then i + 1 else i)).map wdD).map AV.d)) (OC.own [AV.r (V.ref a), AV.r (V.ref b)]) ∧ ∃ v5, ρ = [some (.d (.int cs.sum)), some (.d (csD n ys zs)), some (.d (.lst (tbs.map wdD))), some (.r (.ref l)), some (.d (wdD x)), v5]) ⟨rfl, _, rfl⟩ ?_ ?_⟩
    · rintro j ρ ω1 N2 hj ⟨rfl, v5, rfl⟩ kN2
      have hj : j < 2 := hj
      have lY := putI_len (tbs := tbs) (cs := cs) (ys := ys) (i := i)
      have lZ := putI_len (tbs := tbs) (cs := cs) (ys := zs) (i := i)
      simp only [csD] at kN2 ⊢
      walk_at "a1"
      refine ⟨tbs, cs, x, rfl, hT, x2, x1, ?_⟩
      rcases (by omega : j = 0 ∨ j = 1) with rfl | rfl
      · walk_at "a1"
        refine ⟨_, rfl, _, rfl, _, .inr rfl, by have := deps_wds ys; omega, ?_⟩
        rw [inD_wd]
        by_cases hx' : inn tbs cs x ∈ ys
        · rw [if_pos (by simpa using hx')]
          simp only [om3_2]
          refine ⟨_, rfl, .r (.ref a), rfl, a, rfl, ⟨_, om3_p nn (Ne.symm nla)⟩, _, om3_p nn (Ne.symm nla), small1000 (by simp; omega), kN2 _ _ ⟨?_, _, rfl⟩⟩
          rw [om3_pp nn (Ne.symm nla)]
          simp [putI_yes hx hx']
        · rw [if_neg (by simpa using hx')]
          exact kN2 _ _ ⟨by simp [putI_no hx hx'], _, rfl⟩
      · walk_at "a1"
        refine ⟨_, rfl, _, rfl, _, .inr rfl, by have := deps_wds zs; omega, ?_⟩
        rw [inD_wd]
        by_cases hx' : inn tbs cs x ∈ zs
        · rw [if_pos (by simpa using hx')]
          simp only [om3_2]
          refine ⟨_, rfl, .r (.ref b), rfl, b, rfl, ⟨_, om3_1 (Ne.symm nlb)⟩, _, om3_1 (Ne.symm nlb), small1000 (by simp; omega), kN2 _ _ ⟨?_, _, rfl⟩⟩
          rw [om3_p1 (Ne.symm nlb)]
          simp [putI_yes hx hx']
        · rw [if_neg (by simpa using hx')]
          exact kN2 _ _ ⟨by simp [putI_no hx hx'], _, rfl⟩
    · rintro ρ ω1 ⟨rfl, v5, rfl⟩
      exact kN _ _ ⟨rfl, _, _, rfl⟩
  · rintro ρ ω1 ⟨rfl, v4, v5, rfl⟩
    rw [List.length_map, putI_all, putI_all]
    have nn : a ≠ b := nba.symm
    refine ⟨l, [.r (.ref a), .r (.ref b)], rfl, om3_2, frzA_own (om3_p nn (Ne.symm nla)) ?_⟩
    rw [om3_pp nn (Ne.symm nla)]
    refine frzA_own (om3_1 (Ne.symm nlb)) ?_
    rw [om3_p1 (Ne.symm nlb)]
    refine ⟨om3_2, _, rfl, ?_⟩
    rw [om3_p2]
    unfold om3
    rw [only_ex (((((Ex.refl ω).new ha).new (by rw [Om.put_ne nba]; exact hb)).new (by rw [Om.put_ne nlb, Om.put_ne nla]; exact hl)))]
    exact k
end
section
variable {P : Program} {w : World} {K : PySem.W.Frag} {mg : Str → Option Value} {base : Heap} {t : Adr}
def upX (s : ASpX) : ASpX := fun xs ω Q Ex => ∃ Q0 Ex0, s xs ω Q0 Ex0 ∧ (∀ v ω', Q0 v ω' → Q v ω') ∧ ∀ c ω', Ex0 c ω' → Ex c ω'
theorem liftCX_up {caps : List V} {cA : List AV} {sp : ASpX} {vs : List V} {H : Hp} {Q : VK} {E : XK} (h : liftCX caps cA (upX sp) vs H Q E) : liftCX caps cA sp vs H Q E := by
  obtain ⟨F, xs, ω, Q', Ex, rp, rv, rc, ⟨Q0, Ex0, h, k1, k2⟩, kq, kx⟩ := h
  exact ⟨F, xs, ω, Q0, Ex0, rp, rv, rc, h, fun a ω' v H' r f rv q => kq a ω' v H' r f rv (k1 a ω' q), fun C ω' a H' r f q => kx C ω' a H' r f (k2 C ω' q)⟩
theorem clo_up {P : Program} {w : World} {K : PySem.W.Frag} {mg : Str → Option Value} {base : Heap} {H₀ : Hp} {k : Nat} {f : Addr} {n : Nat} {caps : List V} {cA : List AV} {sp : ASpX} (C : CloX P w K mg base H₀ k f n (liftCX caps cA sp)) : CloX P w K mg base H₀ k f n (liftCX caps cA (upX sp)) :=
  ⟨C.fn, fun vs H Q E h => C.len vs H Q E (liftCX_up h), fun A outer s H us vs Q E a b c d h => C.run A outer s H us vs Q E a b c d (liftCX_up h)⟩
theorem ok_refd (kc : Nat) (T : Txt K mg t) : FnOk P w K mg base CX0 (kc + 3) t.a_l_refused t.d_l_refused ["_law_asked"] (sp_refd kc t.a_NoCase (.str "case") P w K mg base) := by
  refine T.f_l_refused.ok sc_l_refused (fun vs H Q E h => ?_) (fun cdv A outer s H vs Q E hr h => ?_)
  · obtain ⟨F, ω, Q', f, c, a, sp, rfl, _⟩ := h; rfl
  obtain ⟨F, ω, Q', f, c, a, sp, rfl, rp, C0, rc, hs, kq⟩ := h
  have C__law_asked := clo_up C0
  have rvs : RVs (cut F H ω) [cloA f c a] [.ref f] := ⟨_, _, rfl, ⟨rfl, fun G' s => rc.same s⟩, rfl⟩
  refine ⟨_, (pss_cons (ps_set (i := 1) sc_l_refused.nd rfl (Or.inl rfl) pe_non)
      (pss_cons (ps_try (i := 2) (j := 1) rfl rfl rfl (psx_expr (pex_callV0 (k := kc) (i := 0) (hr.mono (by omega)) rfl (Or.inl rfl))) (by rfl) T.c_TalkError sc_l_refused.nd rfl rfl (by decide) rfl rfl)
      (pss_cons (ps_set (i := 3) sc_l_refused.nd rfl (Or.inl rfl) (pe_lst (pa_cons (pe_callB (call_isX K rfl) (by rfl) T.b_isinstance (by kernel_rfl) (pa_cons (pv 1) (pa_cons (pe_glob (v := .ref t.a_NoCase) rfl T.c_NoCase rfl) pa_nil))) (pa_cons (pe_callB (call_isX K rfl) (by rfl) T.b_isinstance (by kernel_rfl) (pa_cons (pv 1) (pa_cons (pe_glob (v := .ref t.a_NoTalk) rfl T.c_NoTalk rfl) pa_nil))) pa_nil))))
      (pss_cons (ps_if (pt_truthK K rfl (pe_callB (call_isXT K rfl) (by rfl) T.b_isinstance (by kernel_rfl) (pa_cons (pv 1) (pa_consT (pe_tup (pa_cons (pe_glob (v := .ref t.a_NoRise) rfl T.c_NoRise rfl) (pa_cons (pe_glob (v := .ref t.a_NoRow) rfl T.c_NoRow rfl) (pa_cons (pe_glob (v := .ref t.a_NoSaying) rfl T.c_NoSaying rfl) (pa_cons (pe_glob (v := .ref t.a_NoText) rfl T.c_NoText rfl) (pa_cons (pe_glob (v := .ref t.a_NoWord) rfl T.c_NoWord rfl) (pa_cons (pe_glob (v := .ref t.a_TooMany) rfl T.c_TooMany rfl) pa_nil))))))) pa_nil))) (fun _ => rfl)) (pss_one (ps_ret pe_str)) pss_nil)
      (pss_cons (ps_if (PW.pt (pw_or (pt_not (pt_truthK K rfl (pe_callB (call_isX K rfl) (by rfl) T.b_isinstance (by kernel_rfl) (pa_cons (pv 1) (pa_cons (pe_bltn (v := .ty "ValueError") (by rfl) T.b_ValueError (by kernel_rfl) (by rfl)) pa_nil))) (fun _ => rfl))) (pw_or1 (pt_cmpR (op_eqD hr.u100) (pe_ix (ix_seqK K rfl) (pv 3) pe_int (fun _ _ => rfl)) (pe_ix (ix_seqK K rfl) (pv 3) pe_int (fun _ _ => rfl)) (nomark _))))) (pss_one (ps_ret pe_str)) pss_nil)
      (pss_one (ps_ret (pe_ix (ix_seqK K rfl) (pe_lst (pa_consC pe_str (pa_consC pe_str pa_nil))) (pe_callTy call_int1 (by rfl) T.b_int (by kernel_rfl) (pa_cons (pe_ix (ix_seqK K rfl) (pv 3) pe_int (fun _ _ => rfl)) pa_nil)) (fun _ _ => rfl))))))))), RefS.run ((s_seq (s_asg e_non g_name)
      (s_seq (s_tryV C__law_asked)
      (s_seq (s_asg (e_lst (a_cons (e_cb c_isX (a_cons e_var (a_cons e_raw a_nil))) (a_cons (e_cb c_isX (a_cons e_var (a_cons e_raw a_nil))) a_nil))) g_name)
      (s_seq (s_if (t_tru (e_isXT e_var (a_cons e_raw (a_cons e_raw (a_cons e_raw (a_cons e_raw (a_cons e_raw (a_cons e_raw a_nil)))))))) (s_ret e_str) s_next)
      (s_seq (s_if (t_or (t_not (t_tru (e_cb c_isX (a_cons e_var (a_cons e_raw a_nil))))) (t_test (e_op o_eqD (e_op o_ix e_var e_int) (e_op o_ix e_var e_int)))) (s_ret e_str) s_next)
      (s_ret (e_op o_ix (e_lst (a_cons e_str (a_cons e_str a_nil))) (e_cb c_int (a_cons (e_op o_ix e_var e_int) a_nil)))))))))) F H ω _ _ _ { nx := fun _ ω' => Q' (.d .non) (ω'.only ω), rt := fun a ω' => ∃ d, a = .d d ∧ Q' (.d d) (ω'.only ω) } rp (RS.start rvs) ?_ ⟨?_, ?_, fun _ _ _ _ _ _ _ z => z.elim, fun _ _ _ _ _ _ _ z => z.elim⟩⟩
  · walk_at "s1"
    refine ⟨rfl, _, _, hs, fun v ω' z => z.elim, ?_⟩
    rintro C ω1 ⟨rfl, q⟩
    refine ⟨T.r_NoCase_TalkError, fun x => ?_⟩
    walk_at "s1"
    refine ⟨_, rfl, true, isXA_exc T.x_NoCase T.q_NoCase_NoCase, _, rfl, false, isXA_exc T.x_NoCase T.q_NoCase_NoTalk, ?_⟩
    walk_at "s1"
    refine ⟨[.ref t.a_NoRise, .ref t.a_NoRow, .ref t.a_NoSaying, .ref t.a_NoText, .ref t.a_NoWord, .ref t.a_TooMany], rfl, by simp, _, rfl, false, isXA_exc T.x_NoCase (by simp only [PySem.W.kitAny, T.q_NoCase_NoSaying, T.q_NoCase_NoRise, T.q_NoCase_TooMany, T.q_NoCase_NoText, T.q_NoCase_NoRow, T.q_NoCase_NoWord]), ?_⟩
    walk_at "s1"
    exact ⟨_, rfl, true, isXA_exc T.x_NoCase T.q_NoCase_ValueError, q⟩
  · exact fun ρ' ω' σ' H' e1 e2 e3 q => kq (.d .non) (ω'.only ω) .non H' e1.only.1 e2.only (by simp [RV, Dat]) q
  · rintro a ω' v H' e1 e2 e3 ⟨d, rfl, q⟩
    exact kq (.d d) (ω'.only ω) v H' e1.only.1 e2.only (e3.same e1.only.2) q
end
section
variable {P : Program} {w : World} {K : PySem.W.Frag} {mg : Str → Option Value} {base : Heap} {t : Adr}
def lam_law_0 (t : Adr) (cA : List AV) : ASpX := fun xs ω Q Ex => xs = [] ∧ sp_put t cA ω Q Ex
theorem mem_le_sum : ∀ {cs : List Int} {c : Int}, (∀ x ∈ cs, 1 ≤ x) → c ∈ cs → c ≤ cs.sum
  | a :: cs, c, h, hc => by
    have h0 : ∀ cs : List Int, (∀ x ∈ cs, 1 ≤ x) → 0 ≤ cs.sum := fun cs h => by
      induction cs with
      | nil => simp
      | cons a r ih => have := h a List.mem_cons_self; have := ih fun x hx => h x (List.mem_cons_of_mem _ hx); simp only [List.sum_cons]; omega
    have h1 := h a List.mem_cons_self
    rw [List.sum_cons]
    rcases List.mem_cons.mp hc with rfl | hc
    · have := h0 cs fun x hx => h x (List.mem_cons_of_mem _ hx)
      omega
    · have := mem_le_sum (fun x hx => h x (List.mem_cons_of_mem _ hx)) hc
      omega
theorem to_nats {cs : List Int} (h : ∀ c ∈ cs, 1 ≤ c ∧ c ≤ 5) : ∃ ds : List Nat, cs = (ds.map fun d : Nat => (d : Int)) ∧ ds.length = cs.length ∧ ∀ d ∈ ds, d ≤ 5 := by
  refine ⟨cs.map Int.toNat, ?_, by simp, fun d hd => ?_⟩
  · rw [List.map_map]
    conv => lhs; rw [← List.map_id cs]
    exact List.map_congr_left fun c hc => by have := h c hc; simp only [id, Function.comp_apply]; omega
  · obtain ⟨c, hc, rfl⟩ := List.mem_map.mp hd
    have := h c hc
    omega
theorem put_sub {tbs : List (List Int)} {cs : List Nat} {ys : List (List Int)} : (putL tbs cs ys).Sublist (wl cs.sum) := List.filter_sublist
theorem cs_rep4 {n : Nat} {ys zs : List (List Int)} (hn : n ≤ 5) (hy : ys.Sublist (wl n)) (hz : zs.Sublist (wl n)) : notS (csD n ys zs) = true ∧ dep (csD n ys zs) ≤ 90 ∧ fit (csD n ys zs) = true ∧ wt (csD n ys zs) ≤ 1000000 := by
  have ly := Nat.le_trans hy.length_le (wl_le hn)
  have lz := Nat.le_trans hz.length_le (wl_le hn)
  obtain ⟨a1, a2⟩ := wt_ws hn (ws := ys) fun v hv => hy.mem hv
  obtain ⟨b1, b2⟩ := wt_ws hn (ws := zs) fun v hv => hz.mem hv
  have d1 := deps_wds ys
  have d2 := deps_wds zs
  have hl := log2_le (i := (n : Int)) (by omega) (by omega)
  refine ⟨rfl, ?_, ?_, ?_⟩
  · simp only [csD, dep, deps]; omega
  · simp only [csD, fit, fits, a2, b2, Bool.and_true, Bool.true_and, decide_eq_true_eq]; omega
  · simp only [csD, wt, wts]; omega
theorem ok_law (T : Txt K mg t) : FnOk P w K mg base CX0 30 t.a_law t.d_law ["_law_script"] (sp_law K) := by
  have G_l_pen : FnOk P w K mg base CX0 1 t.a_l_pen t.d_l_pen ["_law_script"] (lift (sp_pen K)) := ok_pen T
  have G_l_draw : FnOk P w K mg base CX0 1 t.a_l_draw t.d_l_draw ["_law_pen_here", "_law_many"] (lift sp_draw) := ok_draw T
  have G_l_sorts : FnOk P w K mg base CX0 3 t.a_l_sorts t.d_l_sorts ["_law_pen_here", "_law_places"] (lift sp_sorts) := ok_sorts T
  have G_l_counts : FnOk P w K mg base CX0 2 t.a_l_counts t.d_l_counts ["_law_pen_here", "_law_n"] (lift sp_counts) := ok_counts T
  have G_l_table : FnOk P w K mg base CX0 2 t.a_l_table t.d_l_table ["_law_pen_here", "_law_places"] (lift sp_table) := ok_table T
  have G_l_put : FnOk P w K mg base CX0 2 t.a_l_put t.d_l_put ["_law_places", "_law_case", "_law_tables"] (lift sp_lput) := ok_lput T
  have G_l_refused : ∀ b', FnOk P w K mg b' CX0 10 t.a_l_refused t.d_l_refused ["_law_asked"] (sp_refd 7 t.a_NoCase (.str "case") P w K mg b') := fun b' => ok_refd 7 T
  have G_put_case : FnOk P w K mg base CX0 4 t.a_put_case t.d_put_case ["case", "tables"] (lift (spN (sp_put t))) := (ok_put T).calm
  refine T.ft_law.okD sc_law (fun xs ω Q h => by obtain ⟨a, ns, rfl, _⟩ := h; rfl) (fun A outer s H E hr => ?_)
  refine ⟨_, _, (pss_cons (ps_set (i := 1) sc_law.nd rfl (Or.inr rfl) (pe_call G_l_pen (hr.mono (by omega)) (by rfl) T.m_l_pen T.k_l_pen T.p_l_pen .nil pass0 (pa_cons (pv 0) pa_nil)))
      (pss_cons (ps_for PassesOwn.never rfl (pi_range1 rfl T.b_range (pa_consC pe_int pa_nil)) (pg_name (i := 2) sc_law.nd rfl (Or.inl rfl)) (pss_cons (ps_set (i := 3) sc_law.nd rfl (Or.inl rfl) (pe_op (op_alt op_add (op_alt op_cat3 op_cat)) pe_int (pe_call G_l_draw (hr.mono (by omega)) (by rfl) T.m_l_draw T.k_l_draw T.p_l_draw .nil pass0 (pa_cons (pv 1) (pa_consC pe_int pa_nil)))))
      (pss_cons (ps_set (i := 4) sc_law.nd rfl (Or.inr rfl) (pe_op (op_alt op_add (op_alt op_cat3 op_cat)) (pe_tup (pa_cons (pv 3) pa_nil)) (pe_call G_l_sorts (hr.mono (by omega)) (by rfl) T.m_l_sorts T.k_l_sorts T.p_l_sorts .nil pass0 (pa_cons (pv 1) (pa_cons (pv 3) pa_nil)))))
      (pss_cons (ps_set (i := 5) sc_law.nd rfl (Or.inl rfl) (pe_call G_l_counts (hr.mono (by omega)) (by rfl) T.m_l_counts T.k_l_counts T.p_l_counts .nil pass0 (pa_cons (pv 1) (pa_cons (pv 3) pa_nil))))
      (pss_cons (ps_if (pt_cmpR (op_eqD hr.u100) (pv 2) pe_int (nomark _)) (pss_one (ps_asg pe_int (pg_sub (pv 5) (pe_call G_l_draw (hr.mono (by omega)) (by rfl) T.m_l_draw T.k_l_draw T.p_l_draw .nil pass0 (pa_cons (pv 1) (pa_cons (pv 3) pa_nil))) set_list))) pss_nil)
      (pss_cons (ps_set (i := 6) sc_law.nd rfl (Or.inl rfl) (pe_callB (call_sumU K rfl rfl) (by rfl) T.b_sum (by kernel_rfl) (pa_cons (pv 5) pa_nil)))
      (pss_cons (ps_setC (i := 7) sc_law.nd rfl (Or.inl rfl) (N := (["_law_count", "_law_pen_here"] : List Str)) (src := [none, some 1]) rfl (by show blkOk _ (defScope s_law) _ _ (["_law_script", "_law_pen_here", "_law_turn", "_law_n", "_law_case", "_law_counts_here", "_law_places", "_law_tables", "_law_handed", "_law_due"] : List Str) = true; decide +kernel) (by intro g' h; cases h) (pi_seq K rfl (pv 5)) (fun _ _ _ _ _ _ => (pg_name (i := 0) (show (["_law_count", "_law_pen_here"] : List Str).Nodup by decide +kernel) rfl (Or.inl rfl))) (fun _ _ _ _ _ _ => pts_nil) (fun _ _ _ _ _ _ => (pl_last rfl rfl (pe_call G_l_table (hr.mono (by omega)) (by rfl) T.m_l_table T.k_l_table T.p_l_table .nil pass0 (pa_cons (pv 1) (pa_cons (pv 0) pa_nil))))))
      (pss_cons (ps_set (i := 8) sc_law.nd rfl (Or.inr rfl) (pe_callTy (call_list_ofK K rfl) (by rfl) T.b_list (by kernel_rfl) (pa_cons (pv 7) pa_nil)))
      (pss_cons (ps_set (i := 9) sc_law.nd rfl (Or.inl rfl) (pe_lst (pa_consL (pe_lst pa_nil) (pa_consL (pe_lst pa_nil) pa_nil))))
      (pss_cons (ps_if (pt_cmpR op_lt (pv 6) pe_int (nomark _)) (pss_one (ps_set (i := 9) sc_law.nd rfl (Or.inl rfl) (pe_call G_l_put (hr.mono (by omega)) (by rfl) T.m_l_put T.k_l_put T.p_l_put .nil pass0 (pa_cons (pv 6) (pa_cons (pv 4) (pa_cons (pv 7) pa_nil)))))) pss_nil)
      (pss_one (ps_if (pt_cmpR (op_inD hr.u100) (pe_lst pa_nil) (pv 9) (by with_unfolding_all rfl)) (pss_one (ps_if (PW.pt (pw_or (pt_cmpR (op_neD hr.u100) (pe_callC G_l_refused (hr.mono (by omega)) (by rfl) T.m_l_refused T.k_l_refused T.p_l_refused (pa_cons (pe_lam (x := "law") rfl rfl T.ft_law.tab T.ft_law.hd rfl) pa_nil)) pe_str (nomark _)) (pw_or1 (pt_cmpR (op_neD hr.u100) (pv 8) (pv 7) (nomark _))))) (pss_one (ps_ret pe_bl)) pss_nil)) (pss_one (ps_if (PW.pt (pw_or (pt_cmpR (op_neD hr.u100) (pe_callB (call_reprX hr.gd hr.u100) (by rfl) T.b_repr (by kernel_rfl) (pa_cons (pe_call G_put_case (hr.mono (by omega)) (by rfl) T.m_put_case T.k_put_case T.p_put_case .nil pass0 (pa_cons (pv 4) (pa_cons (pv 8) pa_nil))) pa_nil)) (pe_callB (call_reprX hr.gd hr.u100) (by rfl) T.b_repr (by kernel_rfl) (pa_consT (pe_tup (pa_cons (pv 6) (pa_cons (pe_callTy (call_tuple_ofK K rfl) (by rfl) T.b_tuple (by kernel_rfl) (pa_cons (pe_ix (ix_seqK K rfl) (pv 9) pe_int (fun _ _ => rfl)) pa_nil)) (pa_cons (pe_callTy (call_tuple_ofK K rfl) (by rfl) T.b_tuple (by kernel_rfl) (pa_cons (pe_ix (ix_seqK K rfl) (pv 9) pe_int (fun _ _ => rfl)) pa_nil)) pa_nil)))) pa_nil)) (nomark _)) (pw_or1 (pt_cmpR (op_neD hr.u100) (pv 8) (pv 7) (nomark _))))) (pss_one (ps_ret pe_bl)) pss_nil))))))))))))))
      (pss_one (ps_ret pe_bl)))), (s_seq (s_asg (e_call (a_cons e_var a_nil)) g_name)
      (s_seq (s_for (i_rng1 (a_cons e_int a_nil)) g_name (s_seq (s_asg (e_op o_add e_int (e_call (a_cons e_var (a_cons e_int a_nil)))) g_name)
      (s_seq (s_asg (e_op o_add (e_tup (a_cons e_var a_nil)) (e_call (a_cons e_var (a_cons e_var a_nil)))) g_name)
      (s_seq (s_asg (e_call (a_cons e_var (a_cons e_var a_nil))) g_name)
      (s_seq (s_if (t_test (e_op o_eqD e_var e_int)) (s_asg e_int (g_sub e_var (e_call (a_cons e_var (a_cons e_var a_nil))))) s_next)
      (s_seq (s_asg (e_cb c_sumU (a_cons e_var a_nil)) g_name)
      (s_seq (s_asg (e_comp (i_seq e_var) g_name t_no (l_last (e_call (a_cons e_var (a_cons e_var a_nil))))) g_name)
      (s_seq (s_asg (e_cb c_list (a_cons e_var a_nil)) g_name)
      (s_seq (s_asg (e_lst (a_cons (e_lst a_nil) (a_cons (e_lst a_nil) a_nil))) g_name)
      (s_seq (s_if (t_test (e_op o_I0b e_var e_int)) (s_asg (e_call (a_cons e_var (a_cons e_var (a_cons e_var a_nil)))) g_name) s_next)
      (s_if (t_test (e_op o_in (e_lst a_nil) e_var)) (s_if (t_or (t_test (e_op o_eqD (e_refd (C := t.a_NoCase) (d := (.str "case")) (js := [4, 8]) (s := lam_law_0 t) ?F0) e_str)) (t_test (e_op o_eqD e_var e_var))) (s_ret e_bl) s_next) (s_if (t_or (t_test (e_op o_eqD (e_cb c_reprX (a_cons (e_call (a_cons e_var (a_cons e_var a_nil))) a_nil)) (e_cb c_reprX (a_cons (e_tup (a_cons e_var (a_cons (e_cb c_tuple (a_cons (e_op o_ix e_var e_int) a_nil)) (a_cons (e_cb c_tuple (a_cons (e_op o_ix e_var e_int) a_nil)) a_nil)))) a_nil)))) (t_test (e_op o_eqD e_var e_var))) (s_ret e_bl) s_next))))))))))))
      (s_ret e_bl))), fun xs ω Q h => ?main⟩
  case F0 =>
    intro b' H f σ caps cA L cb hc hl
    have GX_put_case : FnOk P w K mg b' (CXx P w) 4 t.a_put_case t.d_put_case ["case", "tables"] (liftX (sp_put t)) := ok_put T
    obtain ⟨v, v', rfl⟩ : ∃ v v', caps = [v, v'] := match caps, hc.1 with | [v, v'], _ => ⟨v, v', rfl⟩
    obtain ⟨wc, wu, hwc, hcell, hrel⟩ := cb 4 "_law_case" v rfl (hc.2 0 4 v rfl rfl) rfl rfl
    obtain ⟨zc, zu, hzc, zcell, zrel⟩ := cb 8 "_law_handed" v' rfl (hc.2 1 8 v' rfl rfl) rfl rfl
    obtain rfl : s.heap.objs.size + 1 + 1 = wc := Option.some.inj hwc
    obtain rfl : s.heap.objs.size + 1 + 1 + 1 = zc := Option.some.inj hzc
    refine clo_ofAX (ps := []) (cs := ["_law_case", "_law_handed"]) (spf := sp_put t) L ⟨rfl, rfl, rfl, by decide +kernel, by decide +kernel, by decide +kernel, by decide +kernel⟩ (capTwoR (x := "_law_case") (y := "_law_handed") (c := s.heap.objs.size + 1 + 1) (d := s.heap.objs.size + 1 + 1 + 1) (by decide +kernel) (Nat.ne_of_lt (Nat.lt_succ_self _)) hcell hrel zcell zrel) (fun pm c ctv us hl => match us, hl with | [], _ => rfl) (fun xs ω Q Ex h => by obtain ⟨rfl, _⟩ := h; rfl) (fun cd A outer s H hr => ⟨_, _, (pex_call GX_put_case (hr.mono (by omega)) (by rfl) T.m_put_case T.k_put_case T.p_put_case (pa_cons (pv 0) (pa_cons (pv 1) pa_nil))), (a_cons e_var (a_cons e_var a_nil)), fun xs ω Q Ex h => ?_⟩)
    obtain ⟨rfl, h⟩ := h
    match cA, hl with
    | [y, y'], _ => exact ⟨_, rfl, _, rfl, h⟩
  case main =>
    obtain ⟨a, ns, rfl, hl, rfl, k⟩ := h
    walk_at "s1"
    refine ⟨a, ns, rfl, hl, fun p c hp0 => ?_⟩
    walk_at "s1"
    refine ⟨by decide, by decide, for_rng (fun i ρ ω' => PlAt ω' p ∧ ∃ v2 v3 v4 v5 v6 v7 v8 v9, ρ = [some (scr K a ns), some (.r (.ref p)), v2, v3, v4, v5, v6, v7, v8, v9]) ⟨plAt_put, _, _, _, _, _, _, _, _, rfl⟩ ?_ ?_⟩
    · rintro i ρ ω N hi ⟨hp, v2, v3, v4, v5, v6, v7, v8, v9, rfl⟩ kN
      walk_at "s1"
      refine ⟨p, 5, rfl, hp, by decide, by decide, fun r c r0 r1 => ⟨r, rfl, ?_⟩⟩
      obtain ⟨n, hn⟩ : ∃ n : Nat, 1 + r = (n : Int) := ⟨(1 + r).toNat, by omega⟩
      have hn1 : 1 ≤ n := by omega
      have hn5 : n ≤ 5 := by omega
      rw [hn]
      clear hn r0 r1
      walk_at "s1"
      refine ⟨p, n, rfl, plAt_put, hn1, hn5, fun ys zs c => ?_⟩
      rw [Om.put_put]
      walk_at "s1"
      refine ⟨p, n, rfl, plAt_put, hn1, hn5, fun l cs c hl hC => ?_⟩
      obtain ⟨nlp, _⟩ := put_free hl
      have hC5 : ∀ x ∈ cs, 1 ≤ x ∧ x ≤ 5 := fun x hx => ⟨hC.pos x hx, Int.le_trans (mem_le_sum hC.pos hx) hC.le⟩
      have hcl := hC.len
      clear hC
      have hlo := om2_l (ω := ω.put p (plO c)) (p := p) (l := l) (c := plO c) (A := .own ((cs.map D.int).map AV.d))
      refine seq_cut (fun ρ' ω' => PlAt ω' p ∧ ∃ ds : List Nat, ds.length = n ∧ (∀ d ∈ ds, d ≤ 5) ∧ ω' l = some (.own ((ds.map fun d : Nat => D.int d).map AV.d)) ∧ ρ' = [some (scr K a ns), some (.r (.ref p)), some (.d (.int (0 + (i : Nat)))), some (.d (.int n)), some (.d (csD n ys zs)), some (.r (.ref l)), v6, v7, v8, v9]) (fun M kM => ?_) ?_
      · have fin : ∀ (ω' : Om) (cs : List Int), PlAt ω' p → cs.length = n → (∀ x ∈ cs, 1 ≤ x ∧ x ≤ 5) → ω' l = some (.own ((cs.map D.int).map AV.d)) → M [some (scr K a ns), some (.r (.ref p)), some (.d (.int (0 + (i : Nat)))), some (.d (.int n)), some (.d (csD n ys zs)), some (.r (.ref l)), v6, v7, v8, v9] ω' := fun ω' cs h1 h2 h3 h4 => by
          obtain ⟨ds, rfl, e2, e3⟩ := to_nats h3
          exact kM _ _ ⟨h1, ds, by omega, e3, by simpa [Function.comp_def] using h4, rfl⟩
        walk_at "a1"
        refine ite2 (fun h => ?_) (fun h => ?_)
        · refine ⟨p, n, rfl, ⟨_, om2_p nlp.symm⟩, by omega, by omega, fun x c2 x0 x1 => ?_⟩
          rw [om2_pp nlp.symm]
          obtain ⟨j, rfl⟩ := Int.eq_ofNat_of_zero_le x0
          have hj : j < cs.length := by omega
          refine ⟨_, rfl, _, om2_l, j, by simp [ixN, hj], ?_⟩
          rw [om2_pl, show ((cs.map D.int).map AV.d).set j (AV.d (D.int 5)) = ((cs.set j 5).map D.int).map AV.d from by simp [List.map_set]]
          refine fin _ (cs.set j 5) ⟨_, om2_p nlp.symm⟩ (by simpa using hcl) (fun y hy => ?_) om2_l
          rcases List.mem_or_eq_of_mem_set hy with hy | rfl
          · exact hC5 y hy
          · exact ⟨by decide, by decide⟩
        · exact fin _ cs ⟨_, om2_p nlp.symm⟩ hcl hC5 om2_l
      rintro ρ' ω' ⟨hp, ds, hdl, hd5, hlo, rfl⟩
      walk_at "s1"
      refine ⟨_, datA_own hlo, ds.map fun d : Nat => (d : Int), by simp [seqD, Function.comp_def], ?_⟩
      rw [cast_sum]
      walk_at "s1"
      simp only [hlo, und_map]
      refine ⟨_, rfl, ?_⟩
      have hp2 : PlAt (ω'.put l (OC.frz (ds.map fun d : Nat => D.int d))) p := by
        obtain ⟨c, e⟩ := hp
        exact ⟨c, by rw [Om.put_ne nlp.symm]; exact e⟩
      refine comp_st (fun ω' => PlAt ω' p) wdD (fun i tb => ∃ c, ds[i]? = some c ∧ tb.length = 2 ^ c) hp2 (Nat.le_of_lt (small1000 (by simp; omega))) (fun i a ha ω' hp Q q => ?_) (fun tbs ρ ω' hl hR hp => ⟨_, und_map _, ?_⟩)
      · simp only [List.getElem?_map, Option.map_eq_some_iff] at ha
        obtain ⟨_, ⟨c, h1, rfl⟩, rfl⟩ := ha
        walk_at "a1"
        exact ⟨p, c, rfl, hp, hd5 c (List.mem_of_getElem? h1), fun tb e htb => q tb _ ⟨c, h1, htb⟩ plAt_put⟩
      have hT : Tbs ds tbs := ⟨by simpa using hl, by omega, hd5, fun i tb c h1 h2 => by
        obtain ⟨c', e1, e2⟩ := hR i tb h1
        rw [h2] at e1
        cases e1
        exact e2⟩
      clear hR hl hlo hp2
      have dT : dep (D.lst (tbs.map wdD)) ≤ 100 := by have := deps_wds tbs; simp only [dep]; omega
      walk_at "s1"
      walk_at "s1"
      refine seq_cut (fun ρ' ω2 => ω2 = ω' ∧ ∃ (A B : List (List Int)), (if ds.sum ≤ 5 then A = putL tbs ds ys ∧ B = putL tbs ds zs else A = [] ∧ B = []) ∧ ρ' = [some (scr K a ns), some (.r (.ref p)), some (.d (.int (0 + (i : Nat)))), some (.d (.int n)), some (.d (csD n ys zs)), some (.r (.ref l)), some (.d (.int (ds.sum : Nat))), some (.d (.lst (tbs.map wdD))), some (.d (.lst (tbs.map wdD))), some (.d (.lst [.lst (A.map wdD), .lst (B.map wdD)]))]) (fun M kM => ?_) ?_
      · walk_at "a1"
        refine ite2 (fun h => ?_) (fun h => ?_)
        · exact ⟨n, ys, zs, tbs, ds, rfl, hT, by omega, kM _ _ ⟨rfl, _, _, by rw [if_pos (by omega)]; exact ⟨rfl, rfl⟩, rfl⟩⟩
        · exact kM _ _ ⟨rfl, [], [], by rw [if_neg (by omega)]; exact ⟨rfl, rfl⟩, rfl⟩
      rintro ρ' ω2 ⟨rfl, A, B, hAB, rfl⟩
      have dAB : deps [D.lst (A.map wdD), D.lst (B.map wdD)] ≤ 90 := by
        have h1 := deps_wds A
        have h2 := deps_wds B
        simp only [deps, dep]; omega
      have iAB : inD (D.lst []) [D.lst (A.map wdD), D.lst (B.map wdD)] = true ↔ A = [] ∨ B = [] := by
        have ee : ∀ l : List (List Int), eqD (D.lst (l.map wdD)) (D.lst []) = true ↔ l = [] := fun l => by cases l <;> simp [eqD, eqDs]
        have ee2 : ∀ l : List (List Int), eqD (D.lst []) (D.lst (l.map wdD)) = true ↔ l = [] := fun l => by cases l <;> simp [eqD, eqDs]
        simp only [inD, List.any_cons, List.any_nil, Bool.or_false, Bool.or_eq_true, ee, ee2]
      have bad : badP tbs ds ys zs ↔ A = [] ∨ B = [] := by
        unfold badP
        by_cases h5 : ds.sum ≤ 5
        · rw [if_pos h5] at hAB
          obtain ⟨rfl, rfl⟩ := hAB
          exact ⟨fun z => z.resolve_left (by omega), fun z => .inr z⟩
        · rw [if_neg h5] at hAB
          exact ⟨fun _ => .inl hAB.1, fun _ => .inl (by omega)⟩
      walk_at "a1"
      refine ⟨dAB, ite2 (fun h => ?_) (fun h => ?_)⟩
      · have hb := bad.mpr (iAB.mp h)
        refine ⟨_, rfl, rfl, n, ys, zs, tbs, ds, rfl, hT, ?_⟩
        rw [if_pos hb]
        refine ⟨rfl, ?_⟩
        rw [only_self]
        refine ⟨_, rfl, by simp [dep], ?_⟩
        rw [if_neg (by simp [eqD_str])]
        refine ⟨dT, ?_⟩
        rw [if_neg (by simp [eqD_refl])]
        exact kN _ _ ⟨hp, _, _, _, _, _, _, _, _, rfl⟩
      · have hb : ¬ badP tbs ds ys zs := fun z => h (iAB.mpr (bad.mp z))
        have h5 : ds.sum ≤ 5 := Nat.le_of_not_lt fun z => hb (.inl z)
        rw [if_pos h5] at hAB
        obtain ⟨rfl, rfl⟩ := hAB
        obtain ⟨z1, z2, z3, z4⟩ := cs_rep4 h5 (put_sub (tbs := tbs) (cs := ds) (ys := ys)) (put_sub (tbs := tbs) (cs := ds) (ys := zs))
        refine ⟨n, ys, zs, tbs, ds, rfl, hT, ?_⟩
        rw [if_neg hb]
        refine ⟨_, rfl, z1, z2, z3, z4, z1, z2, z3, z4, ?_⟩
        rw [if_neg (by simp [csD])]
        refine ⟨dT, ?_⟩
        rw [if_neg (by simp [eqD_refl])]
        exact kN _ _ ⟨hp, _, _, _, _, _, _, _, _, rfl⟩
    · rintro ρ ω' ⟨hp, v2, v3, v4, v5, v6, v7, v8, v9, rfl⟩
      walk_at "a1"
      exact k _
end
theorem txt_mk {K : PySem.W.Frag} {h : Heap} {mg : Str → Option Value} (X : K.In h) (G : h.Ns mainGlobals mg)
    {a_all_words : Addr} {od_all_words an_all_words : Option Addr} {sl_all_words : Array (Option Value)} {oc_all_words kV_all_words dc_all_words pm_all_words cd_all_words ct_all_words : Value}
    {a_places_of : Addr} {od_places_of an_places_of : Option Addr} {sl_places_of : Array (Option Value)} {oc_places_of kV_places_of dc_places_of pm_places_of cd_places_of ct_places_of : Value}
    {a_value_at : Addr} {od_value_at an_value_at : Option Addr} {sl_value_at : Array (Option Value)} {oc_value_at kV_value_at dc_value_at pm_value_at cd_value_at ct_value_at : Value}
    {a_block_starts : Addr} {od_block_starts an_block_starts : Option Addr} {sl_block_starts : Array (Option Value)} {oc_block_starts kV_block_starts dc_block_starts pm_block_starts cd_block_starts ct_block_starts : Value}
    {a_inner_word : Addr} {od_inner_word an_inner_word : Option Addr} {sl_inner_word : Array (Option Value)} {oc_inner_word kV_inner_word dc_inner_word pm_inner_word cd_inner_word ct_inner_word : Value}
    {a_put_case : Addr} {od_put_case an_put_case : Option Addr} {sl_put_case : Array (Option Value)} {oc_put_case kV_put_case dc_put_case pm_put_case cd_put_case ct_put_case : Value}
    {a_l_pen : Addr} {od_l_pen an_l_pen : Option Addr} {sl_l_pen : Array (Option Value)} {oc_l_pen kV_l_pen dc_l_pen pm_l_pen cd_l_pen ct_l_pen : Value}
    {a_l_draw : Addr} {od_l_draw an_l_draw : Option Addr} {sl_l_draw : Array (Option Value)} {oc_l_draw kV_l_draw dc_l_draw pm_l_draw cd_l_draw ct_l_draw : Value}
    {a_l_all : Addr} {od_l_all an_l_all : Option Addr} {sl_l_all : Array (Option Value)} {oc_l_all kV_l_all dc_l_all pm_l_all cd_l_all ct_l_all : Value}
    {a_l_sorts : Addr} {od_l_sorts an_l_sorts : Option Addr} {sl_l_sorts : Array (Option Value)} {oc_l_sorts kV_l_sorts dc_l_sorts pm_l_sorts cd_l_sorts ct_l_sorts : Value}
    {a_l_counts : Addr} {od_l_counts an_l_counts : Option Addr} {sl_l_counts : Array (Option Value)} {oc_l_counts kV_l_counts dc_l_counts pm_l_counts cd_l_counts ct_l_counts : Value}
    {a_l_table : Addr} {od_l_table an_l_table : Option Addr} {sl_l_table : Array (Option Value)} {oc_l_table kV_l_table dc_l_table pm_l_table cd_l_table ct_l_table : Value}
    {a_l_inner : Addr} {od_l_inner an_l_inner : Option Addr} {sl_l_inner : Array (Option Value)} {oc_l_inner kV_l_inner dc_l_inner pm_l_inner cd_l_inner ct_l_inner : Value}
    {a_l_put : Addr} {od_l_put an_l_put : Option Addr} {sl_l_put : Array (Option Value)} {oc_l_put kV_l_put dc_l_put pm_l_put cd_l_put ct_l_put : Value}
    {a_l_refused : Addr} {od_l_refused an_l_refused : Option Addr} {sl_l_refused : Array (Option Value)} {oc_l_refused kV_l_refused dc_l_refused pm_l_refused cd_l_refused ct_l_refused : Value}
    {a_law : Addr} {od_law an_law : Option Addr} {sl_law : Array (Option Value)} {oc_law kV_law dc_law pm_law cd_law ct_law : Value}
    {k_MOST_PLACES : Tok}
    {cc_law pp_law : Addr} {ko_law : Value} {kd_law : Option Addr} {kf_law : Array Value} {ks_law : Array (Option Value)}
    {a_TalkError : Addr}
    {a_NoCase : Addr}
    {a_NoSaying : Addr}
    {a_NoTalk : Addr}
    {a_NoRise : Addr}
    {a_TooMany : Addr}
    {a_NoRow : Addr}
    {a_NoWord : Addr}
    {a_NoText : Addr}
    (g_all_words : PySem.W.nsIn K mainGlobals "all_words" = some (some (.ref a_all_words))) (l_all_words : K.lookup a_all_words = some ⟨oc_all_words, od_all_words, .func (PySem.W.fnOf "all_words" "all_words" (defArgs s_all_words) (defBody s_all_words) (defScope s_all_words) .none kV_all_words dc_all_words pm_all_words an_all_words cd_all_words ct_all_words), sl_all_words⟩) (c_all_words : PySem.W.codeIn K cd_all_words "all_words" = true) (e_all_words : PySem.W.keepIn K (.ref a_all_words) = true)
    (g_places_of : PySem.W.nsIn K mainGlobals "places_of" = some (some (.ref a_places_of))) (l_places_of : K.lookup a_places_of = some ⟨oc_places_of, od_places_of, .func (PySem.W.fnOf "places_of" "places_of" (defArgs s_places_of) (defBody s_places_of) (defScope s_places_of) .none kV_places_of dc_places_of pm_places_of an_places_of cd_places_of ct_places_of), sl_places_of⟩) (c_places_of : PySem.W.codeIn K cd_places_of "places_of" = true) (e_places_of : PySem.W.keepIn K (.ref a_places_of) = true)
    (g_value_at : PySem.W.nsIn K mainGlobals "value_at" = some (some (.ref a_value_at))) (l_value_at : K.lookup a_value_at = some ⟨oc_value_at, od_value_at, .func (PySem.W.fnOf "value_at" "value_at" (defArgs s_value_at) (defBody s_value_at) (defScope s_value_at) .none kV_value_at dc_value_at pm_value_at an_value_at cd_value_at ct_value_at), sl_value_at⟩) (c_value_at : PySem.W.codeIn K cd_value_at "value_at" = true) (e_value_at : PySem.W.keepIn K (.ref a_value_at) = true)
    (g_block_starts : PySem.W.nsIn K mainGlobals "block_starts" = some (some (.ref a_block_starts))) (l_block_starts : K.lookup a_block_starts = some ⟨oc_block_starts, od_block_starts, .func (PySem.W.fnOf "block_starts" "block_starts" (defArgs s_block_starts) (defBody s_block_starts) (defScope s_block_starts) .none kV_block_starts dc_block_starts pm_block_starts an_block_starts cd_block_starts ct_block_starts), sl_block_starts⟩) (c_block_starts : PySem.W.codeIn K cd_block_starts "block_starts" = true) (e_block_starts : PySem.W.keepIn K (.ref a_block_starts) = true)
    (g_inner_word : PySem.W.nsIn K mainGlobals "inner_word" = some (some (.ref a_inner_word))) (l_inner_word : K.lookup a_inner_word = some ⟨oc_inner_word, od_inner_word, .func (PySem.W.fnOf "inner_word" "inner_word" (defArgs s_inner_word) (defBody s_inner_word) (defScope s_inner_word) .none kV_inner_word dc_inner_word pm_inner_word an_inner_word cd_inner_word ct_inner_word), sl_inner_word⟩) (c_inner_word : PySem.W.codeIn K cd_inner_word "inner_word" = true) (e_inner_word : PySem.W.keepIn K (.ref a_inner_word) = true)
    (g_put_case : PySem.W.nsIn K mainGlobals "put_case" = some (some (.ref a_put_case))) (l_put_case : K.lookup a_put_case = some ⟨oc_put_case, od_put_case, .func (PySem.W.fnOf "put_case" "put_case" (defArgs s_put_case) (defBody s_put_case) (defScope s_put_case) .none kV_put_case dc_put_case pm_put_case an_put_case cd_put_case ct_put_case), sl_put_case⟩) (c_put_case : PySem.W.codeIn K cd_put_case "put_case" = true) (e_put_case : PySem.W.keepIn K (.ref a_put_case) = true)
    (g_l_pen : PySem.W.nsIn K mainGlobals "_law_pen" = some (some (.ref a_l_pen))) (l_l_pen : K.lookup a_l_pen = some ⟨oc_l_pen, od_l_pen, .func (PySem.W.fnOf "_law_pen" "_law_pen" (defArgs s_l_pen) (defBody s_l_pen) (defScope s_l_pen) .none kV_l_pen dc_l_pen pm_l_pen an_l_pen cd_l_pen ct_l_pen), sl_l_pen⟩) (c_l_pen : PySem.W.codeIn K cd_l_pen "_law_pen" = true) (e_l_pen : PySem.W.keepIn K (.ref a_l_pen) = true)
    (g_l_draw : PySem.W.nsIn K mainGlobals "_law_draw" = some (some (.ref a_l_draw))) (l_l_draw : K.lookup a_l_draw = some ⟨oc_l_draw, od_l_draw, .func (PySem.W.fnOf "_law_draw" "_law_draw" (defArgs s_l_draw) (defBody s_l_draw) (defScope s_l_draw) .none kV_l_draw dc_l_draw pm_l_draw an_l_draw cd_l_draw ct_l_draw), sl_l_draw⟩) (c_l_draw : PySem.W.codeIn K cd_l_draw "_law_draw" = true) (e_l_draw : PySem.W.keepIn K (.ref a_l_draw) = true)
    (g_l_all : PySem.W.nsIn K mainGlobals "_law_all" = some (some (.ref a_l_all))) (l_l_all : K.lookup a_l_all = some ⟨oc_l_all, od_l_all, .func (PySem.W.fnOf "_law_all" "_law_all" (defArgs s_l_all) (defBody s_l_all) (defScope s_l_all) .none kV_l_all dc_l_all pm_l_all an_l_all cd_l_all ct_l_all), sl_l_all⟩) (c_l_all : PySem.W.codeIn K cd_l_all "_law_all" = true) (e_l_all : PySem.W.keepIn K (.ref a_l_all) = true)
    (g_l_sorts : PySem.W.nsIn K mainGlobals "_law_sorts" = some (some (.ref a_l_sorts))) (l_l_sorts : K.lookup a_l_sorts = some ⟨oc_l_sorts, od_l_sorts, .func (PySem.W.fnOf "_law_sorts" "_law_sorts" (defArgs s_l_sorts) (defBody s_l_sorts) (defScope s_l_sorts) .none kV_l_sorts dc_l_sorts pm_l_sorts an_l_sorts cd_l_sorts ct_l_sorts), sl_l_sorts⟩) (c_l_sorts : PySem.W.codeIn K cd_l_sorts "_law_sorts" = true) (e_l_sorts : PySem.W.keepIn K (.ref a_l_sorts) = true)
    (g_l_counts : PySem.W.nsIn K mainGlobals "_law_counts" = some (some (.ref a_l_counts))) (l_l_counts : K.lookup a_l_counts = some ⟨oc_l_counts, od_l_counts, .func (PySem.W.fnOf "_law_counts" "_law_counts" (defArgs s_l_counts) (defBody s_l_counts) (defScope s_l_counts) .none kV_l_counts dc_l_counts pm_l_counts an_l_counts cd_l_counts ct_l_counts), sl_l_counts⟩) (c_l_counts : PySem.W.codeIn K cd_l_counts "_law_counts" = true) (e_l_counts : PySem.W.keepIn K (.ref a_l_counts) = true)
    (g_l_table : PySem.W.nsIn K mainGlobals "_law_table" = some (some (.ref a_l_table))) (l_l_table : K.lookup a_l_table = some ⟨oc_l_table, od_l_table, .func (PySem.W.fnOf "_law_table" "_law_table" (defArgs s_l_table) (defBody s_l_table) (defScope s_l_table) .none kV_l_table dc_l_table pm_l_table an_l_table cd_l_table ct_l_table), sl_l_table⟩) (c_l_table : PySem.W.codeIn K cd_l_table "_law_table" = true) (e_l_table : PySem.W.keepIn K (.ref a_l_table) = true)
    (g_l_inner : PySem.W.nsIn K mainGlobals "_law_inner" = some (some (.ref a_l_inner))) (l_l_inner : K.lookup a_l_inner = some ⟨oc_l_inner, od_l_inner, .func (PySem.W.fnOf "_law_inner" "_law_inner" (defArgs s_l_inner) (defBody s_l_inner) (defScope s_l_inner) .none kV_l_inner dc_l_inner pm_l_inner an_l_inner cd_l_inner ct_l_inner), sl_l_inner⟩) (c_l_inner : PySem.W.codeIn K cd_l_inner "_law_inner" = true) (e_l_inner : PySem.W.keepIn K (.ref a_l_inner) = true)
    (g_l_put : PySem.W.nsIn K mainGlobals "_law_put" = some (some (.ref a_l_put))) (l_l_put : K.lookup a_l_put = some ⟨oc_l_put, od_l_put, .func (PySem.W.fnOf "_law_put" "_law_put" (defArgs s_l_put) (defBody s_l_put) (defScope s_l_put) .none kV_l_put dc_l_put pm_l_put an_l_put cd_l_put ct_l_put), sl_l_put⟩) (c_l_put : PySem.W.codeIn K cd_l_put "_law_put" = true) (e_l_put : PySem.W.keepIn K (.ref a_l_put) = true)
    (g_l_refused : PySem.W.nsIn K mainGlobals "_law_refused" = some (some (.ref a_l_refused))) (l_l_refused : K.lookup a_l_refused = some ⟨oc_l_refused, od_l_refused, .func (PySem.W.fnOf "_law_refused" "_law_refused" (defArgs s_l_refused) (defBody s_l_refused) (defScope s_l_refused) .none kV_l_refused dc_l_refused pm_l_refused an_l_refused cd_l_refused ct_l_refused), sl_l_refused⟩) (c_l_refused : PySem.W.codeIn K cd_l_refused "_law_refused" = true) (e_l_refused : PySem.W.keepIn K (.ref a_l_refused) = true)
    (g_law : PySem.W.nsIn K mainGlobals "law" = some (some (.ref a_law))) (l_law : K.lookup a_law = some ⟨oc_law, od_law, .func (PySem.W.fnOf "law" "law" (defArgs s_law) (defBody s_law) (defScope s_law) .none kV_law dc_law pm_law an_law cd_law ct_law), sl_law⟩) (c_law : PySem.W.codeIn K cd_law "law" = true) (e_law : PySem.W.keepIn K (.ref a_law) = true)
    (g_MOST_PLACES : PySem.W.nsIn K mainGlobals "MOST_PLACES" = some (some (.int 5 k_MOST_PLACES)))
    (y_law : cd_law = .ref cc_law) (r_law : K.lookup cc_law = some ⟨ko_law, kd_law, .fields kf_law, ks_law⟩) (u_law : kf_law[11]? = some (.ref pp_law)) (v_law : (tabL K).contains ("law", cc_law, pp_law) = true) (h_law : hdIn K cc_law pp_law = true)
    (g_TalkError : PySem.W.nsIn K mainGlobals "TalkError" = some (some (.ref a_TalkError)))
    (g_NoCase : PySem.W.nsIn K mainGlobals "NoCase" = some (some (.ref a_NoCase)))
    (g_NoSaying : PySem.W.nsIn K mainGlobals "NoSaying" = some (some (.ref a_NoSaying)))
    (g_NoTalk : PySem.W.nsIn K mainGlobals "NoTalk" = some (some (.ref a_NoTalk)))
    (g_NoRise : PySem.W.nsIn K mainGlobals "NoRise" = some (some (.ref a_NoRise)))
    (g_TooMany : PySem.W.nsIn K mainGlobals "TooMany" = some (some (.ref a_TooMany)))
    (g_NoRow : PySem.W.nsIn K mainGlobals "NoRow" = some (some (.ref a_NoRow)))
    (g_NoWord : PySem.W.nsIn K mainGlobals "NoWord" = some (some (.ref a_NoWord)))
    (g_NoText : PySem.W.nsIn K mainGlobals "NoText" = some (some (.ref a_NoText)))
    (x_NoCase : excOk K a_NoCase = true)
    (q_NoCase_NoRise : PySem.W.kitOne K (.ref a_NoCase) (.ref a_NoRise) = some false)
    (q_NoCase_NoRow : PySem.W.kitOne K (.ref a_NoCase) (.ref a_NoRow) = some false)
    (q_NoCase_NoSaying : PySem.W.kitOne K (.ref a_NoCase) (.ref a_NoSaying) = some false)
    (q_NoCase_NoText : PySem.W.kitOne K (.ref a_NoCase) (.ref a_NoText) = some false)
    (q_NoCase_NoWord : PySem.W.kitOne K (.ref a_NoCase) (.ref a_NoWord) = some false)
    (q_NoCase_TooMany : PySem.W.kitOne K (.ref a_NoCase) (.ref a_TooMany) = some false)
    (q_NoCase_NoCase : PySem.W.kitOne K (.ref a_NoCase) (.ref a_NoCase) = some true)
    (q_NoCase_NoTalk : PySem.W.kitOne K (.ref a_NoCase) (.ref a_NoTalk) = some false)
    (q_NoCase_ValueError : PySem.W.kitOne K (.ref a_NoCase) (.type "ValueError") = some true)
    (r_NoCase_TalkError : PySem.W.exmOne K (.ref a_NoCase) (.ref a_TalkError) = some true)
    (n_NoRise : PySem.W.kitOne K (.type "NoneType") (.ref a_NoRise) = some false)
    (n_NoRow : PySem.W.kitOne K (.type "NoneType") (.ref a_NoRow) = some false)
    (n_NoSaying : PySem.W.kitOne K (.type "NoneType") (.ref a_NoSaying) = some false)
    (n_NoText : PySem.W.kitOne K (.type "NoneType") (.ref a_NoText) = some false)
    (n_NoWord : PySem.W.kitOne K (.type "NoneType") (.ref a_NoWord) = some false)
    (n_TooMany : PySem.W.kitOne K (.type "NoneType") (.ref a_TooMany) = some false)
    (n_NoCase : PySem.W.kitOne K (.type "NoneType") (.ref a_NoCase) = some false)
    (n_NoTalk : PySem.W.kitOne K (.type "NoneType") (.ref a_NoTalk) = some false)
    (n_ValueError : PySem.W.kitOne K (.type "NoneType") (.type "ValueError") = some false)
    (z_ValueError : PySem.W.nsIn K mainGlobals "ValueError" = some none)
    (z_abs : PySem.W.nsIn K mainGlobals "abs" = some none)
    (z_int : PySem.W.nsIn K mainGlobals "int" = some none)
    (z_isinstance : PySem.W.nsIn K mainGlobals "isinstance" = some none)
    (z_len : PySem.W.nsIn K mainGlobals "len" = some none)
    (z_list : PySem.W.nsIn K mainGlobals "list" = some none)
    (z_range : PySem.W.nsIn K mainGlobals "range" = some none)
    (z_repr : PySem.W.nsIn K mainGlobals "repr" = some none)
    (z_sum : PySem.W.nsIn K mainGlobals "sum" = some none)
    (z_tuple : PySem.W.nsIn K mainGlobals "tuple" = some none)
    (z_zip : PySem.W.nsIn K mainGlobals "zip" = some none) : ∃ t, Txt K mg t := by
  have F_all_words := fun_mk (st := s_all_words) l_all_words c_all_words e_all_words
  have F_places_of := fun_mk (st := s_places_of) l_places_of c_places_of e_places_of
  have F_value_at := fun_mk (st := s_value_at) l_value_at c_value_at e_value_at
  have F_block_starts := fun_mk (st := s_block_starts) l_block_starts c_block_starts e_block_starts
  have F_inner_word := fun_mk (st := s_inner_word) l_inner_word c_inner_word e_inner_word
  have F_put_case := fun_mk (st := s_put_case) l_put_case c_put_case e_put_case
  have F_l_pen := fun_mk (st := s_l_pen) l_l_pen c_l_pen e_l_pen
  have F_l_draw := fun_mk (st := s_l_draw) l_l_draw c_l_draw e_l_draw
  have F_l_all := fun_mk (st := s_l_all) l_l_all c_l_all e_l_all
  have F_l_sorts := fun_mk (st := s_l_sorts) l_l_sorts c_l_sorts e_l_sorts
  have F_l_counts := fun_mk (st := s_l_counts) l_l_counts c_l_counts e_l_counts
  have F_l_table := fun_mk (st := s_l_table) l_l_table c_l_table e_l_table
  have F_l_inner := fun_mk (st := s_l_inner) l_l_inner c_l_inner e_l_inner
  have F_l_put := fun_mk (st := s_l_put) l_l_put c_l_put e_l_put
  have F_l_refused := fun_mk (st := s_l_refused) l_l_refused c_l_refused e_l_refused
  have F_law := fun_mk (st := s_law) l_law c_law e_law
  exact ⟨⟨a_all_words, _, a_places_of, _, a_value_at, _, a_block_starts, _, a_inner_word, _, a_put_case, _, a_l_pen, _, a_l_draw, _, a_l_all, _, a_l_sorts, _, a_l_counts, _, a_l_table, _, a_l_inner, _, a_l_put, _, a_l_refused, _, a_law, _, k_MOST_PLACES, cc_law, pp_law, a_TalkError, a_NoCase, a_NoSaying, a_NoTalk, a_NoRise, a_TooMany, a_NoRow, a_NoWord, a_NoText⟩, ⟨PySem.W.mg_of X G g_all_words, F_all_words, e_all_words, F_all_words.binds (ps := ["places"]) fun _ _ _ _ _ _ us hl => match us, hl with | [_], _ => rfl,
    PySem.W.mg_of X G g_places_of, F_places_of, e_places_of, F_places_of.binds (ps := ["table"]) fun _ _ _ _ _ _ us hl => match us, hl with | [_], _ => rfl,
    PySem.W.mg_of X G g_value_at, F_value_at, e_value_at, F_value_at.binds (ps := ["table", "word"]) fun _ _ _ _ _ _ us hl => match us, hl with | [_, _], _ => rfl,
    PySem.W.mg_of X G g_block_starts, F_block_starts, e_block_starts, F_block_starts.binds (ps := ["counts"]) fun _ _ _ _ _ _ us hl => match us, hl with | [_], _ => rfl,
    PySem.W.mg_of X G g_inner_word, F_inner_word, e_inner_word, F_inner_word.binds (ps := ["tables", "word"]) fun _ _ _ _ _ _ us hl => match us, hl with | [_, _], _ => rfl,
    PySem.W.mg_of X G g_put_case, F_put_case, e_put_case, F_put_case.binds (ps := ["case", "tables"]) fun _ _ _ _ _ _ us hl => match us, hl with | [_, _], _ => rfl,
    PySem.W.mg_of X G g_l_pen, F_l_pen, e_l_pen, F_l_pen.binds (ps := ["_law_script"]) fun _ _ _ _ _ _ us hl => match us, hl with | [_], _ => rfl,
    PySem.W.mg_of X G g_l_draw, F_l_draw, e_l_draw, F_l_draw.binds (ps := ["_law_pen_here", "_law_many"]) fun _ _ _ _ _ _ us hl => match us, hl with | [_, _], _ => rfl,
    PySem.W.mg_of X G g_l_all, F_l_all, e_l_all, F_l_all.binds (ps := ["_law_places"]) fun _ _ _ _ _ _ us hl => match us, hl with | [_], _ => rfl,
    PySem.W.mg_of X G g_l_sorts, F_l_sorts, e_l_sorts, F_l_sorts.binds (ps := ["_law_pen_here", "_law_places"]) fun _ _ _ _ _ _ us hl => match us, hl with | [_, _], _ => rfl,
    PySem.W.mg_of X G g_l_counts, F_l_counts, e_l_counts, F_l_counts.binds (ps := ["_law_pen_here", "_law_n"]) fun _ _ _ _ _ _ us hl => match us, hl with | [_, _], _ => rfl,
    PySem.W.mg_of X G g_l_table, F_l_table, e_l_table, F_l_table.binds (ps := ["_law_pen_here", "_law_places"]) fun _ _ _ _ _ _ us hl => match us, hl with | [_, _], _ => rfl,
    PySem.W.mg_of X G g_l_inner, F_l_inner, e_l_inner, F_l_inner.binds (ps := ["_law_tables", "_law_word"]) fun _ _ _ _ _ _ us hl => match us, hl with | [_, _], _ => rfl,
    PySem.W.mg_of X G g_l_put, F_l_put, e_l_put, F_l_put.binds (ps := ["_law_places", "_law_case", "_law_tables"]) fun _ _ _ _ _ _ us hl => match us, hl with | [_, _, _], _ => rfl,
    PySem.W.mg_of X G g_l_refused, F_l_refused, e_l_refused, F_l_refused.binds (ps := ["_law_asked"]) fun _ _ _ _ _ _ us hl => match us, hl with | [_], _ => rfl,
    PySem.W.mg_of X G g_law, F_law, e_law, F_law.binds (ps := ["_law_script"]) fun _ _ _ _ _ _ us hl => match us, hl with | [_], _ => rfl,
    fun s v => .of_eq rfl,
    PySem.W.mg_none_of X G z_ValueError,
    PySem.W.mg_none_of X G z_abs,
    PySem.W.mg_none_of X G z_int,
    PySem.W.mg_none_of X G z_isinstance,
    PySem.W.mg_none_of X G z_len,
    PySem.W.mg_none_of X G z_list,
    PySem.W.mg_none_of X G z_range,
    PySem.W.mg_none_of X G z_repr,
    PySem.W.mg_none_of X G z_sum,
    PySem.W.mg_none_of X G z_tuple,
    PySem.W.mg_none_of X G z_zip,
    PySem.W.mg_of X G g_MOST_PLACES,
    funT_mk (st := s_law) l_law c_law y_law v_law h_law,
    PySem.W.mg_of X G g_TalkError,
    PySem.W.mg_of X G g_NoCase,
    PySem.W.mg_of X G g_NoSaying,
    PySem.W.mg_of X G g_NoTalk,
    PySem.W.mg_of X G g_NoRise,
    PySem.W.mg_of X G g_TooMany,
    PySem.W.mg_of X G g_NoRow,
    PySem.W.mg_of X G g_NoWord,
    PySem.W.mg_of X G g_NoText,
    x_NoCase,
    q_NoCase_NoRise,
    q_NoCase_NoRow,
    q_NoCase_NoSaying,
    q_NoCase_NoText,
    q_NoCase_NoWord,
    q_NoCase_TooMany,
    q_NoCase_NoCase,
    q_NoCase_NoTalk,
    q_NoCase_ValueError,
    r_NoCase_TalkError,
    n_NoRise,
    n_NoRow,
    n_NoSaying,
    n_NoText,
    n_NoWord,
    n_TooMany,
    n_NoCase,
    n_NoTalk,
    n_ValueError⟩⟩
end My
open PySem PySem.W PyProof.Rows
set_option maxRecDepth 100000 in
set_option maxHeartbeats 0 in
theorem PySem.Challenge.cw_unlikeplace_k54_cases_put_together_holds : PySem.Challenge.rw_unlikeplace_k54_cases_put_together.Holds := by
  w_on; o_law; k_head; (case hw => w_witness2)
  k_fill
  refine L2.walk_ofT (l := PySem.Challenge.rw_unlikeplace_k54_cases_put_together) (n := 63) (k := 30) (x := "_law_script") (CX := L2.CX0) (sp := My.sp_law) rfl (by decide) rfl ⟨rfl, by decide, by decide, rfl⟩ (fun w h Y => by first | exact PySem.W.kIn_of Y | exact PySem.W.km_in_of Y) (fun w => by kernel_rfl) ?F ?S ?C
  case F =>
    intro w mg fa h KX G hmg
    have T : ∃ t, My.Txt (L2.KOf KX) mg t := by
      dsimp only [L2.KOf]
      refine' My.txt_mk KX G ?g_all_words ?l_all_words ?c_all_words ?e_all_words ?g_places_of ?l_places_of ?c_places_of ?e_places_of ?g_value_at ?l_value_at ?c_value_at ?e_value_at ?g_block_starts ?l_block_starts ?c_block_starts ?e_block_starts ?g_inner_word ?l_inner_word ?c_inner_word ?e_inner_word ?g_put_case ?l_put_case ?c_put_case ?e_put_case ?g_l_pen ?l_l_pen ?c_l_pen ?e_l_pen ?g_l_draw ?l_l_draw ?c_l_draw ?e_l_draw ?g_l_all ?l_l_all ?c_l_all ?e_l_all ?g_l_sorts ?l_l_sorts ?c_l_sorts ?e_l_sorts ?g_l_counts ?l_l_counts ?c_l_counts ?e_l_counts ?g_l_table ?l_l_table ?c_l_table ?e_l_table ?g_l_inner ?l_l_inner ?c_l_inner ?e_l_inner ?g_l_put ?l_l_put ?c_l_put ?e_l_put ?g_l_refused ?l_l_refused ?c_l_refused ?e_l_refused ?g_law ?l_law ?c_law ?e_law ?g_MOST_PLACES ?y_law ?r_law ?u_law ?v_law ?h_law ?g_TalkError ?g_NoCase ?g_NoSaying ?g_NoTalk ?g_NoRise ?g_TooMany ?g_NoRow ?g_NoWord ?g_NoText ?x_NoCase ?q_NoCase_NoRise ?q_NoCase_NoRow ?q_NoCase_NoSaying ?q_NoCase_NoText ?q_NoCase_NoWord ?q_NoCase_TooMany ?q_NoCase_NoCase ?q_NoCase_NoTalk ?q_NoCase_ValueError ?r_NoCase_TalkError ?n_NoRise ?n_NoRow ?n_NoSaying ?n_NoText ?n_NoWord ?n_TooMany ?n_NoCase ?n_NoTalk ?n_ValueError ?z_ValueError ?z_abs ?z_int ?z_isinstance ?z_len ?z_list ?z_range ?z_repr ?z_sum ?z_tuple ?z_zip
      (case g_all_words => k_is)
      (case l_all_words => k_is)
      (case c_all_words => k_is)
      (case e_all_words => k_is)
      (case g_places_of => k_is)
      (case l_places_of => k_is)
      (case c_places_of => k_is)
      (case e_places_of => k_is)
      (case g_value_at => k_is)
      (case l_value_at => k_is)
      (case c_value_at => k_is)
      (case e_value_at => k_is)
      (case g_block_starts => k_is)
      (case l_block_starts => k_is)
      (case c_block_starts => k_is)
      (case e_block_starts => k_is)
      (case g_inner_word => k_is)
      (case l_inner_word => k_is)
      (case c_inner_word => k_is)
      (case e_inner_word => k_is)
      (case g_put_case => k_is)
      (case l_put_case => k_is)
      (case c_put_case => k_is)
      (case e_put_case => k_is)
      (case g_l_pen => k_is)
      (case l_l_pen => k_is)
      (case c_l_pen => k_is)
      (case e_l_pen => k_is)
      (case g_l_draw => k_is)
      (case l_l_draw => k_is)
      (case c_l_draw => k_is)
      (case e_l_draw => k_is)
      (case g_l_all => k_is)
      (case l_l_all => k_is)
      (case c_l_all => k_is)
      (case e_l_all => k_is)
      (case g_l_sorts => k_is)
      (case l_l_sorts => k_is)
      (case c_l_sorts => k_is)
      (case e_l_sorts => k_is)
      (case g_l_counts => k_is)
      (case l_l_counts => k_is)
      (case c_l_counts => k_is)
      (case e_l_counts => k_is)
      (case g_l_table => k_is)
      (case l_l_table => k_is)
      (case c_l_table => k_is)
      (case e_l_table => k_is)
      (case g_l_inner => k_is)
      (case l_l_inner => k_is)
      (case c_l_inner => k_is)
      (case e_l_inner => k_is)
      (case g_l_put => k_is)
      (case l_l_put => k_is)
      (case c_l_put => k_is)
      (case e_l_put => k_is)
      (case g_l_refused => k_is)
      (case l_l_refused => k_is)
      (case c_l_refused => k_is)
      (case e_l_refused => k_is)
      (case g_law => k_is)
      (case l_law => k_is)
      (case c_law => k_is)
      (case e_law => k_is)
      (case g_MOST_PLACES => k_is)
      (case y_law => rfl)
      (case r_law => k_is)
      (case u_law => rfl)
      (case v_law => kernel_rfl)
      (case h_law => kernel_rfl)
      (case g_TalkError => k_is)
      (case g_NoCase => k_is)
      (case g_NoSaying => k_is)
      (case g_NoTalk => k_is)
      (case g_NoRise => k_is)
      (case g_TooMany => k_is)
      (case g_NoRow => k_is)
      (case g_NoWord => k_is)
      (case g_NoText => k_is)
      (case x_NoCase => kernel_rfl)
      (case q_NoCase_NoRise => kernel_rfl)
      (case q_NoCase_NoRow => kernel_rfl)
      (case q_NoCase_NoSaying => kernel_rfl)
      (case q_NoCase_NoText => kernel_rfl)
      (case q_NoCase_NoWord => kernel_rfl)
      (case q_NoCase_TooMany => kernel_rfl)
      (case q_NoCase_NoCase => kernel_rfl)
      (case q_NoCase_NoTalk => kernel_rfl)
      (case q_NoCase_ValueError => kernel_rfl)
      (case r_NoCase_TalkError => kernel_rfl)
      (case n_NoRise => kernel_rfl)
      (case n_NoRow => kernel_rfl)
      (case n_NoSaying => kernel_rfl)
      (case n_NoText => kernel_rfl)
      (case n_NoWord => kernel_rfl)
      (case n_TooMany => kernel_rfl)
      (case n_NoCase => kernel_rfl)
      (case n_NoTalk => kernel_rfl)
      (case n_ValueError => kernel_rfl)
      (case z_ValueError => k_is)
      (case z_abs => k_is)
      (case z_int => k_is)
      (case z_isinstance => k_is)
      (case z_len => k_is)
      (case z_list => k_is)
      (case z_range => k_is)
      (case z_repr => k_is)
      (case z_sum => k_is)
      (case z_tuple => k_is)
      (case z_zip => k_is)
    obtain ⟨t, T⟩ := T
    have e0 := hmg.symm.trans T.m_law
    cases e0
    exact ⟨_, T.bl_law, fun base => My.ok_law T⟩
  case S => exact fun K H a ns hl hO hS => My.start_law hl hO hS
  case C => exact fun _ _ _ _ h => h
