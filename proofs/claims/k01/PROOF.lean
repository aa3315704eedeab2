import PyProof.Rows.All
import Wide.All
import OpenK.AllK
import Wide.FinOn
import Lean
import PyProof.EqAt
import PyProof.EqKinds
import PyProof.TupleCall
import PyProof.NeKinds
import PyProof.AutoIntG2
import PyProof.FactsAll.int_6
import PyProof.Rows.BootFacts.P1
import PyProof.ReprRoads
import PyProof.ListRange
import PyProof.TupleOfSeq
import PyProof.EnumMake
import PyProof.StrWalks
import PyProof.Rows.Range3
import PyProof.Rows.SetFrom
import KE.KIntText
import PyProof.FString
import PyProof.StrCalls2
import PyProof.StrOps2
import PyProof.SliceStr2
import PyProof.StrBlockI
import PyProof.StrBlockL
import PyProof.StrLaws
import OpenK.KOwn
import KE.KTryMore
import PyProof.ExcAttrAll.ValueError
import PyProof.NsDelKeeps
import PyProof.Rows.StrLen
import KE.KRevIter
import PySem.Challenge.RW_unlikeplace_k01_words_known
set_option Elab.async false
set_option linter.all false
set_option maxRecDepth 100000
namespace L2
open PySem PySem.Spec PyProof.Rows
abbrev Key := Sum Int Str
def keyIs : Key → Value → Bool
  | .inl k, v => Value.isInt k v
  | .inr x, v => Value.isStrOf x v
def keyH (w : World) : Key → Int
  | .inl k => hashInt k
  | .inr x => hashStr w x
theorem keyIs_shape : ∀ {k : Key} {v : Value}, keyIs k v = true → (∃ i t, k = Sum.inl i ∧ v = Value.int i t) ∨ (∃ x t, k = Sum.inr x ∧ v = Value.str x t)
  | .inl i, v, h => by
    obtain ⟨t, e⟩ := Value.isInt_shape (k := i) (v := v) h
    exact .inl ⟨i, t, rfl, e⟩
  | .inr x, v, h => by
    obtain ⟨t, e⟩ := Value.isStrOf_shape (x := x) (v := v) h
    exact .inr ⟨x, t, rfl, e⟩
theorem keyIs_int (i : Int) (t : Tok) : keyIs (.inl i) (.int i t) = true := by simp [keyIs, Value.isInt]
theorem keyIs_str (x : Str) (t : Tok) : keyIs (.inr x) (.str x t) = true := by simp [keyIs, Value.isStrOf]
theorem key_ll (a b : Int) : decide ((Sum.inl a : Key) = Sum.inl b) = (a == b) := by
  by_cases e : a = b
  · subst e; simp
  · have h : ¬ (Sum.inl a : Key) = Sum.inl b := fun q => e (Sum.inl.inj q)
    rw [decide_eq_false h]
    exact (beq_eq_false_iff_ne.mpr e).symm
theorem key_rr (a b : Str) : decide ((Sum.inr a : Key) = Sum.inr b) = decide (a = b) := by
  by_cases e : a = b
  · subst e; simp
  · have h : ¬ (Sum.inr a : Key) = Sum.inr b := fun q => e (Sum.inr.inj q)
    rw [decide_eq_false h, decide_eq_false e]
theorem key_lr (a : Int) (b : Str) : decide ((Sum.inl a : Key) = Sum.inr b) = false := decide_eq_false (fun q => nomatch q)
theorem key_rl (a : Str) (b : Int) : decide ((Sum.inr a : Key) = Sum.inl b) = false := decide_eq_false (fun q => nomatch q)
def mixKind (prog : Program) (w : World) : PySem.KeyKind prog w Key where
  is := keyIs
  hash := keyH w
  inj := fun v a b ha hb => by
    rcases keyIs_shape ha with ⟨i, t, rfl, rfl⟩ | ⟨x, t, rfl, rfl⟩
    · rcases keyIs_shape hb with ⟨j, u, rfl, e⟩ | ⟨y, u, rfl, e⟩
      · injection e with e1 _; rw [e1]
      · exact nomatch e
    · rcases keyIs_shape hb with ⟨j, u, rfl, e⟩ | ⟨y, u, rfl, e⟩
      · exact nomatch e
      · injection e with e1 _; rw [e1]
  byValue := fun k v h => by
    rcases keyIs_shape h with ⟨i, t, rfl, rfl⟩ | ⟨x, t, rfl, rfl⟩ <;> rfl
  pyHash := fun hv h => by
    rcases keyIs_shape hv with ⟨i, t, rfl, rfl⟩ | ⟨x, t, rfl, rfl⟩
    · exact wpAny_pyHash_int h
    · exact wpAny_pyHash_str h
  eqBool := fun hu hv h => by
    rcases keyIs_shape hu with ⟨i, t, rfl, rfl⟩ | ⟨x, t, rfl, rfl⟩
    · rcases keyIs_shape hv with ⟨j, u, rfl, rfl⟩ | ⟨y, u, rfl, rfl⟩
      · rw [key_ll] at h; exact wpAny_eqBool_int h
      · rw [key_lr] at h; exact SeqAt.EqAt.int_str i t y u _ _ _ _ h
    · rcases keyIs_shape hv with ⟨j, u, rfl, rfl⟩ | ⟨y, u, rfl, rfl⟩
      · rw [key_rl] at h; exact SeqAt.EqAt.str_int x t j u _ _ _ _ h
      · rw [key_rr] at h; exact wpAny_eqBool_str h
  «strs» := fun k x t v h => by
    rcases keyIs_shape h with ⟨i, u, rfl, e⟩ | ⟨y, u, rfl, e⟩
    · exact nomatch e
    · injection e with e1 _
      subst e1
      cases v <;> rfl
theorem mixKind_int (prog : Program) (w : World) (i : Int) (t : Tok) : (mixKind prog w).is (.inl i) (.int i t) = true := keyIs_int i t
theorem mixKind_str (prog : Program) (w : World) (x : Str) (t : Tok) : (mixKind prog w).is (.inr x) (.str x t) = true := keyIs_str x t
end L2
namespace L2
open PySem PySem.Spec PyProof.Rows
inductive V where
  | non | bl (b : Bool) | int (i : Int) | str (x : Str) | byt (b : Array UInt8) | flt (b : UInt64) | ref (a : Addr) | ty (n : String)
  deriving DecidableEq
def RelV : V → Value → Prop
  | .non, u => u = Value.none
  | .bl b, u => u = Value.bool b
  | .int i, u => ∃ t, u = Value.int i t
  | .str x, u => ∃ t, u = Value.str x t
  | .byt b, u => ∃ t, u = Value.bytes b t
  | .flt b, u => ∃ t, u = Value.float b t
  | .ref a, u => u = Value.ref a
  | .ty n, u => u = Value.type n
abbrev Vals : List V → List Value → Prop := Paired RelV
theorem Vals.length {xs : List V} {us : List Value} (r : Vals xs us) : xs.length = us.length := Paired.length r
theorem Vals.get : ∀ {xs : List V} {us : List Value} {i : Nat} {x : V}, Vals xs us → xs[i]? = some x → ∃ u, us[i]? = some u ∧ RelV x u
  | _, _, _, _, .nil, e => by simp at e
  | _, _, 0, _, .cons r _, e => by simp at e; subst e; exact ⟨_, rfl, r⟩
  | _, _, i + 1, x, .cons _ t, e => by
    obtain ⟨u, h1, h2⟩ := Vals.get (i := i) (x := x) t (by simpa using e)
    exact ⟨u, by simpa using h1, h2⟩
theorem Vals.set {x : V} {u : Value} (r : RelV x u) : ∀ {xs : List V} {us : List Value} (i : Nat), Vals xs us → Vals (xs.set i x) (us.set i u)
  | _, _, _, .nil => .nil
  | _, _, 0, .cons _ t => .cons r t
  | _, _, i + 1, .cons q t => .cons q (Vals.set r i t)
theorem Vals.append : ∀ {xs ys : List V} {us ws : List Value}, Vals xs us → Vals ys ws → Vals (xs ++ ys) (us ++ ws)
  | _, _, _, _, .nil, s => s
  | _, _, _, _, .cons r t, s => .cons r (Vals.append t s)
theorem Vals.take : ∀ {xs : List V} {us : List Value} (n : Nat), Vals xs us → Vals (xs.take n) (us.take n)
  | _, _, 0, _ => .nil
  | _, _, _ + 1, .nil => .nil
  | _, _, n + 1, .cons r t => .cons r (Vals.take n t)
theorem Vals.drop : ∀ {xs : List V} {us : List Value} (n : Nat), Vals xs us → Vals (xs.drop n) (us.drop n)
  | _, _, 0, r => r
  | _, _, _ + 1, .nil => .nil
  | _, _, n + 1, .cons _ t => Vals.drop n t
def RelO : Option V → Option Value → Prop
  | some v, some u => RelV v u
  | none, none => True
  | _, _ => False
def KV {κ : Type} : List (κ × V) → List (κ × Value) → Prop := Paired fun (p : κ × V) (q : κ × Value) => p.1 = q.1 ∧ RelV p.2 q.2
def kV : Key → V
  | .inl i => .int i
  | .inr x => .str x
inductive HO where
  | lst (xs : List V)
  | tup (xs : List V)
  | dK (kvs : List (Key × V)) | dT (kvs : List (List Key × V))
  | set (S : Int → Bool) (n : Nat)
  | ins (C dx : Addr) (fs : List (Str × V))
  | own (x : Addr)
  | xd (fs : List (Str × V))
  | met (f x : Addr)
  | rng (lo hi : Int)
  | frz (o : Obj) (u : HO)
  | tbl (ps : Array Value)
  | ext (φ : Heap → Prop)
abbrev Hp := Addr → Option HO
def upd (H : Hp) (a : Addr) (o : HO) : Hp := fun b => if b = a then some o else H b
theorem upd_same {H : Hp} {a : Addr} {o : HO} : upd H a o a = some o := by unfold upd; rw [if_pos rfl]
theorem upd_ne {H : Hp} {a b : Addr} {o : HO} (h : b ≠ a) : upd H a o b = H b := by unfold upd; rw [if_neg h]
theorem ne_of {H : Hp} {a b : Addr} {o u : HO} (h : H a = some o) (h' : H b = some u) (d : o ≠ u) : a ≠ b := by
  intro e; subst e; rw [h] at h'; exact d (Option.some.inj h')
theorem ne_of_none {H : Hp} {a b : Addr} {o : HO} (h : H a = some o) (h' : H b = none) : a ≠ b := by
  intro e; subst e; rw [h] at h'; cases h'
def TblOk (H : Hp) (a : Addr) (ps qs : Array Value) : Prop := TriplesOk qs.toList ∧ ∀ (pos : Pos) (cv : Value), codeAmong pos qs.toList = some cv →
  ∃ (c : Addr) (o : Obj) (vs : Array Value) (t : Tok) (q : Str), cv = .ref c ∧ H c = some (.frz o (.own a)) ∧ o.data = .fields vs ∧ vs[1]? = some (.str q t) ∧ ps[0]? = some (.str q 0)
theorem TblOk.mono {H H' : Hp} {a : Addr} {ps qs : Array Value} (x : TblOk H a ps qs) (k : ∀ b o u, H b = some (.frz o u) → H' b = some (.frz o u)) : TblOk H' a ps qs :=
  ⟨x.1, fun pos cv e => let ⟨c, o, vs, t, q, e1, e2, r⟩ := x.2 pos cv e; ⟨c, o, vs, t, q, e1, k _ _ _ e2, r⟩⟩
section
variable (P : Program) (w : World)
def ObjOk (H : Hp) (h : Heap) (a : Addr) : HO → Prop
  | .lst xs => xs.length ≤ sizeLine ∧ ∃ (its : List Value) (n : Nat), Vals xs its ∧ h.get? a = some { cls := .type "list", data := .seq its.toArray n }
  | .tup xs => xs.length ≤ sizeLine ∧ ∃ its : List Value, Vals xs its ∧ IsTup h a its.toArray
  | .dK kvs => kvs.length ≤ sizeLine ∧ (a == sysModules) = false ∧ ∃ vs, KV kvs vs ∧ h.DictOf (mixKind P w) a vs
  | .dT kvs => kvs.length ≤ sizeLine ∧ (a == sysModules) = false ∧ ∃ xs : List (List Key × Addr × Value),
      Paired (fun (p : List Key × V) (q : List Key × Addr × Value) => p.1 = q.1 ∧ H q.2.1 = some (.tup (p.1.map kV)) ∧ RelV p.2 q.2.2) kvs xs ∧
      ∃ o es ep, h.get? a = some o ∧ o.ExactDict ∧ o.data = .dict es ep ∧ es.toList = xs.map (entryOfKey (tupleKind (mixKind P w))) ∧ (xs.map (·.1)).Nodup
  | .set S n => h.SetOf (intKind P w) a S n
  | .ins C dx fs => H dx = some (.own a) ∧ fs.length ≤ 1000 ∧ dx ≠ a ∧ h.get? a = some (PySem.W.instObj C dx) ∧
      ∃ mA, h.Ns1 dx mA ∧ (∀ f, RelO (fs.lookup f) (mA f)) ∧ PySem.Within mA (fs.map (·.1))
  | .own _ => ∃ o, h.get? a = some o
  | .xd fs => ∃ mA, h.Ns1 a mA ∧ ∀ f, RelO (fs.lookup f) (mA f)
  | .rng lo hi => ∃ t u v, h.get? a = some { cls := .type "range", data := .fields #[.int lo t, .int hi u, .int 1 v] }
  | .frz o u => h.get? a = some o ∧ ObjOk H h a u
  | .tbl ps => ∃ qs : Array Value, h.get? a = some { cls := .none, data := .fields qs } ∧ TblOk H a ps qs
  | .met f x => h.get? a = some (PySem.W.methodObj (.ref f) (.ref x))
  | .ext φ => φ h ∧ (∃ o, h.get? a = some o) ∧ ∀ h1 h2 : Heap, φ h1 → (∀ o, h1.get? a = some o → h2.get? a = some o) → φ h2
def HOk (H : Hp) (h : Heap) : Prop := ∀ a o, H a = some o → ObjOk P w H h a o
end
section
variable {P : Program} {w : World} {H H' : Hp} {h h' : Heap} {a : Addr} {o : HO}
theorem ObjOk.lt (x : ObjOk P w H h a o) : a < h.objs.size := by
  cases o with
  | lst xs => obtain ⟨_, _, _, _, e⟩ := x; exact Heap.lt_size e
  | tup xs => obtain ⟨_, _, _, p⟩ := x; exact p.lt
  | dK kvs => obtain ⟨_, _, _, _, o, _, _, e, _⟩ := x; exact Heap.lt_size e
  | dT kvs => obtain ⟨_, _, _, _, o, _, _, e, _⟩ := x; exact Heap.lt_size e
  | set S n => obtain ⟨o, _, _, _, e, _⟩ := x; exact Heap.lt_size e
  | ins C dx fs => obtain ⟨_, _, _, e, _⟩ := x; exact Heap.lt_size e
  | own y => obtain ⟨_, e⟩ := x; exact Heap.lt_size e
  | xd fs => obtain ⟨_, ⟨_, _, _, e, _⟩, _⟩ := x; exact Heap.lt_size e
  | rng lo hi => obtain ⟨_, _, _, e⟩ := x; exact Heap.lt_size e
  | frz ob u => obtain ⟨e, _⟩ := x; exact Heap.lt_size e
  | tbl ps => obtain ⟨qs, e, _⟩ := x; exact Heap.lt_size e
  | met f y => exact Heap.lt_size (show h.get? a = some _ from x)
  | ext φ => obtain ⟨_, ⟨_, e⟩, _⟩ := x; exact Heap.lt_size e
theorem Paired.mapP {α β : Type} {F G : α → β → Prop} : ∀ {l₁ : List α} {l₂ : List β}, Paired F l₁ l₂ → (∀ a b, F a b → G a b) → Paired G l₁ l₂
  | _, _, .nil, _ => .nil
  | _, _, .cons r t, f => .cons (f _ _ r) (Paired.mapP t f)
theorem ObjOk.stay (x : ObjOk P w H h a o) (k : ∀ b u, (b = a ∨ H b = some (.own a)) → h.get? b = some u → h'.get? b = some u)
    (ho : ∀ b, H b = some (.own a) → H' b = some (.own a)) (ht : ∀ b xs, H b = some (.tup xs) → H' b = some (.tup xs)) (hf : ∀ b o u, H b = some (.frz o u) → H' b = some (.frz o u)) : ObjOk P w H' h' a o := by
  induction o with
  | lst xs => obtain ⟨z, its, n, r, e⟩ := x; exact ⟨z, its, n, r, k _ _ (.inl rfl) e⟩
  | tup xs => obtain ⟨z, its, r, ob, e, c⟩ := x; exact ⟨z, its, r, ob, k _ _ (.inl rfl) e, c⟩
  | dK kvs => obtain ⟨z, y, vs, r, ob, es, ep, e, c⟩ := x; exact ⟨z, y, vs, r, ob, es, ep, k _ _ (.inl rfl) e, c⟩
  | dT kvs =>
    obtain ⟨z, y, xs, r, ob, es, ep, e, c⟩ := x
    exact ⟨z, y, xs, Paired.mapP r fun p q z => ⟨z.1, ht _ _ z.2.1, z.2.2⟩, ob, es, ep, k _ _ (.inl rfl) e, c⟩
  | set S n => obtain ⟨ob, es, ep, t, e, c⟩ := x; exact ⟨ob, es, ep, t, k _ _ (.inl rfl) e, c⟩
  | ins C dx fs =>
    obtain ⟨d, z, ne, e, mA, ⟨od, es, ep, e2, c⟩, r⟩ := x
    exact ⟨ho _ d, z, ne, k _ _ (.inl rfl) e, mA, ⟨od, es, ep, k _ _ (.inr d) e2, c⟩, r⟩
  | own y => obtain ⟨ob, e⟩ := x; exact ⟨ob, k _ _ (.inl rfl) e⟩
  | xd fs => obtain ⟨mA, ⟨od, es, ep, e, c⟩, r⟩ := x; exact ⟨mA, ⟨od, es, ep, k _ _ (.inl rfl) e, c⟩, r⟩
  | rng lo hi => obtain ⟨t, u, v, e⟩ := x; exact ⟨t, u, v, k _ _ (.inl rfl) e⟩
  | frz ob u ih => obtain ⟨e, q⟩ := x; exact ⟨k _ _ (.inl rfl) e, ih q⟩
  | tbl ps => obtain ⟨qs, e, z⟩ := x; exact ⟨qs, k a _ (.inl rfl) e, z.mono hf⟩
  | met f y =>
    have e : h.get? a = some (PySem.W.methodObj (.ref f) (.ref y)) := x
    show h'.get? a = some (PySem.W.methodObj (.ref f) (.ref y))
    exact k a _ (.inl rfl) e
  | ext φ => obtain ⟨p, ⟨o, e⟩, st⟩ := x; exact ⟨st _ _ p fun o q => k _ _ (.inl rfl) q, ⟨o, k _ _ (.inl rfl) e⟩, st⟩
theorem HOk.lt (x : HOk P w H h) (e : H a = some o) : a < h.objs.size := (x a o e).lt
theorem HOk.fresh (x : HOk P w H h) (e : h.objs.size ≤ a) : H a = none := by
  cases q : H a with
  | none => rfl
  | some u => exact absurd (Nat.lt_of_lt_of_le (x.lt q) e) (Nat.lt_irrefl _)
theorem HOk.kept (x : HOk P w H h) (k : ∀ b u, h.get? b = some u → h'.get? b = some u) : HOk P w H h' := fun a o e =>
  (x a o e).stay (fun b u _ q => k b u q) (fun _ q => q) (fun _ _ q => q) fun _ _ _ q => q
theorem HOk.laid (x : HOk P w H h) (k : ∀ b u, h.get? b = some u → h'.get? b = some u) (hp : h.objs.size ≤ a) (new : ObjOk P w (upd H a o) h' a o) : HOk P w (upd H a o) h' := fun b u e => by
  have hn := x.fresh hp
  by_cases hb : b = a
  · subst hb; rw [upd_same] at e; cases e; exact new
  · rw [upd_ne hb] at e
    exact (x b u e).stay (fun c v _ q => k c v q) (fun c q => by rw [upd_ne (ne_of_none q hn)]; exact q) (fun c xs q => by rw [upd_ne (ne_of_none q hn)]; exact q) fun c o' u' q => by rw [upd_ne (ne_of_none q hn)]; exact q
end
def Rd (H : Hp) (a : Addr) (u : HO) : Prop := H a = some u ∨ ∃ o, H a = some (.frz o u)
theorem Rd.of {H : Hp} {a : Addr} {u : HO} (h : H a = some u) : Rd H a u := .inl h
theorem Rd.ok {P : Program} {w : World} {H : Hp} {h : Heap} {a : Addr} {u : HO} (r : Rd H a u) (x : HOk P w H h) : ObjOk P w H h a u := by
  rcases r with r | ⟨o, r⟩
  · exact x a u r
  · obtain ⟨_, q⟩ := x a _ r
    exact q
def Mut : Option HO → Prop
  | some (.lst _) => True
  | some (.dK _) => True
  | some (.dT _) => True
  | some (.set _ _) => True
  | some (.ins _ _ _) => True
  | some (.ext _) => True
  | _ => False
section
variable {P : Program} {w : World} {H : Hp} {h h' : Heap} {x e : Addr} {o' : HO}
theorem HOk.write (ok : HOk P w H h) (mu : Mut (H x)) (he : e = x ∨ H e = some (.own x)) (k : ∀ b u, b ≠ e → h.get? b = some u → h'.get? b = some u) (heo : ∃ u, h'.get? e = some u)
    (new : ObjOk P w (upd H x o') h' x o') : HOk P w (upd H x o') h' := fun b u q => by
  have nown : ∀ c y, H c = some (.own y) → c ≠ x := fun c y r z => by subst z; rw [r] at mu; exact mu
  have ntup : ∀ c xs, H c = some (.tup xs) → c ≠ x := fun c xs r z => by subst z; rw [r] at mu; exact mu
  by_cases hb : b = x
  · subst hb; rw [upd_same] at q; cases q; exact new
  · rw [upd_ne hb] at q
    by_cases hbe : b = e
    · have q' : H b = some (.own x) := by
        rcases he with z | z
        · exact absurd (hbe.trans z) hb
        · rw [hbe]; exact z
      rw [q] at q'; cases q'
      obtain ⟨v, hv⟩ := heo
      exact ⟨v, by rw [hbe]; exact hv⟩
    · refine (ok b u q).stay (fun c v hc r => k c v ?_ r) (fun c r => by rw [upd_ne (nown c b r)]; exact r) (fun c xs r => by rw [upd_ne (ntup c xs r)]; exact r) fun c o' u' r => by rw [upd_ne (fun z => by subst z; rw [r] at mu; exact mu)]; exact r
      rcases hc with rfl | hc
      · exact hbe
      · rintro rfl
        rcases he with z | z
        · exact nown c b hc z
        · rw [hc] at z; cases z; exact hb rfl
end
structure Un (fs ex : List Addr) (H H' : Hp) (h h' : Heap) : Prop where
  keep : ∀ b o, h.get? b = some o → H b = none → b ∉ fs → b ∉ ex → h'.get? b = some o
  slot : ∀ b o, h.get? b = some o → H b = none → b ∈ fs → b ∉ ex → ∃ sl, h'.get? b = some { o with slots := sl }
  free : ∀ b o, h.get? b = some o → H b = none → b ∉ ex → H' b = none
  there : ∀ b o, h.get? b = some o → b ∉ ex → ∃ o', h'.get? b = some o'
  tups : ∀ b xs, H b = some (.tup xs) → H' b = some (.tup xs)
  frzs : ∀ b o u, H b = some (.frz o u) → H' b = some (.frz o u)
  tbls : ∀ b ps, H b = some (.tbl ps) → ∃ more, H' b = some (.tbl (ps ++ more))
section
variable {fs fs' ex ex' : List Addr} {H H1 H2 : Hp} {h h1 h2 h' : Heap} {a x e : Addr} {o : HO}
theorem Un.any (u : Un fs ex H H1 h h1) {b : Addr} {ob : Obj} (q : h.get? b = some ob) (n : H b = none) (hx : b ∉ ex) : ∃ sl, h1.get? b = some { ob with slots := sl } := by
  by_cases hb : b ∈ fs
  · exact u.slot b ob q n hb hx
  · exact ⟨ob.slots, u.keep b ob q n hb hx⟩
theorem Un.trans (a : Un fs ex H H1 h h1) (b : Un fs ex H1 H2 h1 h2) : Un fs ex H H2 h h2 where
  keep := fun c ob q n hc hx => b.keep c ob (a.keep c ob q n hc hx) (a.free c ob q n hx) hc hx
  slot := fun c ob q n hc hx => by
    obtain ⟨sl, e1⟩ := a.slot c ob q n hc hx
    obtain ⟨sl', e2⟩ := b.slot c _ e1 (a.free c ob q n hx) hc hx
    exact ⟨sl', e2⟩
  free := fun c ob q n hx => by
    obtain ⟨o', e1⟩ := a.there c ob q hx
    exact b.free c o' e1 (a.free c ob q n hx) hx
  there := fun c ob q hx => by
    obtain ⟨o', e1⟩ := a.there c ob q hx
    exact b.there c o' e1 hx
  tups := fun c xs q => b.tups c xs (a.tups c xs q)
  frzs := fun c ob xs q => b.frzs c ob xs (a.frzs c ob xs q)
  tbls := fun c ps q => by
    obtain ⟨m1, e1⟩ := a.tbls c ps q
    obtain ⟨m2, e2⟩ := b.tbls c _ e1
    exact ⟨m1 ++ m2, by rw [e2, Array.append_assoc]⟩
theorem Un.kept (k : ∀ b u, h.get? b = some u → h'.get? b = some u) : Un fs ex H H h h' :=
  ⟨fun b ob q _ _ _ => k b ob q, fun b ob q _ _ _ => ⟨ob.slots, k b ob q⟩, fun _ _ _ n _ => n, fun b ob q _ => ⟨ob, k b ob q⟩, fun _ _ q => q, fun _ _ _ q => q, fun _ ps q => ⟨#[], by rw [q]; simp⟩⟩
theorem Un.refl : Un fs ex H H h h := Un.kept fun _ _ q => q
theorem Un.laid (k : ∀ b u, h.get? b = some u → h'.get? b = some u) (hp : h.objs.size ≤ a) (hn : H a = none) : Un fs ex H (upd H a o) h h' where
  keep := fun b u q _ _ _ => k b u q
  slot := fun b u q _ _ _ => ⟨u.slots, k b u q⟩
  free := fun b u q n _ => by rw [upd_ne (Nat.ne_of_lt (Nat.lt_of_lt_of_le (Heap.lt_size q) hp))]; exact n
  there := fun b u q _ => ⟨u, k b u q⟩
  tups := fun b xs q => by rw [upd_ne (ne_of_none q hn)]; exact q
  frzs := fun b u xs q => by rw [upd_ne (ne_of_none q hn)]; exact q
  tbls := fun b ps q => ⟨#[], by rw [upd_ne (ne_of_none q hn), q]; simp⟩
theorem Un.write (mu : Mut (H x)) (he : e = x ∨ H e = some (.own x)) (k : ∀ b u, b ≠ e → h.get? b = some u → h'.get? b = some u) (heo : ∃ u, h'.get? e = some u) : Un fs ex H (upd H x o) h h' := by
  have hx : ∀ b, H b = none → b ≠ x := fun b n z => by subst z; rw [n] at mu; exact mu
  have hb : ∀ b, H b = none → b ≠ e := fun b n z => by
    subst z
    rcases he with r | r
    · exact hx b n r
    · rw [n] at r; cases r
  have hm : ∀ b u, H b = some u → ¬ Mut (some u) → b ≠ x := fun b u q nm z => by subst z; rw [q] at mu; exact nm mu
  refine ⟨fun b u q n _ _ => k b u (hb b n) q, fun b u q n _ _ => ⟨u.slots, k b u (hb b n) q⟩, fun b u q n _ => by rw [upd_ne (hx b n)]; exact n, fun b u q _ => ?_,
    fun b xs q => by rw [upd_ne (hm b _ q fun z => z)]; exact q, fun b u xs q => by rw [upd_ne (hm b _ q fun z => z)]; exact q, fun b ps q => ⟨#[], by rw [upd_ne (hm b _ q fun z => z), q]; simp⟩⟩
  by_cases hbe : b = e
  · subst hbe; exact heo
  · exact ⟨u, k b u hbe q⟩
theorem Un.mono (u : Un fs ex H H1 h h1) (hs : ∀ b ∈ fs, b ∈ fs') (hx : ∀ b ∈ ex, b ∈ ex') : Un fs' ex' H H1 h h1 :=
  ⟨fun b ob q n hb he => u.keep b ob q n (fun z => hb (hs b z)) fun z => he (hx b z), fun _ _ q n _ he => u.any q n fun z => he (hx _ z), fun b ob q n he => u.free b ob q n fun z => he (hx b z), fun b ob q he => u.there b ob q fun z => he (hx b z), u.tups, u.frzs, u.tbls⟩
end
def trk (h : Heap) (H : Hp) : List Addr := (List.range h.objs.size).filter fun a => (H a).isSome
def hidT (h : Heap) (H : Hp) : Heap := PySem.W.hideAll h (trk h H)
theorem hidT_size (h : Heap) (H : Hp) : (hidT h H).objs.size = h.objs.size := PySem.W.hideAll_size _ _
theorem hidT_get {h : Heap} {H : Hp} {b : Addr} {o : Obj} (e : h.get? b = some o) (n : H b = none) : (hidT h H).get? b = some o :=
  PySem.W.hideAll_get _ e fun hm => by
    have q : (H b).isSome = true := (List.mem_filter.mp hm).2
    rw [n] at q; simp at q
theorem of_hidT {h : Heap} {H : Hp} {b : Addr} {o : Obj} (e : (hidT h H).get? b = some o) : h.get? b = some o ∧ H b = none := by
  have e' : h.get? b = some o := PySem.W.of_hideAll (trk h H) e
  refine ⟨e', ?_⟩
  cases q : H b with
  | none => rfl
  | some x =>
    have hm : b ∈ trk h H := List.mem_filter.mpr ⟨List.mem_range.mpr (Heap.lt_size e'), by simp [q]⟩
    have z : (hidT h H).get? b = none := PySem.W.hideAll_none (trk h H) hm
    rw [z] at e; cases e
def allNews (g h : Heap) (L : Addr) : List (Addr × Obj) := (List.range h.objs.size).filterMap fun a => if a = L ∨ (g.get? a).isSome = true then none else (h.get? a).map fun o => (a, o)
def rest (g h : Heap) (L d : Addr) : List (Addr × Obj) := (allNews g h L).filter fun p => decide (p.1 ≠ d)
end L2
namespace L2
open PySem PySem.Spec PyProof.Rows
def tabL (K : PySem.W.Frag) : List (Str × Addr × Addr) := match K.lookup mainGlobals with
  | some ⟨_, _, .dict es _, _⟩ => es.toList.filterMap fun e => match e.key with
    | .str x _ => (PySem.W.tabIn K x).map fun q => (x, q)
    | _ => none
  | _ => []
def TabT (K : PySem.W.Frag) (H : Hp) : Prop := ∀ q ∈ tabL K, ∃ ps, H q.2.2 = some (.tbl ps) ∧ ps[0]? = some (.str (q.1 ++ ".<locals>." ++ "<lambda>") 0)
theorem TabT.mono {K : PySem.W.Frag} {H H' : Hp} (x : TabT K H) (k : ∀ b ps, H b = some (.tbl ps) → ∃ more, H' b = some (.tbl (ps ++ more))) : TabT K H' := fun q hq => by
  obtain ⟨ps, e, z⟩ := x q hq
  obtain ⟨more, e'⟩ := k _ _ e
  refine ⟨_, e', ?_⟩
  have hz : 0 < ps.size := by
    rcases Nat.eq_zero_or_pos ps.size with h | h
    · rw [Array.getElem?_eq_none (by omega)] at z; cases z
    · exact h
  rw [Array.getElem?_append_left hz]
  exact z
structure Mod (K : PySem.W.Frag) (mg : Str → Option Value) (base : Heap) : Prop where
  kin : K.In base
  glob : base.Ns mainGlobals mg
  blt : ∃ mb, base.Ns builtinsNs mb ∧ ∀ x : Str, x ≠ "__name__" → mb x = bootBuiltins x
  nolimit : base.NoLimit
  bm : ∃ bm ob, mg "__builtins__" = some (.ref bm) ∧ bm ≠ builtinsNs ∧ base.get? bm = some ob ∧ ob.cls = .type "module" ∧ ob.dict = some builtinsNs ∧ ob.data = .plain
structure Cx where
  prog : Program
  w : World
  K : PySem.W.Frag
  mg : Str → Option Value
  base : Heap
  A : Around
  N : List Str
  s₀ : Shared
  H₀ : Hp
  env : Env
  outer : List Env
  stack : List Env
  ex : List Addr
  fn : Str → Bool
  calm : Bool
  pn : List (Addr × Obj)
  xe : Value → Shared → Prop
def frs (l : List Env) : List Addr := l.filterMap (·.frame)
abbrev Cx.fs (X : Cx) : List Addr := frs X.outer
def Vis (sc : Scope) (x : Str) : Prop := sc.names.lookup x = some .local ∨ sc.names.lookup x = some .cell ∨ sc.names.lookup x = some .free
def Loc (sc : Scope) (x : Str) : Prop := sc.names.lookup x = some .local ∨ sc.names.lookup x = some .cell
def Look (env : Env) (h : Heap) (m : Str → Option Value) (x : Str) (u : Value) : Prop :=
  (env.kindOf x = some .local ∧ m x = some u) ∨ ((env.kindOf x = some .cell ∨ env.kindOf x = some .free) ∧ ∃ c, env.cells.lookup x = some c ∧ h.IsCell c (some u))
structure Cx.Ok (X : Cx) : Prop where
  mod : Mod X.K X.mg X.base
  kind : X.env.scope.kind = .function
  glob : X.env.globals = mainGlobals
  blt : X.env.builtins = builtinsNs
  above : X.s₀.heap.objs.size ≤ X.env.locals
  inj : ∀ x y c, X.env.cells.lookup x = some c → X.env.cells.lookup y = some c → x = y
  has : ∀ x, (X.env.kindOf x = some .cell ∨ X.env.kindOf x = some .free) → ∃ c, X.env.cells.lookup x = some c
  cab : ∀ x c, X.fn x = true → X.env.cells.lookup x = some c → X.s₀.heap.objs.size ≤ c
  hd : X.calm = true → X.A.handled = none
  frames : X.A.frames = some X.stack
  stk : X.stack = X.outer ∨ (X.stack = X.env :: X.outer ∧ X.env.frame = some X.env.locals)
  exf : ∀ b ∈ X.ex, b ≠ X.env.locals ∧ ∀ x c, X.env.cells.lookup x = some c → c ≠ b
  bs : ∀ b o, X.base.get? b = some o → X.s₀.heap.get? b = some o ∧ X.H₀ b = none
  bsz : X.base.objs.size ≤ X.s₀.heap.objs.size
  noex : ∀ b o, X.base.get? b = some o → b ∉ X.ex
  exfs : ∀ b ∈ X.ex, b ∉ X.fs
  funs : X.s₀.heap.FunFrames X.base X.outer
  frf : ∀ b ∈ X.fs, X.H₀ b = none
  tt : TabT X.K X.H₀
structure Inv (X : Cx) (pins : List (Addr × Obj)) (σ : List (Option V)) (H : Hp) (s : Shared) : Prop where
  ok : X.Ok
  os : s.os = X.s₀.os
  bare : AllBare s.gens
  base : Un X.fs X.ex X.H₀ H X.s₀.heap s.heap
  loc : ∃ m, s.heap.Ns X.env.locals m ∧ ∀ (i : Nat) (x : Str) (v : V), X.N[i]? = some x → σ[i]? = some (some v) → Vis X.env.scope x → ∃ u, RelV v u ∧ Look X.env s.heap m x u
  cell : ∀ x c, X.env.cells.lookup x = some c → ∃ v, s.heap.IsCell c v
  free : H X.env.locals = none
  freeC : ∀ x c, X.env.cells.lookup x = some c → H c = none
  pin : ∀ p ∈ X.pn ++ pins, s.heap.get? p.1 = some p.2 ∧ H p.1 = none ∧ p.1 ≠ X.env.locals ∧ p.1 ∉ X.fs ∧ ∀ v, p.2.data ≠ .cell v
  hok : HOk X.prog X.w H s.heap
  len : σ.length = X.N.length
section
variable {X : Cx} {pins : List (Addr × Obj)} {σ : List (Option V)} {H H' : Hp} {s : Shared} {h' : Heap}
theorem Cx.Ok.nofr (ok : X.Ok) {b : Addr} {o : Obj} (e : X.base.get? b = some o) : b ∉ X.fs := fun hb => by
  have := (ok.funs.mem hb).1
  rw [e] at this; cases this
theorem Inv.bs (I : Inv X pins σ H s) : ∀ b o, X.base.get? b = some o → s.heap.get? b = some o ∧ H b = none := fun b o e =>
  ⟨I.base.keep b o (I.ok.bs b o e).1 (I.ok.bs b o e).2 (I.ok.nofr e) (I.ok.noex b o e), I.base.free b o (I.ok.bs b o e).1 (I.ok.bs b o e).2 (I.ok.noex b o e)⟩
theorem Inv.bk (I : Inv X pins σ H s) : ∀ b o, X.base.get? b = some o → s.heap.get? b = some o := fun b o e => (I.bs b o e).1
theorem Inv.mod (I : Inv X pins σ H s) : Mod X.K X.mg X.base := I.ok.mod
theorem Inv.kIn (I : Inv X pins σ H s) : X.K.In s.heap := I.ok.mod.kin.keeps I.bk
theorem Inv.nolimit (I : Inv X pins σ H s) : s.heap.NoLimit := I.ok.mod.nolimit.keeps I.bk
theorem Inv.fr (I : Inv X pins σ H s) : ∃ m, Fr X.base X.env.locals s.heap m :=
  let ⟨m, hn, _⟩ := I.loc
  ⟨m, hn, I.bk, Nat.le_trans I.ok.bsz I.ok.above⟩
theorem Inv.lt (I : Inv X pins σ H s) : X.env.locals < s.heap.objs.size := let ⟨_, hn, _⟩ := I.loc; hn.lt
theorem Inv.sz (I : Inv X pins σ H s) : X.s₀.heap.objs.size ≤ s.heap.objs.size := Nat.le_trans I.ok.above (Nat.le_of_lt I.lt)
theorem Inv.nofs (I : Inv X pins σ H s) {a : Addr} (h : s.heap.objs.size ≤ a) : a ∉ X.fs := fun hb => by
  obtain ⟨_, o, ho, _⟩ := I.ok.funs.mem hb
  exact absurd (Nat.lt_of_lt_of_le (Heap.lt_size ho) (Nat.le_trans I.sz h)) (Nat.lt_irrefl _)
theorem Inv.cne (I : Inv X pins σ H s) : ∀ x c, X.env.cells.lookup x = some c → c ≠ X.env.locals := fun x c e z => by
  obtain ⟨v, o, ho, hd⟩ := I.cell x c e
  obtain ⟨m, ⟨o', es, ep, ho', hd', _⟩, _⟩ := I.loc
  rw [z, ho'] at ho; cases ho; rw [hd'] at hd; cases hd
theorem Inv.funs (I : Inv X pins σ H s) : s.heap.FunFrames X.base X.outer := by
  have all : ∀ (l : List Env), (∀ b ∈ frs l, b ∈ X.fs) → X.s₀.heap.FunFrames X.base l → s.heap.FunFrames X.base l := by
    intro l
    induction l with
    | nil => intro _ _; trivial
    | cons env r ih =>
      intro hs hl
      obtain ⟨hk, ⟨L, o, hf, hn, ho, hd⟩, hr⟩ := hl
      have hL : L ∈ X.fs := hs L (by unfold frs; rw [List.filterMap_cons, hf]; exact List.mem_cons_self)
      obtain ⟨sl, e⟩ := I.base.slot L o ho (I.ok.frf L hL) hL fun z => I.ok.exfs L z hL
      exact ⟨hk, ⟨L, _, hf, hn, e, hd⟩, ih (fun b hb => hs b (by unfold frs; rw [List.filterMap_cons, hf]; exact List.mem_cons_of_mem _ hb)) hr⟩
  exact all X.outer (fun _ hb => hb) I.ok.funs
theorem Inv.stack (I : Inv X pins σ H s) : s.heap.FunFrames X.base X.stack := by
  rcases I.ok.stk with e | ⟨e, hf⟩
  · rw [e]; exact I.funs
  · rw [e]
    obtain ⟨m, hn, _⟩ := I.loc
    refine .cons (by rw [I.ok.kind]; decide) hf hn ?_ I.funs
    exact Heap.get?_none_of_le (Nat.le_trans I.ok.bsz I.ok.above)
theorem Inv.stkSub (I : Inv X pins σ H s) : ∀ b ∈ frs X.stack, b ∈ X.env.locals :: X.fs := fun b hb => by
  rcases I.ok.stk with e | ⟨e, hf⟩
  · rw [e] at hb; exact List.mem_cons_of_mem _ hb
  · rw [e] at hb
    unfold frs at hb
    rw [List.filterMap_cons, hf] at hb
    exact hb
theorem Inv.stkFree (I : Inv X pins σ H s) : ∀ b ∈ frs X.stack, H b = none := fun b hb => by
  rcases List.mem_cons.mp (I.stkSub b hb) with e | hb
  · rw [e]; exact I.free
  · obtain ⟨_, o, ho, _⟩ := I.ok.funs.mem hb
    exact I.base.free b o ho (I.ok.frf b hb) fun z => I.ok.exfs b z hb
theorem Inv.step {g' : Array GenState} {t' : Nat} {d' : Drawn} {ch : List Addr} (I : Inv X pins σ H s)
    (hch : ∀ b ∈ ch, (b ∈ X.ex ∨ X.s₀.heap.objs.size ≤ b) ∧ b ≠ X.env.locals ∧ (∀ x c, X.env.cells.lookup x = some c → c ≠ b) ∧ ∀ p ∈ X.pn ++ pins, p.1 ≠ b)
    (keep : ∀ b o, b ≠ X.env.locals → b ∉ X.fs → b ∉ ch → s.heap.get? b = some o → H b = none → h'.get? b = some o)
    (slot : ∀ b o, b ≠ X.env.locals → b ∈ X.fs → b ∉ ch → s.heap.get? b = some o → H b = none → ∃ sl, h'.get? b = some { o with slots := sl }) (free : ∀ b o, b ∉ ch → s.heap.get? b = some o → H b = none → H' b = none)
    (there : ∀ b o, b ∉ ch → s.heap.get? b = some o → ∃ o', h'.get? b = some o')
    (tups : ∀ b xs, H b = some (.tup xs) → H' b = some (.tup xs)) (frzs : ∀ b o u, H b = some (.frz o u) → H' b = some (.frz o u)) (tbls : ∀ b ps, H b = some (.tbl ps) → ∃ more, H' b = some (.tbl (ps ++ more)))
    (ns : ∀ m, s.heap.Ns X.env.locals m → h'.Ns X.env.locals m) (hok : HOk X.prog X.w H' h') (hg : AllBare g') :
    Inv X pins σ H' { s with heap := h', gens := g', drawn := d', toks := t' } := by
  have neL : ∀ b o, X.s₀.heap.get? b = some o → b ≠ X.env.locals := fun b o e => Nat.ne_of_lt (Nat.lt_of_lt_of_le (Heap.lt_size e) I.ok.above)
  have neC : ∀ b o, X.s₀.heap.get? b = some o → b ∉ X.ex → b ∉ ch := fun b o e hx hb => by
    rcases (hch b hb).1 with z | z
    · exact hx z
    · exact absurd (Nat.lt_of_lt_of_le (Heap.lt_size e) z) (Nat.lt_irrefl _)
  have cellK : ∀ x c, X.env.cells.lookup x = some c → ∀ v, s.heap.IsCell c v → h'.IsCell c v := fun x c e v ⟨o, ho, hd⟩ => by
    have nch : c ∉ ch := fun z => (hch c z).2.2.1 x c e rfl
    by_cases hc : c ∈ X.fs
    · obtain ⟨sl, q⟩ := slot c o (I.cne x c e) hc nch ho (I.freeC x c e)
      exact ⟨_, q, hd⟩
    · exact ⟨o, keep c o (I.cne x c e) hc nch ho (I.freeC x c e), hd⟩
  refine ⟨I.ok, I.os, hg, ⟨fun b o e n hb hx => ?_, fun b o e n hb hx => ?_, fun b o e n hx => ?_, fun b o e hx => ?_, fun b xs e => tups b xs (I.base.tups b xs e), fun b o xs e => frzs b o xs (I.base.frzs b o xs e), fun b ps e => ?_⟩, ?_, fun x c e => ?_, ?_, fun x c e => ?_, fun p hp => ?_, hok, I.len⟩
  · exact keep b o (neL b o e) hb (neC b o e hx) (I.base.keep b o e n hb hx) (I.base.free b o e n hx)
  · obtain ⟨sl, e1⟩ := I.base.slot b o e n hb hx
    obtain ⟨sl', e2⟩ := slot b _ (neL b o e) hb (neC b o e hx) e1 (I.base.free b o e n hx)
    exact ⟨sl', e2⟩
  · obtain ⟨o', e1⟩ := I.base.there b o e hx
    exact free b o' (neC b o e hx) e1 (I.base.free b o e n hx)
  · obtain ⟨o', e1⟩ := I.base.there b o e hx
    exact there b o' (neC b o e hx) e1
  · obtain ⟨m1, e1⟩ := I.base.tbls b ps e
    obtain ⟨m2, e2⟩ := tbls b _ e1
    exact ⟨m1 ++ m2, by rw [e2, Array.append_assoc]⟩
  · obtain ⟨m, hn, hl⟩ := I.loc
    refine ⟨m, ns m hn, fun i x v e1 e2 e3 => ?_⟩
    obtain ⟨u, r, l⟩ := hl i x v e1 e2 e3
    refine ⟨u, r, ?_⟩
    rcases l with l | ⟨k, c, e, z⟩
    · exact .inl l
    · exact .inr ⟨k, c, e, cellK x c e _ z⟩
  · obtain ⟨v, z⟩ := I.cell x c e
    exact ⟨v, cellK x c e v z⟩
  · obtain ⟨m, ⟨o, _, _, ho, _⟩, _⟩ := I.loc
    exact free _ o (fun z => (hch _ z).2.1 rfl) ho I.free
  · obtain ⟨v, o, ho, hd⟩ := I.cell x c e
    exact free c o (fun z => (hch c z).2.2.1 x c e rfl) ho (I.freeC x c e)
  · obtain ⟨e, n, ne, nf, d⟩ := I.pin p hp
    have nch : p.1 ∉ ch := fun z => (hch p.1 z).2.2.2 p hp rfl
    exact ⟨keep p.1 p.2 ne nf nch e n, free p.1 p.2 nch e n, ne, nf, d⟩
theorem Inv.un {t' : Nat} (I : Inv X pins σ H s) (u : Un X.fs [] H H' s.heap h') (hok : HOk X.prog X.w H' h') : Inv X pins σ H' { s with heap := h', toks := t' } := by
  obtain ⟨m, ⟨o, es, ep, ho, r⟩, _⟩ := id I.loc
  obtain ⟨sl, hL⟩ := u.any ho I.free (by simp)
  exact I.step (g' := s.gens) (d' := s.drawn) (ch := []) (fun _ z => nomatch z) (fun b o _ hb _ e n => u.keep b o e n hb (by simp)) (fun b o _ hb _ e n => u.slot b o e n hb (by simp)) (fun b o _ e n => u.free b o e n (by simp)) (fun b o _ e => u.there b o e (by simp)) u.tups u.frzs u.tbls (fun m' hm => by
    obtain ⟨o', es', ep', ho', r'⟩ := hm
    rw [ho] at ho'; cases ho'
    exact ⟨_, es', ep', hL, r'⟩) hok I.bare
theorem Inv.call {g' : Array GenState} {t' : Nat} {d' : Drawn} {ch : List Addr} (I : Inv X pins σ H s) (u : Un (frs X.stack) ch H H' s.heap h') (hok : HOk X.prog X.w H' h') (hg : AllBare g')
    (hch : ∀ b ∈ ch, (b ∈ X.ex ∨ X.s₀.heap.objs.size ≤ b) ∧ b ≠ X.env.locals ∧ (∀ x c, X.env.cells.lookup x = some c → c ≠ b) ∧ ∀ p ∈ X.pn ++ pins, p.1 ≠ b) :
    Inv X pins σ H' { s with heap := h', gens := g', drawn := d', toks := t' } := by
  obtain ⟨m, ⟨o, es, ep, ho, r⟩, _⟩ := id I.loc
  obtain ⟨sl, hL⟩ := u.any ho I.free fun z => (hch _ z).2.1 rfl
  exact I.step (ch := ch) hch (fun b o hL hb hc e n => u.keep b o e n (fun z => (List.mem_cons.mp (I.stkSub b z)).elim hL hb) hc) (fun b o _ _ hc e n => u.any e n hc) (fun b o hc e n => u.free b o e n hc) (fun b o hc e => u.there b o e hc) u.tups u.frzs u.tbls (fun m' hm => by
    obtain ⟨o', es', ep', ho', r'⟩ := hm
    rw [ho] at ho'; cases ho'
    exact ⟨_, es', ep', hL, r'⟩) hok hg
theorem Inv.turned {t' : Nat} {it : Addr} (I : Inv X pins σ H s) (k : ∀ b o, b ≠ it → s.heap.get? b = some o → h'.get? b = some o) (hn : H it = none) (hL : it ≠ X.env.locals)
    (h1 : it ∈ X.ex ∨ X.s₀.heap.objs.size ≤ it) (h2 : ∀ x c, X.env.cells.lookup x = some c → c ≠ it) (h3 : ∀ p ∈ X.pn ++ pins, p.1 ≠ it) : Inv X pins σ H { s with heap := h', toks := t' } := by
  have nit : ∀ b u, H b = some u → b ≠ it := fun b u e z => by rw [z, hn] at e; cases e
  refine I.step (g' := s.gens) (d' := s.drawn) (ch := [it]) (fun b hb => ?_) (fun b o _ _ hc e _ => k b o (fun z => hc (by simp [z])) e) (fun b o _ _ hc e _ => ⟨o.slots, k b o (fun z => hc (by simp [z])) e⟩) (fun _ _ _ _ n => n)
    (fun b o hc e => ⟨o, k b o (fun z => hc (by simp [z])) e⟩) (fun _ _ e => e) (fun _ _ _ e => e) (fun b ps e => ⟨#[], by rw [e]; simp⟩) (fun m hm => ?_) (fun b u e => ?_) I.bare
  · have e : b = it := by simpa using hb
    subst e
    exact ⟨h1, hL, h2, h3⟩
  · obtain ⟨o, es, ep, ho, r⟩ := hm
    exact ⟨o, es, ep, k _ o (Ne.symm hL) ho, r⟩
  · refine (I.hok b u e).stay (fun c v hc q => k c v ?_ q) (fun _ q => q) (fun _ _ q => q) fun _ _ _ q => q
    rcases hc with z | z
    · rw [z]; exact nit b u e
    · exact nit c _ z
theorem Inv.tok (I : Inv X pins σ H s) (t : Nat) : Inv X pins σ H { s with toks := t } := I.un (h' := s.heap) (t' := t) Un.refl I.hok
theorem Inv.kept {t' : Nat} (I : Inv X pins σ H s) (k : ∀ b u, s.heap.get? b = some u → h'.get? b = some u) : Inv X pins σ H { s with heap := h', toks := t' } := I.un (Un.kept k) (I.hok.kept k)
theorem Inv.laid {a : Addr} {o : HO} {t' : Nat} (I : Inv X pins σ H s) (k : ∀ b u, s.heap.get? b = some u → h'.get? b = some u) (hp : s.heap.objs.size ≤ a) (new : ObjOk X.prog X.w (upd H a o) h' a o) :
    Inv X pins σ (upd H a o) { s with heap := h', toks := t' } := I.un (Un.laid k hp (I.hok.fresh hp)) (I.hok.laid k hp new)
theorem Inv.write {x e : Addr} {o : HO} {t' : Nat} (I : Inv X pins σ H s) (mu : Mut (H x)) (he : e = x ∨ H e = some (.own x)) (k : ∀ b u, b ≠ e → s.heap.get? b = some u → h'.get? b = some u) (heo : ∃ u, h'.get? e = some u)
    (new : ObjOk X.prog X.w (upd H x o) h' x o) : Inv X pins σ (upd H x o) { s with heap := h', toks := t' } := I.un (Un.write mu he k heo) (I.hok.write mu he k heo new)
theorem Inv.pins_of {pins' : List (Addr × Obj)} (I : Inv X pins σ H s) (h : ∀ p ∈ pins', s.heap.get? p.1 = some p.2 ∧ H p.1 = none ∧ p.1 ≠ X.env.locals ∧ p.1 ∉ X.fs ∧ ∀ v, p.2.data ≠ .cell v) : Inv X pins' σ H s :=
  ⟨I.ok, I.os, I.bare, I.base, I.loc, I.cell, I.free, I.freeC, fun p hp => (List.mem_append.mp hp).elim (fun z => I.pin p (List.mem_append_left _ z)) (h p), I.hok, I.len⟩
theorem nodup_ix {N : List Str} (hN : N.Nodup) {i j : Nat} {x : Str} (a : N[i]? = some x) (b : N[j]? = some x) : i = j := by
  obtain ⟨h1, e1⟩ := List.getElem?_eq_some_iff.mp a
  obtain ⟨h2, e2⟩ := List.getElem?_eq_some_iff.mp b
  exact (List.getElem_inj hN).mp (e1.trans e2.symm)
theorem store_ok2 {M : Model} {A : Around} {E : Value → Shared → Prop} {i : Nat} {x : Str} {v : V} {u : Value} {Q : Unit → Shared → Prop} (I : Inv X pins σ H s) (hN : X.N.Nodup) (hi : X.N[i]? = some x) (hx : Loc X.env.scope x) (r : RelV v u)
    (h : ∀ s', Inv X pins (σ.set i (some v)) H s' → (∃ a, Heap.SameBut a s.heap s'.heap ∧ (a = X.env.locals ∨ X.env.cells.lookup x = some a)) → Q () s') (hf : X.fn x = true ∨ X.env.scope.names.lookup x = some .local := by first | exact .inl rfl | exact .inr rfl | assumption) : wpAny M A (storeName X.env x u) Q E s := by
  obtain ⟨m, hn, hl⟩ := id I.loc
  have hcls : (X.env.scope.kind == .class || (X.env.scope.kind == .module && X.env.locals != X.env.globals)) = false := by rw [I.ok.kind]; rfl
  have hiσ : i < σ.length := by rw [I.len]; exact (List.getElem?_eq_some_iff.mp hi).1
  have cne := I.cne
  have tracked : ∀ {a : Addr} {h' : Heap}, (∃ o, s.heap.get? a = some o ∧ H a = none) → Heap.SameBut a s.heap h' → HOk X.prog X.w H h' := fun {a h'} ha hs b ob e => by
    obtain ⟨_, _, hfree⟩ := ha
    refine (I.hok b ob e).stay (fun c w' hc q => (hs.2 c ?_).trans q) (fun _ q => q) (fun _ _ q => q) fun _ _ _ q => q
    rintro rfl
    rcases hc with rfl | hc
    · rw [hfree] at e; cases e
    · rw [hfree] at hc; cases hc
  rcases hx with hk | hk
  · refine wpAny_storeName_local hk hn (fun h' hn' hs => ?_) hcls
    obtain ⟨oL, _, _, hoL, _⟩ := id hn
    refine h _ ⟨I.ok, I.os, I.bare, ⟨fun b o e n hb hx => ?_, fun b o e n hb hx => ?_, I.base.free, fun b o e hx => ?_, I.base.tups, I.base.frzs, I.base.tbls⟩, ⟨_, hn', fun j y v' e1 e2 e3 => ?_⟩, fun y c e => ?_, I.free, I.freeC, fun p hp => ?_, tracked ⟨oL, hoL, I.free⟩ hs, by simpa using I.len⟩ ⟨_, hs, .inl rfl⟩
    · exact (hs.2 b (Nat.ne_of_lt (Nat.lt_of_lt_of_le (Heap.lt_size e) I.ok.above))).trans (I.base.keep b o e n hb hx)
    · obtain ⟨sl, e1⟩ := I.base.slot b o e n hb hx
      exact ⟨sl, (hs.2 b (Nat.ne_of_lt (Nat.lt_of_lt_of_le (Heap.lt_size e) I.ok.above))).trans e1⟩
    · obtain ⟨o', e1⟩ := I.base.there b o e hx
      exact ⟨o', (hs.2 b (Nat.ne_of_lt (Nat.lt_of_lt_of_le (Heap.lt_size e) I.ok.above))).trans e1⟩
    · by_cases hj : j = i
      · subst hj
        rw [hi] at e1; cases e1
        rw [List.getElem?_set_self hiσ] at e2
        cases e2
        exact ⟨u, r, .inl ⟨hk, by simp⟩⟩
      · rw [List.getElem?_set_ne (Ne.symm hj)] at e2
        obtain ⟨u', r', q⟩ := hl j y v' e1 e2 e3
        refine ⟨u', r', ?_⟩
        rcases q with ⟨k, e⟩ | ⟨k, c, e, z⟩
        · refine .inl ⟨k, ?_⟩
          have : y ≠ x := fun e => hj (nodup_ix hN e1 (e ▸ hi))
          simp [this, e]
        · exact .inr ⟨k, c, e, z.sameBut hs (cne y c e)⟩
    · obtain ⟨w', z⟩ := I.cell y c e
      exact ⟨w', z.sameBut hs (cne y c e)⟩
    · obtain ⟨e, n, ne, nf, d⟩ := I.pin p hp
      exact ⟨(hs.2 p.1 ne).trans e, n, ne, nf, d⟩
  · have hfn : X.fn x = true := by
      rcases hf with z | z
      · exact z
      · rw [z] at hk; cases hk
    obtain ⟨c, hc⟩ := I.ok.has x (.inl hk)
    obtain ⟨w', z⟩ := I.cell x c hc
    refine wpAny_storeName_cell I.ok.kind hk hc z (fun h' hc' hs => ?_)
    obtain ⟨oc, hoc, hocd⟩ := id z
    refine h { s with heap := h' } ⟨I.ok, I.os, I.bare, ⟨fun b o e n hb hx => ?_, fun b o e n hb hx => ?_, I.base.free, fun b o e hx => ?_, I.base.tups, I.base.frzs, I.base.tbls⟩, ⟨m, hn.sameBut hs (Ne.symm (cne x c hc)), fun j y v' e1 e2 e3 => ?_⟩, fun y c' e => ?_, I.free, I.freeC, fun p hp => ?_, tracked ⟨oc, hoc, I.freeC x c hc⟩ hs, by simpa using I.len⟩ ⟨c, hs, .inr hc⟩
    · exact (hs.2 b (Nat.ne_of_lt (Nat.lt_of_lt_of_le (Heap.lt_size e) (I.ok.cab x c hfn hc)))).trans (I.base.keep b o e n hb hx)
    · obtain ⟨sl, e1⟩ := I.base.slot b o e n hb hx
      exact ⟨sl, (hs.2 b (Nat.ne_of_lt (Nat.lt_of_lt_of_le (Heap.lt_size e) (I.ok.cab x c hfn hc)))).trans e1⟩
    · obtain ⟨o', e1⟩ := I.base.there b o e hx
      exact ⟨o', (hs.2 b (Nat.ne_of_lt (Nat.lt_of_lt_of_le (Heap.lt_size e) (I.ok.cab x c hfn hc)))).trans e1⟩
    · by_cases hj : j = i
      · subst hj
        rw [hi] at e1; cases e1
        rw [List.getElem?_set_self hiσ] at e2
        cases e2
        exact ⟨u, r, .inr ⟨.inl hk, c, hc, hc'⟩⟩
      · rw [List.getElem?_set_ne (Ne.symm hj)] at e2
        obtain ⟨u', r', q⟩ := hl j y v' e1 e2 e3
        refine ⟨u', r', ?_⟩
        rcases q with q | ⟨k, c', e, z'⟩
        · exact .inl q
        · refine .inr ⟨k, c', e, z'.sameBut hs ?_⟩
          rintro rfl
          exact hj (nodup_ix hN e1 (I.ok.inj _ _ _ e hc ▸ hi))
    · by_cases hcc : c' = c
      · subst hcc; exact ⟨_, hc'⟩
      · obtain ⟨w2, z2⟩ := I.cell y c' e
        exact ⟨w2, z2.sameBut hs hcc⟩
    · obtain ⟨e, n, ne, nf, d⟩ := I.pin p hp
      refine ⟨(hs.2 p.1 ?_).trans e, n, ne, nf, d⟩
      intro q
      rw [q, hoc] at e
      have q' : oc = p.2 := Option.some.inj e
      exact d w' (by rw [← q']; exact hocd)
theorem store_ok {M : Model} {A : Around} {E : Value → Shared → Prop} {i : Nat} {x : Str} {v : V} {u : Value} {Q : Unit → Shared → Prop} (I : Inv X pins σ H s) (hN : X.N.Nodup) (hi : X.N[i]? = some x) (hx : Loc X.env.scope x) (r : RelV v u)
    (h : ∀ s', Inv X pins (σ.set i (some v)) H s' → Q () s') (hf : X.fn x = true ∨ X.env.scope.names.lookup x = some .local := by first | exact .inl rfl | exact .inr rfl | assumption) : wpAny M A (storeName X.env x u) Q E s :=
  store_ok2 I hN hi hx r (fun s' I' _ => h s' I') hf
theorem Inv.call' {s' : Shared} {ch : List Addr} (I : Inv X pins σ H s) (ho : s'.os = s.os) (u : Un (frs X.stack) ch H H' s.heap s'.heap) (hok : HOk X.prog X.w H' s'.heap) (hg : AllBare s'.gens)
    (hch : ∀ b ∈ ch, (b ∈ X.ex ∨ X.s₀.heap.objs.size ≤ b) ∧ b ≠ X.env.locals ∧ (∀ x c, X.env.cells.lookup x = some c → c ≠ b) ∧ ∀ p ∈ X.pn ++ pins, p.1 ≠ b) : Inv X pins σ H' s' := by
  obtain ⟨h', g', d', t', o'⟩ := s'
  have e : o' = s.os := ho
  subst e
  exact I.call (g' := g') (t' := t') (d' := d') u hok hg hch
end
abbrev XK := Value → Option Addr → Hp → Prop
abbrev St := List (Option V)
abbrev VK := V → Hp → Prop
abbrev TE := St → Hp → VK → Prop
abbrev TT := St → Hp → (Bool → Hp → Prop) → Prop
abbrev TA := St → Hp → (List V → Hp → Prop) → Prop
structure Ends where
  nx : St → Hp → Prop
  rt : VK
  bk : St → Hp → Prop := fun _ _ => False
  ct : St → Hp → Prop := fun _ _ => False
abbrev TS := Ends → St → Hp → Prop
def EP (X : Cx) (pins : List (Addr × Obj)) (σ : St) (Q : VK) (u : Value) (s' : Shared) : Prop := ∃ v H', Inv X pins σ H' s' ∧ RelV v u ∧ Q v H'
def TP (X : Cx) (pins : List (Addr × Obj)) (σ : St) (Q : Bool → Hp → Prop) (b : Bool) (s' : Shared) : Prop := ∃ H', Inv X pins σ H' s' ∧ Q b H'
def AP (X : Cx) (pins : List (Addr × Obj)) (σ : St) (Q : List V → Hp → Prop) (us : List Value) (s' : Shared) : Prop := ∃ vs H', Inv X pins σ H' s' ∧ Vals vs us ∧ Q vs H'
def SP (X : Cx) (pins : List (Addr × Obj)) (D : Ends) (f : Flow) (s' : Shared) : Prop :=
  match f with
  | .next => ∃ σ' H', Inv X pins σ' H' s' ∧ D.nx σ' H'
  | .brk => ∃ σ' H', Inv X pins σ' H' s' ∧ D.bk σ' H'
  | .cont => ∃ σ' H', Inv X pins σ' H' s' ∧ D.ct σ' H'
  | .ret u => ∃ v σ' H', Inv X pins σ' H' s' ∧ RelV v u ∧ D.rt v H'
def PEd (X : Cx) (e : Expr) (t : TE) : Prop :=
  ∀ (pins : List (Addr × Obj)) (s : Shared) (σ : St) (H : Hp) (Q : VK), Inv X pins σ H s → t σ H Q → wpAny (model X.prog X.w) X.A (eval e X.env) (EP X pins σ Q) X.xe s
structure PE (X : Cx) (e : Expr) (t : TE) : Prop where
  run : PEd X e t
instance {X : Cx} {e : Expr} {t : TE} : CoeFun (PE X e t) (fun _ => PEd X e t) := ⟨PE.run⟩
instance {X : Cx} {e : Expr} {t : TE} : Coe (PE X e t) (PEd X e t) := ⟨PE.run⟩
def PT (X : Cx) (e : Expr) (t : TT) : Prop :=
  ∀ (pins : List (Addr × Obj)) (s : Shared) (σ : St) (H : Hp) (Q : Bool → Hp → Prop), Inv X pins σ H s → t σ H Q → wpAny (model X.prog X.w) X.A (isTrue e X.env (eval e X.env)) (TP X pins σ Q) X.xe s
def PW (X : Cx) (e : Expr) (t : TT) : Prop :=
  ∀ (whole : Sem Value) (pins : List (Addr × Obj)) (s : Shared) (σ : St) (H : Hp) (Q : Bool → Hp → Prop), Inv X pins σ H s → t σ H Q → wpAny (model X.prog X.w) X.A (isTrue e X.env whole) (TP X pins σ Q) X.xe s
theorem PW.pt {X : Cx} {e : Expr} {t : TT} (h : PW X e t) : PT X e t := h _
def PAd (X : Cx) (es : List Expr) (t : TA) : Prop :=
  ∀ (pos : Pos) (pins : List (Addr × Obj)) (s : Shared) (σ : St) (H : Hp) (Q : List V → Hp → Prop), Inv X pins σ H s → t σ H Q → wpAny (model X.prog X.w) X.A (spliced (backTo pos (starEach es X.env))) (AP X pins σ Q) X.xe s
structure PA (X : Cx) (es : List Expr) (t : TA) : Prop where
  run : PAd X es t
instance {X : Cx} {es : List Expr} {t : TA} : CoeFun (PA X es t) (fun _ => PAd X es t) := ⟨PA.run⟩
instance {X : Cx} {es : List Expr} {t : TA} : Coe (PA X es t) (PAd X es t) := ⟨PA.run⟩
def PSd (X : Cx) (st : Stmt) (t : TS) : Prop :=
  ∀ (pins : List (Addr × Obj)) (s : Shared) (σ : St) (H : Hp) (D : Ends), Inv X pins σ H s → t D σ H → wpAny (model X.prog X.w) X.A (exec st X.env) (SP X pins D) X.xe s
structure PS (X : Cx) (st : Stmt) (t : TS) : Prop where
  run : PSd X st t
instance {X : Cx} {st : Stmt} {t : TS} : CoeFun (PS X st t) (fun _ => PSd X st t) := ⟨PS.run⟩
instance {X : Cx} {st : Stmt} {t : TS} : Coe (PS X st t) (PSd X st t) := ⟨PS.run⟩
def PSsd (X : Cx) (st : List Stmt) (t : TS) : Prop :=
  ∀ (pins : List (Addr × Obj)) (s : Shared) (σ : St) (H : Hp) (D : Ends), Inv X pins σ H s → t D σ H → wpAny (model X.prog X.w) X.A (execs st X.env) (SP X pins D) X.xe s
structure PSs (X : Cx) (st : List Stmt) (t : TS) : Prop where
  run : PSsd X st t
instance {X : Cx} {st : List Stmt} {t : TS} : CoeFun (PSs X st t) (fun _ => PSsd X st t) := ⟨PSs.run⟩
instance {X : Cx} {st : List Stmt} {t : TS} : Coe (PSs X st t) (PSsd X st t) := ⟨PSs.run⟩
theorem thn {α : Type} {t : Sem α} {Q Q' : α → Shared → Prop} {M : Model} {A : Around} {E : Value → Shared → Prop} {s : Shared} (h : wpAny M A t Q E s) (hQ : ∀ a s, Q a s → Q' a s) : wpAny M A t Q' E s := wpAny_mono h hQ fun _ _ x => x
end L2
namespace L2
open PySem PySem.Spec PyProof.Rows
section
variable {X : Cx}
def tVar (i : Nat) : TE := fun σ H Q => ∃ v, σ[i]? = some (some v) ∧ Q v H
def tC (v : V) : TE := fun _ H Q => Q v H
theorem pe_var {i : Nat} {x : Str} {pos : Pos} (hN : X.N[i]? = some x) (hv : Vis X.env.scope x) (hd : (x == ("__debug__" : Str)) = false := by decide) (hcd : (x == ("__classdict__" : Str)) = false := by decide) : PE X (.Name x pos) (tVar i) := .mk <| by
  intro pins s σ H Q I h
  obtain ⟨v, e, h⟩ := h
  obtain ⟨m, hn, hl⟩ := I.loc
  obtain ⟨u, r, l⟩ := hl i x v hN e hv
  have fin : EP X pins σ Q u s := ⟨v, H, I, r, h⟩
  rcases l with ⟨hk, hm⟩ | ⟨hk, c, hc, hcell⟩
  · exact wpAny_Name (wpAny_loadName_local I.ok.kind hk hn hm fin) hd
  · rcases hk with hk | hk
    · exact wpAny_Name (wpAny_loadName_cell I.ok.kind hk hc hcell fin) hd
    · exact wpAny_Name (wpAny_loadName_free I.ok.kind hk hc hcell fin hcd) hd
theorem pe_int {i j pos} : PE X (.Constant (.int i) j pos) (tC (.int i)) := .mk <| fun _ _ _ H _ I h => wpAny_Constant_int ⟨.int i, H, I.tok _, ⟨_, rfl⟩, h⟩
theorem pe_bl {b j pos} : PE X (.Constant (.bool b) j pos) (tC (.bl b)) := .mk <| fun _ _ _ H _ I h => Constant_bool ⟨.bl b, H, I, rfl, h⟩
theorem pe_non {j pos} : PE X (.Constant .none j pos) (tC .non) := .mk <| fun _ _ _ H _ I h => Constant_none ⟨.non, H, I, rfl, h⟩
theorem pe_str {x j pos} : PE X (.Constant (.str x) j pos) (tC (.str x)) := .mk <| fun _ _ _ H _ I h => Calls.Constant_str ⟨.str x, H, I.tok _, ⟨_, rfl⟩, h⟩
def Gl (X : Cx) (x : Str) : Prop := X.env.kindOf x = some .globalImplicit
theorem ld_glob {E : Value → Shared → Prop} {pins : List (Addr × Obj)} {s : Shared} {σ : St} {H : Hp} {x : Str} {u : Value} {pos : Pos} {Q : Value → Shared → Prop} (I : Inv X pins σ H s) (hg : Gl X x) (hm : X.mg x = some u) (h : Q u s)
    (hd : (x == ("__debug__" : Str)) = false := by decide) : wpAny (model X.prog X.w) X.A (eval (.Name x pos) X.env) Q E s :=
  Calls.Name_function_global I.ok.kind hg (Calls.loadGlobal_global (by rw [I.ok.glob]; exact I.mod.glob.keeps I.bk) hm h) hd
theorem ld_blt {E : Value → Shared → Prop} {pins : List (Addr × Obj)} {s : Shared} {σ : St} {H : Hp} {x : Str} {u : Value} {pos : Pos} {Q : Value → Shared → Prop} (I : Inv X pins σ H s) (hg : Gl X x) (hm : X.mg x = none) (hv : bootBuiltins x = some u) (h : Q u s)
    (hn : x ≠ "__name__" := by decide) (hd : (x == ("__debug__" : Str)) = false := by decide) : wpAny (model X.prog X.w) X.A (eval (.Name x pos) X.env) Q E s := by
  obtain ⟨mb, h1, h2⟩ := I.mod.blt
  exact Calls.Name_function_global I.ok.kind hg (Calls.loadGlobal_builtin (by rw [I.ok.glob]; exact I.mod.glob.keeps I.bk) hm (by rw [I.ok.blt]; exact h1.keeps I.bk) ((h2 x hn).trans hv) h) hd
theorem pe_glob {x : Str} {v : V} {u : Value} {pos : Pos} (hg : Gl X x) (hm : X.mg x = some u) (r : RelV v u) (hd : (x == ("__debug__" : Str)) = false := by decide) : PE X (.Name x pos) (tC v) := .mk <|
  fun _ _ _ H _ I h => ld_glob I hg hm ⟨v, H, I, r, h⟩ hd
theorem pe_bltn {x : Str} {v : V} {u : Value} {pos : Pos} (hg : Gl X x) (hm : X.mg x = none) (hv : bootBuiltins x = some u) (r : RelV v u) (hn : x ≠ "__name__" := by decide) (hd : (x == ("__debug__" : Str)) = false := by decide) : PE X (.Name x pos) (tC v) := .mk <|
  fun _ _ _ H _ I h => ld_blt I hg hm hv ⟨v, H, I, r, h⟩ hn hd
variable {a b : Expr} {ta tb : TE} {pos : Pos}
variable {tA tB' : TT} {rest : List Expr}
def tOr (t u : TT) : TT := fun σ H Q => t σ H fun c H1 => if c = true then Q true H1 else u σ H1 Q
def tNot (t : TT) : TT := fun σ H Q => t σ H fun c H1 => Q (!c) H1
theorem pw_or1 (ha : PT X a tA) : PW X (.BoolOp .Or [a] pos) tA := by
  intro wh pins s σ H Q I h
  refine isTrue_or (thn (ha pins s σ H Q I h) fun c s1 e => ?_)
  cases c with
  | false => exact isTrue_or_nil e
  | true => exact e
theorem pw_or (ha : PT X a tA) (hb : PW X (.BoolOp .Or (b :: rest) pos) tB') : PW X (.BoolOp .Or (a :: b :: rest) pos) (tOr tA tB') := by
  intro wh pins s σ H Q I h
  refine isTrue_or (thn (ha pins s σ H _ I h) fun c s1 ⟨H1, I1, q1⟩ => ?_)
  cases c with
  | true => exact ⟨H1, I1, q1⟩
  | false => exact hb wh pins s1 σ H1 Q I1 q1
theorem pt_not (ha : PT X a tA) : PT X (.UnaryOp .Not a pos) (tNot tA) := by
  intro pins s σ H Q I h
  exact isTrue_not (ha pins s σ H (fun c H1 => Q (!c) H1) I h)
theorem pe_one {op} {t : TE} (h : PE X a t) : PE X (.BoolOp op [a] pos) t := .mk <| fun pins s σ H Q I hw => BoolOp_one (h pins s σ H Q I hw)
end
end L2
namespace L2
open PySem PySem.Spec PyProof.Rows
def SqL (K : PySem.W.Frag) (H : Hp) (a : Addr) (xs : List V) : Prop :=
  Rd H a (.lst xs) ∨
    ∃ (o : Obj) (its : Array Value) (n : Nat), K.lookup a = some o ∧ o.cls = .type "list" ∧ o.dict = none ∧ o.data = .seq its n ∧ its.size ≤ sizeLine ∧ Vals xs its.toList
def SqT (K : PySem.W.Frag) (H : Hp) (a : Addr) (xs : List V) : Prop :=
  Rd H a (.tup xs) ∨
    ∃ (o : Obj) (its : Array Value) (n : Nat), K.lookup a = some o ∧ o.cls = .type "tuple" ∧ o.data = .seq its n ∧ its.size ≤ sizeLine ∧ Vals xs its.toList
def absV : Value → Option V
  | .none => some .non
  | .bool b => some (.bl b)
  | .int i _ => some (.int i)
  | .str x _ => some (.str x)
  | .bytes b _ => some (.byt b)
  | .float b _ => some (.flt b)
  | .ref a => some (.ref a)
  | .type n => some (.ty n)
  | _ => none
theorem RelV.abs {x : V} {u : Value} (r : RelV x u) : absV u = some x := by
  cases x with
  | non => cases r; rfl
  | bl _ => cases r; rfl
  | int _ => obtain ⟨t, rfl⟩ := r; rfl
  | str _ => obtain ⟨t, rfl⟩ := r; rfl
  | byt _ => obtain ⟨t, rfl⟩ := r; rfl
  | flt _ => obtain ⟨t, rfl⟩ := r; rfl
  | ref _ => cases r; rfl
  | ty _ => cases r; rfl
theorem RelV.inj {x y : V} {u : Value} (r : RelV x u) (q : RelV y u) : x = y := Option.some.inj (r.abs.symm.trans q.abs)
theorem Vals.inj : ∀ {xs ys : List V} {us : List Value}, Vals xs us → Vals ys us → xs = ys
  | _, _, _, .nil, .nil => rfl
  | _, _, _, .cons r t, .cons r' t' => by rw [r.inj r', Vals.inj t t']
section
variable {X : Cx} {pins : List (Addr × Obj)} {σ : St} {H : Hp} {s : Shared} {a : Addr} {xs ys : List V}
theorem SqL.of {K : PySem.W.Frag} (h : H a = some (.lst xs)) : SqL K H a xs := .inl (.inl h)
theorem SqT.of {K : PySem.W.Frag} (h : H a = some (.tup xs)) : SqT K H a xs := .inl (.inl h)
theorem Inv.list (I : Inv X pins σ H s) (h : SqL X.K H a xs) : ∃ its : List Value, Vals xs its ∧ PlainL s.heap a its.toArray ∧ xs.length ≤ sizeLine := by
  rcases h with h | ⟨o, its, n, hk, hc, hd, hs, hz, r⟩
  · obtain ⟨z, its, n, r, e⟩ := h.ok I.hok
    exact ⟨its, r, ⟨_, n, e, rfl, rfl, rfl⟩, z⟩
  · refine ⟨its.toList, r, ⟨o, n, I.kIn a o hk, hc, hd, by simpa using hs⟩, ?_⟩
    have e := r.length
    simp only [Array.length_toList] at e
    omega
theorem Inv.tuple (I : Inv X pins σ H s) (h : SqT X.K H a xs) : ∃ its : List Value, Vals xs its ∧ IsTup s.heap a its.toArray ∧ xs.length ≤ sizeLine := by
  rcases h with h | ⟨o, its, n, hk, hc, hs, hz, r⟩
  · obtain ⟨z, its, r, p⟩ := h.ok I.hok
    exact ⟨its, r, p, z⟩
  · refine ⟨its.toList, r, ⟨o, I.kIn a o hk, hc, n, by simpa using hs⟩, ?_⟩
    have e := r.length
    simp only [Array.length_toList] at e
    omega
theorem Inv.list_inj (I : Inv X pins σ H s) (h : SqL X.K H a xs) (h' : SqL X.K H a ys) : xs = ys := by
  obtain ⟨its, r, ⟨o, n, e, _, _, d⟩, _⟩ := I.list h
  obtain ⟨its', r', ⟨o', n', e', _, _, d'⟩, _⟩ := I.list h'
  rw [e] at e'; cases e'
  rw [d] at d'
  injection d' with d1 _
  have : its = its' := by simpa using congrArg Array.toList d1
  subst this
  exact r.inj r'
theorem Inv.tuple_inj (I : Inv X pins σ H s) (h : SqT X.K H a xs) (h' : SqT X.K H a ys) : xs = ys := by
  obtain ⟨its, r, ⟨o, e, _, n, d⟩, _⟩ := I.tuple h
  obtain ⟨its', r', ⟨o', e', _, n', d'⟩, _⟩ := I.tuple h'
  rw [e] at e'; cases e'
  rw [d] at d'
  injection d' with d1 _
  have : its = its' := by simpa using congrArg Array.toList d1
  subst this
  exact r.inj r'
end
abbrev Cx.wish (X : Cx) (E : Value → Shared → Prop) : Cx := { X with xe := E }
abbrev Cx.nox (X : Cx) : Cx := X.wish fun _ _ => False
theorem Cx.Ok.wish {X : Cx} (ok : X.Ok) (E : Value → Shared → Prop) : (X.wish E).Ok :=
  ⟨ok.mod, ok.kind, ok.glob, ok.blt, ok.above, ok.inj, ok.has, ok.cab, ok.hd, ok.frames, ok.stk, ok.exf, ok.bs, ok.bsz, ok.noex, ok.exfs, ok.funs, ok.frf, ok.tt⟩
theorem Cx.Ok.unwish {X : Cx} {E : Value → Shared → Prop} (ok : (X.wish E).Ok) : X.Ok :=
  ⟨ok.mod, ok.kind, ok.glob, ok.blt, ok.above, ok.inj, ok.has, ok.cab, ok.hd, ok.frames, ok.stk, ok.exf, ok.bs, ok.bsz, ok.noex, ok.exfs, ok.funs, ok.frf, ok.tt⟩
section
variable {X : Cx} {pins : List (Addr × Obj)} {σ : St} {H : Hp} {s : Shared} {E : Value → Shared → Prop}
theorem Inv.wish (I : Inv X pins σ H s) (E : Value → Shared → Prop) : Inv (X.wish E) pins σ H s := ⟨I.ok.wish E, I.os, I.bare, I.base, I.loc, I.cell, I.free, I.freeC, I.pin, I.hok, I.len⟩
theorem Inv.unwish (I : Inv (X.wish E) pins σ H s) : Inv X pins σ H s := ⟨I.ok.unwish, I.os, I.bare, I.base, I.loc, I.cell, I.free, I.freeC, I.pin, I.hok, I.len⟩
theorem SP.unwish {D : Ends} {f : Flow} {s' : Shared} (h : SP (X.wish E) pins D f s') : SP X pins D f s' := by
  cases f with
  | next => obtain ⟨σ', H', I, q⟩ := h; exact ⟨σ', H', I.unwish, q⟩
  | brk => obtain ⟨σ', H', I, q⟩ := h; exact ⟨σ', H', I.unwish, q⟩
  | cont => obtain ⟨σ', H', I, q⟩ := h; exact ⟨σ', H', I.unwish, q⟩
  | ret u => obtain ⟨v, σ', H', I, r, q⟩ := h; exact ⟨v, σ', H', I.unwish, r, q⟩
theorem PE.nox {e : Expr} {t : TE} (h : PE X.nox e t) : PE X e t := .mk <| fun pins s σ H Q I hw =>
  wpAny_mono (h pins s σ H Q (I.wish _) hw) (fun _ _ ⟨v, H', I', r, q⟩ => ⟨v, H', I'.unwish, r, q⟩) fun _ _ z => False.elim z
theorem PT.nox {e : Expr} {t : TT} (h : PT X.nox e t) : PT X e t := fun pins s σ H Q I hw =>
  wpAny_mono (h pins s σ H Q (I.wish _) hw) (fun _ _ ⟨H', I', q⟩ => ⟨H', I'.unwish, q⟩) fun _ _ z => False.elim z
theorem PSs.nox {st : List Stmt} {t : TS} (h : PSs X.nox st t) : PSs X st t := .mk <| fun pins s σ H D I hw =>
  wpAny_mono (h pins s σ H D (I.wish _) hw) (fun _ _ q => q.unwish) fun _ _ z => False.elim z
end
section
variable {X : Cx} {st : Stmt} {rest : List Stmt} {t u : TS} {e : Expr} {te : TE} {pos : Pos}
def tNext : TS := fun D σ H => D.nx σ H
def tSeq (t u : TS) : TS := fun D σ H => t { D with nx := u D } σ H
theorem pss_nil : PSs X [] tNext := .mk <| fun _ _ σ H _ I h => wpAny_execs_nil ⟨σ, H, I, h⟩
theorem pss_cons (h1 : PS X st t) (h2 : PSs X rest u) : PSs X (st :: rest) (tSeq t u) := .mk <| by
  intro pins s σ H D I h
  refine wpAny_execs_cons (thn (h1 pins s σ H { D with nx := u D } I h) fun f s1 q => ?_)
  cases f with
  | next =>
    obtain ⟨σ', H', I', q⟩ := q
    exact h2 pins s1 σ' H' D I' q
  | ret v => exact q
  | brk => exact q
  | cont => exact q
theorem pss_one (h1 : PS X st t) : PSs X [st] t := .mk <| by
  intro pins s σ H D I h
  refine wpAny_execs_cons (thn (h1 pins s σ H D I h) fun f s1 q => ?_)
  cases f with
  | next => exact wpAny_execs_nil q
  | ret v => exact q
  | brk => exact q
  | cont => exact q
theorem Inv.quiet {pins : List (Addr × Obj)} {σ : St} {H : Hp} {s : Shared} (I : Inv X pins σ H s) : interactive X.env = false := by simp [interactive, I.ok.kind]
def tDrop (te : TE) : TS := fun D σ H => te σ H fun _ H1 => D.nx σ H1
theorem ps_expr (he : PE X e te) (hs : swapsWith e none pos.line X.env = pure false := by rfl) : PS X (.Expr e pos) (tDrop te) := .mk <| by
  intro pins s σ H D I h
  exact wpAny_Expr_any (thn (he pins s σ H _ I h) fun v s1 ⟨x, H1, I1, r1, q1⟩ => ⟨σ, H1, I1, q1⟩) I.quiet hs
def tRet (te : TE) : TS := fun D σ H => te σ H D.rt
theorem ps_ret (he : PE X e te) : PS X (.Return (some e) pos) (tRet te) := .mk <| by
  intro pins s σ H D I h
  exact wpAny_Return_some (thn (he pins s σ H _ I h) fun v s1 ⟨x, H1, I1, r1, q1⟩ => ⟨x, σ, H1, I1, r1, q1⟩)
def tIfS (c : TT) (t u : TS) : TS := fun D σ H => c σ H fun b H1 => if b = true then t D σ H1 else u D σ H1
theorem ps_if {c : Expr} {a b : List Stmt} {tc : TT} (hc : PT X c tc) (ha : PSs X a t) (hb : PSs X b u) : PS X (.If c a b pos) (tIfS tc t u) := .mk <| by
  intro pins s σ H D I h
  refine wpAny_If (thn (hc pins s σ H _ I h) fun d s1 ⟨H1, I1, q1⟩ => ?_)
  cases d with
  | true => exact ha pins s1 σ H1 D I1 q1
  | false => exact hb pins s1 σ H1 D I1 q1
end
abbrev TG := V → St → Hp → (St → Hp → Prop) → Prop
abbrev TGs := List V → St → Hp → (St → Hp → Prop) → Prop
def PG (X : Cx) (target : Expr) (t : TG) : Prop :=
  ∀ (pins : List (Addr × Obj)) (s : Shared) (σ : St) (H : Hp) (v : V) (u : Value) (Q : St → Hp → Prop), Inv X pins σ H s → RelV v u → t v σ H Q →
    wpAny (model X.prog X.w) X.A (assign target X.env u) (fun _ s' => ∃ σ' H', Inv X pins σ' H' s' ∧ Q σ' H') X.xe s
abbrev TSet := V → V → V → Hp → (Hp → Prop) → Prop
def PSet (X : Cx) (t : TSet) : Prop :=
  ∀ (pins : List (Addr × Obj)) (s : Shared) (σ : St) (H : Hp) (o i v : V) (ov iv u : Value) (Q : Hp → Prop), Inv X pins σ H s → RelV o ov → RelV i iv → RelV v u → t o i v H Q →
    wpAny (model X.prog X.w) X.A (setItem ov iv u) (fun _ s' => ∃ H', Inv X pins σ H' s' ∧ Q H') X.xe s
section
variable {X : Cx} {pos : Pos}
def gName (i : Nat) : TG := fun v σ H Q => Q (σ.set i (some v)) H
theorem pg_name {i : Nat} {x : Str} (hN : X.N.Nodup) (hi : X.N[i]? = some x) (hx : Loc X.env.scope x) (hf : X.fn x = true ∨ X.env.scope.names.lookup x = some .local := by first | exact .inl rfl | exact .inr rfl | assumption) : PG X (.Name x pos) (gName i) := by
  intro pins s σ H v u Q I r h
  exact wpAny_assign_Name (store_ok I hN hi hx r (fun s' I' => ⟨_, H, I', h⟩) hf)
def gSub (to ti : TE) (t : TSet) : TG := fun v σ H Q => to σ H fun o H1 => ti σ H1 fun i H2 => t o i v H2 fun H3 => Q σ H3
theorem pg_sub {o i : Expr} {to ti : TE} {t : TSet} (ho : PE X o to) (hi : PE X i ti) (hs : PSet X t)
    (ha : ∀ v, assign (.Subscript o i pos) X.env v = (do
      let ov ← holding [v] (eval o X.env)
      let iv ← holding [v, ov] (eval i X.env)
      standAt pos
      holding [v, ov, iv] (setItem ov iv v)
      release [v, ov, iv] []) := by intro _; rfl) : PG X (.Subscript o i pos) (gSub to ti t) := by
  intro pins s σ H v u Q I r h
  rw [ha]
  refine wpAny_bind (wpAny_holding (thn (ho pins s σ H _ I h) fun ov s1 ⟨x, H1, I1, r1, q1⟩ => ?_))
  refine wpAny_bind (wpAny_holding (thn (hi pins s1 σ H1 _ I1 q1) fun iv s2 ⟨y, H2, I2, r2, q2⟩ => ?_))
  refine wpAny_bind (wpAny_standAt (wpAny_bind (wpAny_holding (thn (hs pins s2 σ H2 x y v ov iv u _ I2 r1 r2 r q2) fun _ s3 ⟨H3, I3, q3⟩ => ?_))))
  exact wpAny_release ⟨σ, H3, I3, q3⟩
def tAsg (te : TE) (g : TG) : TS := fun D σ H => te σ H fun x H1 => g x σ H1 D.nx
theorem ps_asg {tg e : Expr} {te : TE} {g : TG} (he : PE X e te) (hg : PG X tg g) (hs : swapsWithSole [tg] e pos.line X.env = pure false := by rfl) (hw : swappedStores [tg] e X.env = pure none := by rfl)
    (h1 : (assignEach [tg] X.env).map (·.2) = [assign tg X.env] := by rfl) : PS X (.Assign [tg] e pos) (tAsg te g) := .mk <| by
  intro pins s σ H D I h
  refine wpAny_Assign_stores (thn (he pins s σ H _ I h) fun v s1 ⟨x, H1, I1, r1, q1⟩ => ?_) hs hw
  rw [h1]
  exact thn (hg pins s1 σ H1 x v _ I1 r1 q1) fun _ s2 q => q
theorem ps_set {i : Nat} {x : Str} {e : Expr} {te : TE} {pos' : Pos} (hN : X.N.Nodup) (hi : X.N[i]? = some x) (hx : Loc X.env.scope x) (he : PE X e te) (hs : swapsWith e (some (.Name x pos')) pos.line X.env = pure false := by rfl) (hf : X.fn x = true ∨ X.env.scope.names.lookup x = some .local := by first | exact .inl rfl | exact .inr rfl | assumption) :
    PS X (.Assign [.Name x pos'] e pos) (tAsg te (gName i)) := .mk <| by
  intro pins s σ H D I h
  refine wpAny_Assign_Name (thn (he pins s σ H _ I h) fun v s1 ⟨y, H1, I1, r1, q1⟩ => ?_) hs
  exact store_ok I1 hN hi hx r1 (fun s2 I2 => ⟨_, H1, I2, q1⟩) hf
end
section
variable {X : Cx} {pos : Pos}
end
structure It where
  go : Nat → Hp → Prop
  yld : Nat → Hp → V → Hp → Prop
  stop : Nat → Hp → Prop
def FpOk (X : Cx) (pins : List (Addr × Obj)) (H : Hp) (b : Addr) : Prop :=
  H b = none ∧ b ≠ X.env.locals ∧ b ∉ X.fs ∧ (b ∈ X.ex ∨ X.s₀.heap.objs.size ≤ b) ∧ (∀ x c, X.env.cells.lookup x = some c → c ≠ b) ∧ ∀ p ∈ X.pn ++ pins, p.1 ≠ b
theorem Inv.fpOk {X : Cx} {pins : List (Addr × Obj)} {σ : St} {H H' : Hp} {s : Shared} {b : Addr} (I : Inv X pins σ H s) (hb : s.heap.objs.size ≤ b) (hn : H' b = none) : FpOk X pins H' b := by
  refine ⟨hn, Nat.ne_of_gt (Nat.lt_of_lt_of_le I.lt hb), I.nofs hb, .inr (Nat.le_trans I.sz hb), fun x c e z => ?_, fun p hp z => ?_⟩
  · obtain ⟨v, q⟩ := I.cell x c e
    exact absurd (Nat.lt_of_lt_of_le q.lt (by rw [z]; exact hb)) (Nat.lt_irrefl _)
  · exact absurd (Nat.lt_of_lt_of_le (Heap.lt_size (I.pin p hp).1) (by rw [z]; exact hb)) (Nat.lt_irrefl _)
structure Turn (P : Program) (w : World) (K : PySem.W.Frag) (tg : Expr) (J : It) (fp : List Addr) (it : Addr) (tn : Nat → Heap → Prop) : Prop where
  mem : it ∈ fp
  obj : ∀ i h, tn i h → ∀ b ∈ fp, ∃ o, h.get? b = some o ∧ ∀ v, o.data ≠ .cell v
  keep : ∀ i h h', tn i h → (∀ b ∈ fp, ∀ o, h.get? b = some o → h'.get? b = some o) → tn i h'
  item : ∀ (X : Cx), X.prog = P → X.w = w → X.K = K → X.calm = true → ∀ (i : Nat) (pins : List (Addr × Obj)) (s : Shared) (σ : St) (H : Hp) (E : Value → Shared → Prop), Inv X pins σ H s → (∀ b ∈ fp, FpOk X pins H b) → tn i s.heap → J.go i H →
    wpAny (model P w) X.A (pyNext (.ref it)) (fun r s1 => ∃ u, r = some u ∧
      wpAny (model P w) X.A (letOwnedTupleGo tg (.ref it) u) (fun _ s2 => ∃ x H', Inv X pins σ H' s2 ∧ RelV x u ∧ J.yld i H x H' ∧ tn (i + 1) s2.heap ∧ ∀ b ∈ fp, H' b = none) E s1) E s
  done : ∀ (X : Cx), X.prog = P → X.w = w → X.K = K → X.calm = true → ∀ (i : Nat) (pins : List (Addr × Obj)) (s : Shared) (σ : St) (H : Hp) (E : Value → Shared → Prop), Inv X pins σ H s → (∀ b ∈ fp, FpOk X pins H b) → tn i s.heap → J.stop i H →
    wpAny (model P w) X.A (pyNext (.ref it)) (fun r s1 => r = none ∧ Inv X pins σ H s1) E s
  self : ∀ (A : Around) (i : Nat) (s : Shared) (Q : Value → Shared → Prop) (E : Value → Shared → Prop), tn i s.heap → Q (.ref it) s → wpAny (model P w) A (pyIter (.ref it)) Q E s
abbrev TI := St → Hp → (It → Hp → Prop) → Prop
def PIE (X : Cx) (pins : List (Addr × Obj)) (σ : St) (tg : Expr) (R : It → Hp → Prop) (itv : Value) (s2 : Shared) : Prop :=
  ∃ (it : Addr) (fp : List Addr) (tn : Nat → Heap → Prop) (J : It) (H' : Hp), itv = .ref it ∧ Inv X pins σ H' s2 ∧ Turn X.prog X.w X.K tg J fp it tn ∧ tn 0 s2.heap ∧ (∀ b ∈ fp, FpOk X pins H' b) ∧ R J H'
def PI (X : Cx) (tg iter : Expr) (wi : TI) : Prop :=
  ∀ (pins : List (Addr × Obj)) (s : Shared) (σ : St) (H : Hp) (R : It → Hp → Prop), Inv X pins σ H s → wi σ H R →
    wpAny (model X.prog X.w) X.A (eval iter X.env) (fun v s1 => wpAny (model X.prog X.w) X.A (pyIter v) (PIE X pins σ tg R) X.xe s1) X.xe s
theorem go_of {M : Model} {A : Around} {E : Value → Shared → Prop} {s : Shared} {tg : Expr} {it : Addr} {u : Value} {o : Obj} {n : String} {vs : Array Value} {Q : Unit → Shared → Prop} (ho : s.heap.get? it = some o) (hc : o.cls = .type n) (hd : o.data = .fields vs)
    (hn : ["enumerate", "zip", "dict_itemiterator", "dict_reverseitemiterator", "odict_iterator", "itertools.zip_longest", "itertools.pairwise"].contains n = false) (hQ : Q () s) : wpAny M A (letOwnedTupleGo tg (.ref it) u) Q E s := by
  unfold letOwnedTupleGo
  cases tg <;> first
    | exact wpAny_pure hQ
    | (cases u <;> first
        | exact wpAny_pure hQ
        | (refine wpAny_bind (wpAny_load ho ?_)
           rw [hc, hd]
           show wpAny M A (if (["enumerate", "zip", "dict_itemiterator", "dict_reverseitemiterator", "odict_iterator", "itertools.zip_longest", "itertools.pairwise"].contains n && vs[0]? == some (rawInt _)) = true then _ else _) Q E s
           rw [if_neg (by intro h; rw [hn, Bool.false_and] at h; cases h)]
           exact wpAny_pure hQ))
def Itl (K : PySem.W.Frag) (a : Addr) : It :=
  ⟨fun i H => ∃ xs x, SqL K H a xs ∧ xs[i]? = some x, fun i H x H' => H' = H ∧ ∀ xs, SqL K H a xs → xs[i]? = some x, fun i H => ∃ xs, SqL K H a xs ∧ xs.length ≤ i⟩
def Itt (K : PySem.W.Frag) (a : Addr) : It :=
  ⟨fun i H => ∃ xs x, SqT K H a xs ∧ xs[i]? = some x, fun i H x H' => H' = H ∧ ∀ xs, SqT K H a xs → xs[i]? = some x, fun i H => ∃ xs, SqT K H a xs ∧ xs.length ≤ i⟩
def Itr (lo : Int) (n : Nat) : It := ⟨fun i _ => i < n, fun i H x H' => H' = H ∧ x = .int (lo + i), fun i _ => n ≤ i⟩
theorem turn_list {P : Program} {w : World} {K : PySem.W.Frag} {tg : Expr} (a it : Addr) : Turn P w K tg (Itl K a) [it] it (fun i h => h.IsListIter it a i) where
  mem := by simp
  obj := fun i h st b hb => by
    have e : b = it := by simpa using hb
    subst e
    obtain ⟨o, e, c, d⟩ := st
    exact ⟨o, e, fun v z => by rw [d] at z; cases z⟩
  keep := fun i h h' st k => st.at fun o e => k it (by simp) o e
  item := by
    intro X hP hw hK hc i pins s σ H E I hf st hg
    subst hP hw hK
    obtain ⟨xs, x, hq, hx⟩ := hg
    obtain ⟨its, rv, p, hz⟩ := I.list hq
    obtain ⟨u, hu, ru⟩ := rv.get hx
    obtain ⟨f0, f1, f2, f3, f4, f5⟩ := hf it (by simp)
    refine wpAny_pyNext_list_item st p.isList (x := u) (by simpa using hu) fun h' st' sb => ?_
    have I1 : Inv X pins σ H { s with heap := h' } := I.turned (t' := s.toks) (fun b o hb e => (sb.2 b hb).trans e) f0 f1 f3 f4 f5
    obtain ⟨o, e, c, d⟩ := id st'
    exact ⟨u, rfl, go_of (s := { s with heap := h' }) e c d (by decide) ⟨x, H, I1, ru, ⟨rfl, fun ys hy => by rw [I.list_inj hy hq]; exact hx⟩, st', fun b hb => (hf b hb).1⟩⟩
  done := by
    intro X hP hw hK hc i pins s σ H E I hf st hg
    subst hP hw hK
    obtain ⟨xs, hq, hx⟩ := hg
    obtain ⟨its, rv, p, hz⟩ := I.list hq
    obtain ⟨f0, f1, f2, f3, f4, f5⟩ := hf it (by simp)
    have hl := rv.length
    exact wpAny_pyNext_list_end (I.ok.hd hc) st p.isList (by simp; omega) fun h' eb => ⟨rfl, I.turned (t' := s.toks) (fun b o hb e => eb b o hb e) f0 f1 f3 f4 f5⟩
  self := fun _ _ _ _ _ st h => wpAny_pyIter_listiter st h
theorem turn_tuple {P : Program} {w : World} {K : PySem.W.Frag} {tg : Expr} (a it : Addr) : Turn P w K tg (Itt K a) [it] it (fun i h => h.IsTupleIter it a i) where
  mem := by simp
  obj := fun i h st b hb => by
    have e : b = it := by simpa using hb
    subst e
    obtain ⟨o, e, c, d⟩ := st
    exact ⟨o, e, fun v z => by rw [d] at z; cases z⟩
  keep := fun i h h' st k => st.at fun o e => k it (by simp) o e
  item := by
    intro X hP hw hK hc i pins s σ H E I hf st hg
    subst hP hw hK
    obtain ⟨xs, x, hq, hx⟩ := hg
    obtain ⟨its, rv, p, hz⟩ := I.tuple hq
    obtain ⟨u, hu, ru⟩ := rv.get hx
    obtain ⟨f0, f1, f2, f3, f4, f5⟩ := hf it (by simp)
    refine wpAny_pyNext_tuple_item st (show s.heap.IsTuple a its.toArray from p) (x := u) (by simpa using hu) fun h' st' sb => ?_
    have I1 : Inv X pins σ H { s with heap := h' } := I.turned (t' := s.toks) (fun b o hb e => (sb.2 b hb).trans e) f0 f1 f3 f4 f5
    obtain ⟨o, e, c, d⟩ := id st'
    exact ⟨u, rfl, go_of (s := { s with heap := h' }) e c d (by decide) ⟨x, H, I1, ru, ⟨rfl, fun ys hy => by rw [I.tuple_inj hy hq]; exact hx⟩, st', fun b hb => (hf b hb).1⟩⟩
  done := by
    intro X hP hw hK hc i pins s σ H E I hf st hg
    subst hP hw hK
    obtain ⟨xs, hq, hx⟩ := hg
    obtain ⟨its, rv, p, hz⟩ := I.tuple hq
    obtain ⟨f0, f1, f2, f3, f4, f5⟩ := hf it (by simp)
    have hl := rv.length
    exact wpAny_pyNext_tuple_end (I.ok.hd hc) st (show s.heap.IsTuple a its.toArray from p) (by simp; omega) fun h' eb => ⟨rfl, I.turned (t' := s.toks) (fun b o hb e => eb b o hb e) f0 f1 f3 f4 f5⟩
  self := fun _ _ _ _ _ st h => wpAny_pyIter_tupleiter st h
theorem turn_range {P : Program} {w : World} {K : PySem.W.Frag} {tg : Expr} (it : Addr) (lo : Int) (n : Nat) : Turn P w K tg (Itr lo n) [it] it (fun i h => IsRangeIter h it (lo + (i : Nat) * 1) ((n : Int) - (i : Nat)) 1) where
  mem := by simp
  obj := fun i h st b hb => by
    have e : b = it := by simpa using hb
    subst e
    exact ⟨_, st, fun v z => by
      have z' : Data.fields _ = Data.cell v := z
      cases z'⟩
  keep := fun i h h' st k => k it (by simp) _ st
  item := by
    intro X hP hw hK hc i pins s σ H E I hf st hg
    subst hP hw hK
    obtain ⟨f0, f1, f2, f3, f4, f5⟩ := hf it (by simp)
    have W := Walks.range (prog := X.prog) (w := X.w) (I.ok.hd hc) it lo 1 n
    refine W.item i s _ _ hg st fun v h' tk hv st' kk => ?_
    obtain ⟨t, rfl⟩ := hv
    have I1 : Inv X pins σ H { s with heap := h', toks := tk } := I.turned (fun b o hb e => kk b o (by simpa using hb) e) f0 f1 f3 f4 f5
    refine ⟨_, rfl, go_of (s := { s with heap := h', toks := tk }) (n := "range_iterator") st' rfl rfl (by decide) ⟨.int (lo + i), H, I1, ⟨t, ?_⟩, ⟨rfl, rfl⟩, st', fun b hb => (hf b hb).1⟩⟩
    rw [Int.mul_one]
  done := by
    intro X hP hw hK hc i pins s σ H E I hf st hg
    subst hP hw hK
    obtain ⟨f0, f1, f2, f3, f4, f5⟩ := hf it (by simp)
    exact wpAny_pyNext_range_end (I.ok.hd hc) st (by have : n ≤ i := hg; omega) fun h' eb => ⟨rfl, I.turned (t' := s.toks) (fun b o hb e => eb b o hb e) f0 f1 f3 f4 f5⟩
  self := fun _ _ _ _ _ st h => wpAny_pyIter_rangeiter st h
end L2
namespace L2
open PySem PySem.Spec PyProof.Rows
section
variable {X : Cx} {tg : Expr}
theorem range_it {pins : List (Addr × Obj)} {σ : St} {H : Hp} {s : Shared} {R : It → Hp → Prop} {E : Value → Shared → Prop} {lo hi : Int} {t u v : Tok} {tk : Nat} (I : Inv X pins σ H s) (h1 : -(2 ^ 62) ≤ lo) (h2 : lo < 2 ^ 62) (h3 : -(2 ^ 62) ≤ hi) (h4 : hi < 2 ^ 62)
    (q : R (Itr lo (hi - lo).toNat) H) : wpAny (model X.prog X.w) X.A (pyIter (.ref s.heap.objs.size)) (PIE X pins σ tg R) E { s with heap := s.heap.push { cls := .type "range", data := .fields #[.int lo t, .int hi u, .int 1 v] }, toks := tk } := by
  refine wpAny_pyIter_range (IsRange.new ..) (small_one h1 h2 h3 h4) ?_
  have I1 : Inv X pins σ H { s with heap := s.heap.push { cls := .type "range", data := .fields #[.int lo t, .int hi u, .int 1 v] }, toks := tk } := I.kept fun b o e => Heap.get?_push_of_some _ e
  refine ⟨(s.heap.push { cls := .type "range", data := .fields #[.int lo t, .int hi u, .int 1 v] }).objs.size, [(s.heap.push { cls := .type "range", data := .fields #[.int lo t, .int hi u, .int 1 v] }).objs.size], _, _, H, rfl,
    I1.kept (t' := tk) fun b o e => Heap.get?_push_of_some _ e, turn_range _ lo (hi - lo).toNat, ?_, fun b hb => ?_, q⟩
  · have e1 : lo + ((0 : Nat) : Int) * 1 = lo := by simp
    have e2 : (((hi - lo).toNat : Nat) : Int) - ((0 : Nat) : Int) = Builtin.Range.rangeSize lo hi 1 := by rw [rangeSize_one]; split <;> omega
    show IsRangeIter _ _ (lo + ((0 : Nat) : Int) * 1) ((((hi - lo).toNat : Nat) : Int) - ((0 : Nat) : Int)) 1
    rw [e1, e2]
    exact Heap.get?_push_size _ rfl
  · have e : b = (s.heap.push { cls := .type "range", data := .fields #[.int lo t, .int hi u, .int 1 v] }).objs.size := by simpa using hb
    subst e
    exact I1.fpOk (Nat.le_refl _) (I1.hok.fresh (Nat.le_refl _))
def iRng1 (ta : TA) : TI := fun σ H R => ta σ H fun vs H1 => ∃ j : Int, vs = [.int j] ∧ -(2 ^ 62) ≤ j ∧ j < 2 ^ 62 ∧ R (Itr 0 j.toNat) H1
theorem pi_range1 {a : Expr} {ta : TA} {p pos : Pos} (hg : Gl X "range") (hm : X.mg "range" = none) (ha : PA X [a] ta) (hs : starEach [a] X.env = [(false, eval a X.env)] := by rfl) : PI X tg (.Call (.Name "range" p) [a] [] pos) (iRng1 ta) := by
  intro pins s σ H R I h
  refine Call_ (ld_blt I hg hm boot_range (PyProof.Rows.callWith_type1 (thn (ha pos pins s σ H _ I h) fun us s1 ⟨vs, H1, I1, r1, q1⟩ => ?_) hs rfl))
  obtain ⟨j, e, q1, q2, q⟩ := q1
  subst e
  cases r1 with
  | cons r rr =>
    cases rr
    obtain ⟨t, rfl⟩ := r
    exact call_range_1 (range_it I1 (by omega) (by omega) q1 q2 (by simpa using q))
def tFor (wi : TI) (g : TG) (tb : TS) : TS := fun D σ H => wi σ H fun J H1 => ∃ W : Nat → Nat → St → Hp → Prop, (∃ m, W 0 m σ H1) ∧ ∀ i m σ H, W i m σ H →
  (J.stop i H ∧ D.nx σ H) ∨ (J.go i H ∧ ∃ N : St → Hp → Prop, (∀ σ' H', N σ' H' → ∃ m', m' < m ∧ W (i + 1) m' σ' H') ∧ ∀ x H', J.yld i H x H' → g x σ H' fun σ2 H2 => tb { D with nx := N, ct := N, bk := D.nx } σ2 H2)
def pinsAt (fp : List Addr) (h : Heap) : List (Addr × Obj) := fp.filterMap fun b => (h.get? b).map fun o => (b, o)
theorem mem_pinsAt {fp : List Addr} {h : Heap} {b : Addr} {o : Obj} (hb : b ∈ fp) (e : h.get? b = some o) : (b, o) ∈ pinsAt fp h := List.mem_filterMap.mpr ⟨b, hb, by rw [e]; rfl⟩
theorem of_pinsAt {fp : List Addr} {h : Heap} {p : Addr × Obj} (hp : p ∈ pinsAt fp h) : p.1 ∈ fp ∧ h.get? p.1 = some p.2 := by
  obtain ⟨b, hb, e⟩ := List.mem_filterMap.mp hp
  cases q : h.get? b with
  | none => rw [q] at e; cases e
  | some o =>
    rw [q] at e
    have e' : (b, o) = p := Option.some.inj e
    subst e'
    exact ⟨hb, q⟩
theorem Inv.pinned {pins : List (Addr × Obj)} {σ : St} {H : Hp} {s : Shared} {fp : List Addr} (I : Inv X pins σ H s) (hf : ∀ b ∈ fp, FpOk X pins H b) (ho : ∀ b ∈ fp, ∃ o, s.heap.get? b = some o ∧ ∀ v, o.data ≠ .cell v) : Inv X (pins ++ pinsAt fp s.heap) σ H s :=
  I.pins_of fun p hp => (List.mem_append.mp hp).elim (fun z => I.pin p (List.mem_append_right _ z)) fun z => by
    obtain ⟨hb, e⟩ := of_pinsAt z
    obtain ⟨f0, f1, f2, _⟩ := hf p.1 hb
    obtain ⟨o, e', d⟩ := ho p.1 hb
    rw [e] at e'; cases e'
    exact ⟨e, f0, f1, f2, d⟩
theorem Inv.unpinned {pins pl : List (Addr × Obj)} {σ : St} {H : Hp} {s : Shared} (I : Inv X (pins ++ pl) σ H s) : Inv X pins σ H s := I.pins_of fun p hp => I.pin p (List.mem_append_right _ (List.mem_append_left _ hp))
theorem ps_for {iter : Expr} {body : List Stmt} {wi : TI} {g : TG} {tb : TS} {pos : Pos} (hp : PassesOwn (model X.prog X.w) X.A X.env X.xe) (hc : X.calm = true) (hi : PI X tg iter wi) (hg : PG X tg g) (hb : PSs X body tb)
    (hs : ∀ x, foldedSetIterable iter X.env x = pure x := by intro _; rfl) : PS X (.For tg iter body [] pos) (tFor wi g tb) := .mk <| by
  intro pins s σ H D I h
  refine wpAny_For (thn (hi pins s σ H _ I h) fun v s1 h1 => thn h1 fun itv s2 h2 => ?_) hs
  obtain ⟨it, fp, tn, J, H2, e, I2, T, st2, f2, W, ⟨m0, w0⟩, turn⟩ := h2
  subst e
  have stat : ∀ {H' : Hp}, (∀ b ∈ fp, H' b = none) → ∀ b ∈ fp, FpOk X pins H' b := fun hn b hb => ⟨hn b hb, (f2 b hb).2⟩
  refine codeAny_forLoop_any (fun n s' => ∃ i σ' H', Inv X pins σ' H' s' ∧ tn i s'.heap ∧ (∀ b ∈ fp, H' b = none) ∧ W i n σ' H') ?_ m0 ⟨0, σ, H2, I2, st2, fun b hb => (f2 b hb).1, w0⟩
  rintro n s3 ⟨i, σ3, H3, I3, st3, fr3, w3⟩
  rcases turn i n σ3 H3 w3 with ⟨stop, qn⟩ | ⟨go, N, hN, step⟩
  · refine wpAny_passesOwn hp (thn (T.done X rfl rfl rfl hc i pins s3 σ3 H3 X.xe I3 (stat fr3) st3 stop) fun r s4 ⟨hr, I4⟩ => ?_)
    subst hr
    exact wpAny_execs_nil ⟨σ3, H3, I4, qn⟩
  · refine wpAny_passesOwn hp (thn (T.item X rfl rfl rfl hc i pins s3 σ3 H3 X.xe I3 (stat fr3) st3 go) fun r s4 ⟨u, hr, h4⟩ => ?_)
    subst hr
    refine wpAny_passesOwn hp (thn h4 fun _ s5 ⟨x, H5, I5, r5, y5, st5, fr5⟩ => ?_)
    have I5' := I5.pinned (stat fr5) (T.obj _ _ st5)
    refine wpAny_passesOwn hp (thn (hg _ s5 σ3 H5 x u _ I5' r5 (step x H5 y5)) fun _ s6 ⟨σ6, H6, I6, q6⟩ => ?_)
    refine wpAny_passesOwn hp (thn (hb _ s6 σ6 H6 _ I6 q6) fun f s7 q7 => ?_)
    have again : ∀ {σ7 : St} {H7 : Hp}, Inv X (pins ++ pinsAt fp s5.heap) σ7 H7 s7 → N σ7 H7 → ∃ m, m < n ∧ ∃ i σ' H', Inv X pins σ' H' s7 ∧ tn i s7.heap ∧ (∀ b ∈ fp, H' b = none) ∧ W i m σ' H' := fun {σ7 H7} I7 n7 => by
      obtain ⟨m', hm, w7⟩ := hN σ7 H7 n7
      refine ⟨m', hm, i + 1, σ7, H7, I7.unpinned, T.keep _ _ _ st5 fun b hb o e => (I7.pin (b, o) (List.mem_append_right _ (List.mem_append_right _ (mem_pinsAt hb e)))).1, fun b hb => ?_, w7⟩
      obtain ⟨o, e, d⟩ := T.obj _ _ st5 b hb
      exact (I7.pin (b, o) (List.mem_append_right _ (List.mem_append_right _ (mem_pinsAt hb e)))).2.1
    cases f with
    | next => obtain ⟨σ7, H7, I7, n7⟩ := q7; exact again I7 n7
    | cont => obtain ⟨σ7, H7, I7, n7⟩ := q7; exact again I7 n7
    | brk => obtain ⟨σ7, H7, I7, q7⟩ := q7; exact ⟨σ7, H7, I7.unpinned, q7⟩
    | ret v => obtain ⟨x7, σ7, H7, I7, r7, q7⟩ := q7; exact ⟨x7, σ7, H7, I7.unpinned, r7, q7⟩
end
end L2
namespace L2
open PySem PySem.Spec PyProof.Rows
abbrev R2 := V → V → Hp → VK → Prop
def OpR (X : Cx) (f : Value → Value → Sem Value) (r : R2) : Prop :=
  ∀ (pins : List (Addr × Obj)) (s : Shared) (σ : St) (H : Hp) (x y : V) (v u : Value) (Q : VK), Inv X pins σ H s → RelV x v → RelV y u → r x y H Q →
    wpAny (model X.prog X.w) X.A (f v u) (EP X pins σ Q) X.xe s
def UnR (X : Cx) (f : Value → Sem Value) (r : V → Hp → VK → Prop) : Prop :=
  ∀ (pins : List (Addr × Obj)) (s : Shared) (σ : St) (H : Hp) (x : V) (v : Value) (Q : VK), Inv X pins σ H s → RelV x v → r x H Q →
    wpAny (model X.prog X.w) X.A (f v) (EP X pins σ Q) X.xe s
def CallR (X : Cx) (f : Value) (r : List V → Hp → VK → Prop) : Prop :=
  ∀ (pins : List (Addr × Obj)) (s : Shared) (σ : St) (H : Hp) (xs : List V) (us : List Value) (Q : VK), Inv X pins σ H s → Vals xs us → r xs H Q →
    wpAny (model X.prog X.w) X.A (call f us) (EP X pins σ Q) X.xe s
def TruR (X : Cx) (r : V → Hp → (Bool → Hp → Prop) → Prop) : Prop :=
  ∀ (pins : List (Addr × Obj)) (s : Shared) (σ : St) (H : Hp) (x : V) (v : Value) (Q : Bool → Hp → Prop), Inv X pins σ H s → RelV x v → r x H Q →
    wpAny (model X.prog X.w) X.A (truthy v) (TP X pins σ Q) X.xe s
def tOp (r : R2) (ta tb : TE) : TE := fun σ H Q => ta σ H fun x H1 => tb σ H1 fun y H2 => r x y H2 Q
def tUn (r : V → Hp → VK → Prop) (ta : TE) : TE := fun σ H Q => ta σ H fun x H1 => r x H1 Q
def rI (C : Int → Int → Prop) (g : Int → Int → V) : R2 := fun x y H Q => ∃ i j, x = .int i ∧ y = .int j ∧ C i j ∧ Q (g i j) H
def rI0 (g : Int → Int → V) : R2 := fun x y H Q => ∃ i j, x = .int i ∧ y = .int j ∧ Q (g i j) H
def rU (g : Int → V) : V → Hp → VK → Prop := fun x H Q => ∃ i, x = .int i ∧ Q (g i) H
section
variable {X : Cx} {a b c : Expr} {ta tb tc : TE} {pos : Pos}
theorem binT (ha : PE X a ta) (hb : PE X b tb) {pins : List (Addr × Obj)} {s : Shared} {σ : St} {H : Hp} {R : V → V → Hp → Prop} (I : Inv X pins σ H s)
    (h : ta σ H fun x H1 => tb σ H1 fun y H2 => R x y H2) {Q : Value → Shared → Prop} {f : Value → Value → Sem Value}
    (hf : ∀ v u s2 x y H2, Inv X pins σ H2 s2 → RelV x v → RelV y u → R x y H2 → wpAny (model X.prog X.w) X.A (f v u) Q X.xe s2) :
    wpAny (model X.prog X.w) X.A (eval a X.env) (fun v s₁ => wpAny (model X.prog X.w) X.A (eval b X.env) (fun u s₂ => wpAny (model X.prog X.w) X.A (f v u) Q X.xe s₂) X.xe s₁) X.xe s := by
  refine thn (ha pins s σ H _ I h) fun v s1 ⟨x, H1, I1, r1, q1⟩ => ?_
  refine thn (hb pins s1 σ H1 _ I1 q1) fun u s2 ⟨y, H2, I2, r2, q2⟩ => ?_
  exact hf v u s2 x y H2 I2 r1 r2 q2
theorem pe_op {op : Operator} {r : R2} (ho : OpR X (binaryOp op) r) (ha : PE X a ta) (hb : PE X b tb) : PE X (.BinOp a op b pos) (tOp r ta tb) := .mk <| by
  intro pins s σ H Q I h
  exact wpAny_BinOp (binT ha hb I h fun v u s2 x y H2 I2 rx ry q => ho pins s2 σ H2 x y v u Q I2 rx ry q)
theorem pe_un {op : UnaryOp} {r : V → Hp → VK → Prop} (ho : UnR X (unaryOp op) r) (ha : PE X a ta) : PE X (.UnaryOp op a pos) (tUn r ta) := .mk <| by
  intro pins s σ H Q I h
  exact UnaryOp_ (thn (ha pins s σ H _ I h) fun v s1 ⟨x, H1, I1, r1, q1⟩ => ho pins s1 σ H1 x v Q I1 r1 q1)
theorem opI {f : Value → Value → Sem Value} {C : Int → Int → Prop} {g : Int → Int → Int}
    (rule : ∀ (i j : Int) (t u : Tok) (s : Shared) (Q : Value → Shared → Prop) (E : Value → Shared → Prop), C i j → Q (.int (g i j) s.toks) { s with toks := s.toks + 1 } → wpAny (model X.prog X.w) X.A (f (.int i t) (.int j u)) Q E s) :
    OpR X f (rI C fun i j => .int (g i j)) := by
  intro pins s σ H x y v u Q I rx ry h
  obtain ⟨i, j, rfl, rfl, hc, q⟩ := h
  obtain ⟨t, rfl⟩ := rx
  obtain ⟨t', rfl⟩ := ry
  exact rule i j t t' s _ _ hc ⟨.int (g i j), H, I.tok _, ⟨_, rfl⟩, q⟩
theorem opI0 {f : Value → Value → Sem Value} {g : Int → Int → Int}
    (rule : ∀ (i j : Int) (t u : Tok) (s : Shared) (Q : Value → Shared → Prop) (E : Value → Shared → Prop), Q (.int (g i j) s.toks) { s with toks := s.toks + 1 } → wpAny (model X.prog X.w) X.A (f (.int i t) (.int j u)) Q E s) :
    OpR X f (rI0 fun i j => .int (g i j)) := by
  intro pins s σ H x y v u Q I rx ry h
  obtain ⟨i, j, rfl, rfl, q⟩ := h
  obtain ⟨t, rfl⟩ := rx
  obtain ⟨t', rfl⟩ := ry
  exact rule i j t t' s _ _ ⟨.int (g i j), H, I.tok _, ⟨_, rfl⟩, q⟩
theorem opB0 {f : Value → Value → Sem Value} {g : Int → Int → Bool}
    (rule : ∀ (i j : Int) (t u : Tok) (s : Shared) (Q : Value → Shared → Prop) (E : Value → Shared → Prop), Q (.bool (g i j)) s → wpAny (model X.prog X.w) X.A (f (.int i t) (.int j u)) Q E s) :
    OpR X f (rI0 fun i j => .bl (g i j)) := by
  intro pins s σ H x y v u Q I rx ry h
  obtain ⟨i, j, rfl, rfl, q⟩ := h
  obtain ⟨t, rfl⟩ := rx
  obtain ⟨t', rfl⟩ := ry
  exact rule i j t t' s _ _ ⟨.bl (g i j), H, I, rfl, q⟩
def CDiv (i j : Int) : Prop := 0 < j ∧ j < 1073741824
def CPow (i j : Int) : Prop := 0 ≤ j ∧ j ≤ 1000000 ∧ i.natAbs < 2 ^ 64
def CMul (i j : Int) : Prop := (-(2 ^ 64) < i ∧ i < 2 ^ 64) ∨ (-(2 ^ 64) < j ∧ j < 2 ^ 64)
theorem CMul.ok {i j : Int} (h : CMul i j) : IntMulOk i j := by
  rcases h with ⟨h1, h2⟩ | ⟨h1, h2⟩
  · exact .of_left (intBits_le_64 h1 h2)
  · exact .of_right (intBits_le_64 h1 h2)
theorem op_add : OpR X (binaryOp .Add) (rI0 fun i j => .int (i + j)) := opI0 fun _ _ _ _ _ _ _ q => add_int q
theorem op_mul : OpR X (binaryOp .Mult) (rI CMul fun i j => .int (i * j)) := opI fun _ _ _ _ _ _ _ hc q => mul_int q hc.ok
theorem op_fdiv : OpR X (binaryOp .FloorDiv) (rI CDiv fun i j => .int (i / j)) := opI fun i j _ _ _ _ _ hc q => by
  have h1 : (0 : Int) < j := hc.1
  have h2 : j < 1073741824 := hc.2
  exact floordiv_int (by omega) (by rw [Int.fdiv_eq_ediv_of_nonneg i (by omega)]; exact q) (.inl (PyProof.noPylong_small (by omega)))
theorem op_mod : OpR X (binaryOp .Mod) (rI (fun _ j => 0 < j) fun i j => .int (i % j)) := opI fun i j _ _ _ _ _ hc q => by
  have h1 : (0 : Int) < j := hc
  exact mod_int' (by omega) (by rw [Int.fmod_eq_emod_of_nonneg i (by omega)]; exact q)
theorem op_pow : OpR X (binaryOp .Pow) (rI CPow fun i j => .int (i ^ j.toNat)) := opI fun _ _ _ _ _ _ _ hc q => pow_int_small hc.1 hc.2.1 hc.2.2 q
theorem unI {f : Value → Sem Value} {g : Int → Int}
    (rule : ∀ (i : Int) (t : Tok) (s : Shared) (Q : Value → Shared → Prop) (E : Value → Shared → Prop), Q (.int (g i) s.toks) { s with toks := s.toks + 1 } → wpAny (model X.prog X.w) X.A (f (.int i t)) Q E s) :
    UnR X f (rU fun i => .int (g i)) := by
  intro pins s σ H x v Q I rx h
  obtain ⟨i, rfl, q⟩ := h
  obtain ⟨t, rfl⟩ := rx
  exact rule i t s _ _ ⟨.int (g i), H, I.tok _, ⟨_, rfl⟩, q⟩
theorem un_neg : UnR X (unaryOp .USub) (rU fun i => .int (-i)) := unI fun _ _ _ _ _ q => neg_int q
end
section
variable {X : Cx} {a b c : Expr} {ta tb tc : TE} {pos : Pos}
theorem op_lt : OpR X (compareOp .Lt) (rI0 fun i j => .bl (decide (i < j))) := opB0 fun _ _ _ _ _ _ _ q => lt_int q
theorem op_le : OpR X (compareOp .LtE) (rI0 fun i j => .bl (decide (i ≤ j))) := opB0 fun _ _ _ _ _ _ _ q => le_int q
theorem op_gt : OpR X (compareOp .Gt) (rI0 fun i j => .bl (decide (j < i))) := opB0 fun _ _ _ _ _ _ _ q => gt_int q
theorem OpR.or {f : Value → Value → Sem Value} {r r' : R2} (h : OpR X f r) (h' : OpR X f r') : OpR X f (fun x y H Q => r x y H Q ∨ r' x y H Q) := by
  intro pins s σ H x y v u Q I rx ry q
  rcases q with q | q
  · exact h pins s σ H x y v u Q I rx ry q
  · exact h' pins s σ H x y v u Q I rx ry q
theorem nomark (b : Expr) {op : CmpOp} (h : op ≠ .In := by decide) (h2 : op ≠ .NotIn := by decide) : behindInMarks op b = false := by
  have e1 : (op == CmpOp.In) = false := by cases op <;> first | rfl | exact absurd rfl h
  have e2 : (op == CmpOp.NotIn) = false := by cases op <;> first | rfl | exact absurd rfl h2
  cases b <;> simp [behindInMarks, e1, e2]
theorem pe_cmpR {op : CmpOp} {r : R2} (ho : OpR X (compareOp op) r) (ha : PE X a ta) (hb : PE X b tb) (hm : behindInMarks op b = false) : PE X (.Compare a [op] [b] pos) (tOp r ta tb) := .mk <| by
  intro pins s σ H Q I h
  exact wpAny_Compare1 (binT ha hb I h fun v u s2 x y H2 I2 rx ry q => ho pins s2 σ H2 x y v u Q I2 rx ry q) hm
def tTest (t : TE) : TT := fun σ H Q => t σ H fun x H' => ∃ k, x = .bl k ∧ Q k H'
theorem pt_cmpR {op : CmpOp} {r : R2} (ho : OpR X (compareOp op) r) (ha : PE X a ta) (hb : PE X b tb) (hm : behindInMarks op b = false) : PT X (.Compare a [op] [b] pos) (tTest (tOp r ta tb)) := by
  intro pins s σ H Q I h
  refine wpAny_isTrue_Compare1 (thn (ha pins s σ H _ I h) fun v s1 ⟨x, H1, I1, r1, q1⟩ => thn (hb pins s1 σ H1 _ I1 q1) fun u s2 ⟨y, H2, I2, r2, q2⟩ =>
    thn (ho pins s2 σ H2 x y v u _ I2 r1 r2 q2) fun c s3 ⟨z, H3, I3, r3, k, e, q3⟩ => ?_) hm
  subst e
  cases r3
  exact wpAny_truthy_bool ⟨H3, I3, q3⟩
def tChain (r r' : R2) (ta tb tc : TE) : TE := fun σ H Q => ta σ H fun x H1 => tb σ H1 fun y H2 => r x y H2 fun z H3 => ∃ k, z = .bl k ∧
  (if k = true then tc σ H3 fun w' H4 => r' y w' H4 Q else Q (.bl false) H3)
theorem pe_chain {op op' : CmpOp} {r r' : R2} (ho : OpR X (compareOp op) r) (ho' : OpR X (compareOp op') r') (ha : PE X a ta) (hb : PE X b tb) (hc : PE X c tc)
    (hm : lastMarks [op, op'] [b, c] = false := by with_unfolding_all rfl) : PE X (.Compare a [op, op'] [b, c] pos) (tChain r r' ta tb tc) := .mk <| by
  intro pins s σ H Q I h
  refine Compare_chain (thn (ha pins s σ H _ I h) fun v s1 ⟨x, H1, I1, r1, q1⟩ => chain_link (thn (hb pins s1 σ H1 _ I1 q1) fun u s2 ⟨y, H2, I2, r2, q2⟩ =>
    thn (ho pins s2 σ H2 x y v u _ I2 r1 r2 q2) fun d s3 ⟨z, H3, I3, r3, k, e, q3⟩ => ?_)) hm
  subst e
  cases r3
  refine wpAny_truthy_bool ?_
  cases k with
  | false => exact ite_ff ⟨.bl false, H3, I3, rfl, q3⟩
  | true => exact ite_tt (chain_last (thn (hc pins s3 σ H3 _ I3 q3) fun w' s4 ⟨z', H4, I4, r4, q4⟩ => ho' pins s4 σ H4 y z' u w' Q I4 r2 r4 q4))
def TruV (K : PySem.W.Frag) (x : V) (H : Hp) (k : Bool) : Prop :=
  match x with
  | .non => k = false
  | .bl b => k = b
  | .int i => k = (i != 0)
  | .str y => y.length ≤ sizeLine ∧ k = ((y.length : Int) != 0)
  | .byt y => y.size ≤ sizeLine ∧ k = ((y.size : Int) != 0)
  | .ref p => (∃ xs, SqL K H p xs ∧ k = !xs.isEmpty) ∨ (∃ xs, SqT K H p xs ∧ k = !xs.isEmpty) ∨ ∃ kvs, H p = some (.dK kvs) ∧ k = !kvs.isEmpty
  | _ => False
theorem isEmpty_kv {κ : Type} {kvs : List (κ × V)} {vs : List (κ × Value)} (r : KV kvs vs) : (!vs.isEmpty) = !kvs.isEmpty := by
  cases r <;> rfl
theorem isEmpty_of {xs : List V} {its : List Value} (r : Vals xs its) : (!its.toArray.isEmpty) = !xs.isEmpty := by
  cases r <;> simp
theorem line63 : (sizeLine : Nat) < 2 ^ 63 := by rw [sizeLine_eq]; decide
theorem tru_ok : TruR X (fun x H Q => ∃ k, TruV X.K x H k ∧ Q k H) := by
  intro pins s σ H x v Q I rx h
  obtain ⟨k, e, q⟩ := h
  have hl := line63
  have hs : sizeLine = 16777216 := sizeLine_eq
  cases x with
  | non =>
    cases rx
    have e' : k = false := e
    subst e'
    exact truthy_none ⟨H, I, q⟩
  | bl b =>
    cases rx
    have e' : k = b := e
    subst e'
    exact wpAny_truthy_bool ⟨H, I, q⟩
  | int i =>
    obtain ⟨t, rfl⟩ := rx
    have e' : k = (i != 0) := e
    subst e'
    exact PySem.P.truthy_int ⟨H, I, q⟩
  | str y =>
    obtain ⟨t, rfl⟩ := rx
    obtain ⟨hy, e'⟩ : y.length ≤ sizeLine ∧ k = ((y.length : Int) != 0) := e
    subst e'
    exact PySem.P.truthy_str (by omega) ⟨H, I.tok _, q⟩
  | byt y =>
    obtain ⟨t, rfl⟩ := rx
    obtain ⟨hy, e'⟩ : y.size ≤ sizeLine ∧ k = ((y.size : Int) != 0) := e
    subst e'
    exact PySem.W.truthy_bytes (by omega) ⟨H, I.tok _, q⟩
  | ref p =>
    cases rx
    have e' : (∃ xs, SqL X.K H p xs ∧ k = !xs.isEmpty) ∨ (∃ xs, SqT X.K H p xs ∧ k = !xs.isEmpty) ∨ ∃ kvs, H p = some (.dK kvs) ∧ k = !kvs.isEmpty := e
    rcases e' with ⟨xs, hx, e'⟩ | ⟨xs, hx, e'⟩ | ⟨kvs, hx, e'⟩
    · subst e'
      obtain ⟨its, r, pl, hz⟩ := I.list hx
      have hlen := r.length
      exact wpAny_truthy_list pl.isList (by simp only [List.size_toArray]; omega) ⟨H, I.tok _, by rw [isEmpty_of r]; exact q⟩
    · subst e'
      obtain ⟨its, r, pl, hz⟩ := I.tuple hx
      have hlen := r.length
      exact truthy_tuple pl (by simp only [List.size_toArray]; omega) ⟨H, I.tok _, by rw [isEmpty_of r]; exact q⟩
    · subst e'
      obtain ⟨hz, hS, vs, r, m⟩ : kvs.length ≤ sizeLine ∧ (p == sysModules) = false ∧ ∃ vs, KV kvs vs ∧ s.heap.DictOf (mixKind X.prog X.w) p vs := I.hok p _ hx
      have hlen : kvs.length = vs.length := Paired.length r
      exact wpAny_truthy_dict hS m (by omega) ⟨H, I.tok _, by rw [isEmpty_kv r]; exact q⟩
  | _ => exact (show False from e).elim
theorem pt_truth (ha : PE X a ta) (he : ∀ whole, isTrue a X.env whole = (do let v ← whole; standAt a.pos; holding [v] (truthy v))) :
    PT X a (fun σ H Q => ta σ H fun x H' => ∃ k, TruV X.K x H' k ∧ Q k H') := by
  intro pins s σ H Q I h
  exact isTrue_plain (thn (ha pins s σ H _ I h) fun v s1 ⟨x, H1, I1, r1, q1⟩ => tru_ok pins s1 σ H1 x v Q I1 r1 q1) (he _)
theorem vals1 {x : V} {us : List Value} (r : Vals [x] us) : ∃ u, us = [u] ∧ RelV x u := by
  cases r with
  | cons r1 r2 => cases r2; exact ⟨_, rfl, r1⟩
theorem vals2 {x y : V} {us : List Value} (r : Vals [x, y] us) : ∃ u w', us = [u, w'] ∧ RelV x u ∧ RelV y w' := by
  cases r with
  | cons r1 r2 =>
    cases r2 with
    | cons r3 r4 => cases r4; exact ⟨_, _, rfl, r1, r3⟩
theorem call_abs : CallR X (.builtin "abs") (fun xs H Q => ∃ i, xs = [.int i] ∧ Q (.int (if i < 0 then -i else i)) H) := by
  intro pins s σ H xs us Q I r h
  obtain ⟨i, rfl, q⟩ := h
  obtain ⟨u, rfl, t, rfl⟩ := vals1 r
  exact call_abs_int fun u tk => ⟨.int (if i < 0 then -i else i), H, I.tok _, ⟨_, rfl⟩, q⟩
theorem call_max2 (hc : X.calm = true) : CallR X (.builtin "max") (fun xs H Q => ∃ i j, xs = [.int i, .int j] ∧ Q (.int (if j > i then j else i)) H) := by
  intro pins s σ H xs us Q I r h
  obtain ⟨i, j, rfl, q⟩ := h
  obtain ⟨u, w', rfl, ⟨t, rfl⟩, ⟨t', rfl⟩⟩ := vals2 r
  refine max_two_ints (I.ok.hd hc) fun h' tk k => ⟨_, H, I.kept k, ?_, q⟩
  by_cases hj : j > i
  · rw [if_pos hj, if_pos hj]; exact ⟨_, rfl⟩
  · rw [if_neg hj, if_neg hj]; exact ⟨_, rfl⟩
theorem call_min2 (hc : X.calm = true) : CallR X (.builtin "min") (fun xs H Q => ∃ i j, xs = [.int i, .int j] ∧ Q (.int (if j < i then j else i)) H) := by
  intro pins s σ H xs us Q I r h
  obtain ⟨i, j, rfl, q⟩ := h
  obtain ⟨u, w', rfl, ⟨t, rfl⟩, ⟨t', rfl⟩⟩ := vals2 r
  refine min_two_ints (I.ok.hd hc) fun h' tk k => ⟨_, H, I.kept k, ?_, q⟩
  by_cases hj : j < i
  · rw [if_pos hj, if_pos hj]; exact ⟨_, rfl⟩
  · rw [if_neg hj, if_neg hj]; exact ⟨_, rfl⟩
theorem call_str_int : CallR X (.type "str") (fun xs H Q => ∃ i, xs = [.int i] ∧ i.natAbs.log2 < 1920 ∧ Q (.str (toString i)) H) := by
  intro pins s σ H xs us Q I r h
  obtain ⟨i, rfl, hz, q⟩ := h
  obtain ⟨u, rfl, t, rfl⟩ := vals1 r
  exact PySem.P.str_of_int hz ⟨.str _, H, I.tok _, ⟨_, rfl⟩, q⟩
def LenV (K : PySem.W.Frag) (x : V) (H : Hp) (n : Nat) : Prop :=
  match x with
  | .str y => y.length ≤ sizeLine ∧ n = y.length
  | .byt y => y.size ≤ sizeLine ∧ n = y.size
  | .ref p => (∃ xs, SqL K H p xs ∧ n = xs.length) ∨ ∃ xs, SqT K H p xs ∧ n = xs.length
  | _ => False
theorem call_len : CallR X (.builtin "len") (fun xs H Q => ∃ x n, xs = [x] ∧ LenV X.K x H n ∧ Q (.int n) H) := by
  intro pins s σ H xs us Q I r h
  obtain ⟨x, n, rfl, e, q⟩ := h
  obtain ⟨u, rfl, rx⟩ := vals1 r
  have hl := line63
  have hs : sizeLine = 16777216 := sizeLine_eq
  cases x with
  | str y =>
    obtain ⟨t, rfl⟩ := rx
    obtain ⟨hy, e'⟩ : y.length ≤ sizeLine ∧ n = y.length := e
    subst e'
    exact len_str (by omega) ⟨.int _, H, I.tok _, ⟨_, rfl⟩, q⟩
  | byt y =>
    obtain ⟨t, rfl⟩ := rx
    obtain ⟨hy, e'⟩ : y.size ≤ sizeLine ∧ n = y.size := e
    subst e'
    exact PySem.W.len_bytes (by omega) ⟨.int _, H, I.tok _, ⟨_, rfl⟩, q⟩
  | ref p =>
    cases rx
    have e' : (∃ xs, SqL X.K H p xs ∧ n = xs.length) ∨ ∃ xs, SqT X.K H p xs ∧ n = xs.length := e
    rcases e' with ⟨xs, hx, e'⟩ | ⟨xs, hx, e'⟩
    · subst e'
      obtain ⟨its, r', pl, hz⟩ := I.list hx
      have hlen := r'.length
      exact Calls.call_len_list pl.isList (by simp only [List.size_toArray]; omega) ⟨.int xs.length, H, I.tok _, ⟨_, by simp only [List.size_toArray]; rw [hlen]⟩, q⟩
    · subst e'
      obtain ⟨its, r', pl, hz⟩ := I.tuple hx
      have hlen := r'.length
      exact len_tuple pl (by simp only [List.size_toArray]; omega) ⟨.int xs.length, H, I.tok _, ⟨_, by simp only [List.size_toArray]; rw [hlen]⟩, q⟩
  | _ => exact (show False from e).elim
end
end L2
namespace L2
open PySem PySem.Spec PyProof.Rows
structure ObjM (h : Heap) (x dx C : Addr) (mA : Str → Option Value) : Prop where
  obj : h.get? x = some (PySem.W.instObj C dx)
  ns : h.Ns1 dx mA
  ne : dx ≠ x
theorem lookIn_ns {h : Heap} {dx : Addr} {mA : Str → Option Value} (n : h.Ns1 dx mA) : ∃ od, h.get? dx = some od ∧ ∀ name, PySem.W.lookIn name od = some (mA name) := by
  obtain ⟨o, es, ep, ho, hd, hk, _, hm⟩ := n
  refine ⟨o, ho, fun name => ?_⟩
  have e := hm name
  unfold nsFind findBy at e
  rw [← Array.find?_toList] at e
  unfold PySem.W.lookIn
  rw [hd]
  dsimp only
  split
  · rename_i y q
    rw [q] at e
    exact congrArg some e
  · rename_i q
    rw [q] at e
    have a : es.toList.any (·.refKey) = false := by
      rw [List.any_eq_false]
      intro y hy
      obtain ⟨z, t, hkey⟩ := hk y (Array.mem_toList_iff.mp hy)
      simp [DictEntry.refKey, hkey]
    have a' : ¬ es.toList.any (·.refKey) = true := by rw [a]; exact Bool.false_ne_true
    rw [if_neg a']
    exact congrArg some e
theorem ObjM.look {h : Heap} {x dx C : Addr} {mA : Str → Option Value} (I : ObjM h x dx C mA) : ∃ od, PySem.W.InstAt h x (PySem.W.instObj C dx) C (some od) ∧ ∀ name, PySem.W.lookIn name od = some (mA name) :=
  let ⟨od, ho, hl⟩ := lookIn_ns I.ns
  ⟨od, ⟨I.obj, rfl, rfl, ho⟩, hl⟩
section
variable {prog : Program} {w : World} {A : Around} {E : Value → Shared → Prop} {s : Shared} {K : PySem.W.Frag} {x dx C f : Addr} {mA : Str → Option Value} {name : Str} {v : Value}
end
section
variable {P : Program} {w : World} {H H' : Hp} {h h' : Heap} {a C dx : Addr} {fs fs' : List (Str × V)}
theorem ins_get (hok : HOk P w H h) (e : H a = some (.ins C dx fs)) : ∃ mA, ObjM h a dx C mA ∧ (∀ f, RelO (fs.lookup f) (mA f)) ∧ PySem.Within mA (fs.map (·.1)) ∧ fs.length ≤ 1000 ∧ H dx = some (.own a) := by
  obtain ⟨d, z, ne, ob, mA, n, r, q⟩ := (show ObjOk P w H h a (.ins C dx fs) from hok a _ e)
  exact ⟨mA, ⟨ob, n, ne⟩, r, q, z, d⟩
end
structure Cls (K : PySem.W.Frag) (C : Addr) : Prop where
  pg : PySem.W.plainGet K C Str.empty = true
  hd : PySem.W.hasDictIn K C = true
  po : PySem.W.plainOver K C = true
  sa : PySem.W.findIn K (.ref C) "__setattr__" = some (some (.builtin "object.__setattr__"))
theorem Cls.get {K : PySem.W.Frag} {C : Addr} (c : Cls K C) (f : Str) : PySem.W.plainGet K C f = true := c.pg
structure Con (K : PySem.W.Frag) (C : Addr) (f : Str) (v : V) (u : Value) : Prop where
  at_ : PySem.W.findIn K (.ref C) f = some (some u)
  rel : RelV v u
  get : PySem.W.specialIn K u "__get__" = some none
  cp : PySem.W.copiedNames.contains f = false
structure Meth (K : PySem.W.Frag) (C : Addr) (m : Str) (f : Addr) : Prop where
  at_ : PySem.W.findIn K (.ref C) m = some (some (.ref f))
  fn : PySem.W.isFn K (.ref f) = true
  kp : PySem.W.keepIn K (.ref f) = true
section
variable {X : Cx} {pins : List (Addr × Obj)} {σ : St} {H : Hp} {s : Shared} {a C dx : Addr} {fs : List (Str × V)} {f : Str} {v : V} {A : Around} {E : Value → Shared → Prop}
theorem Inv.made (I : Inv X pins σ H s) : Inv X pins σ (upd (upd H s.heap.objs.size (.own (s.heap.objs.size + 1))) (s.heap.objs.size + 1) (.ins C s.heap.objs.size []))
    { s with heap := (s.heap.push PySem.W.emptyDict).push (PySem.W.instObj C s.heap.objs.size) } := by
  have e1 : (s.heap.push PySem.W.emptyDict).get? s.heap.objs.size = some PySem.W.emptyDict := Heap.get?_push_size s.heap rfl
  have e2 : ((s.heap.push PySem.W.emptyDict).push (PySem.W.instObj C s.heap.objs.size)).get? (s.heap.objs.size + 1) = some (PySem.W.instObj C s.heap.objs.size) := by
    have := Heap.get?_push_size (s.heap.push PySem.W.emptyDict) (o := PySem.W.instObj C s.heap.objs.size) rfl
    rwa [Heap.size_push] at this
  have e3 : (s.heap.push PySem.W.emptyDict).Ns s.heap.objs.size (fun _ => none) := ⟨PySem.W.emptyDict, #[], _, e1, rfl, (fun e he => absurd he (by simp)), fun _ => rfl⟩
  have I1 := I.laid (a := s.heap.objs.size) (o := .own (s.heap.objs.size + 1)) (h' := s.heap.push PySem.W.emptyDict) (t' := s.toks) (fun b u q => Heap.get?_push_of_some _ q) (Nat.le_refl _) ⟨_, e1⟩
  refine I1.laid (a := s.heap.objs.size + 1) (o := .ins C s.heap.objs.size []) (t' := s.toks) (fun b u q => Heap.get?_push_of_some _ q) (Nat.le_of_eq (Heap.size_push _ _)) ?_
  have ne : s.heap.objs.size ≠ s.heap.objs.size + 1 := Nat.ne_of_lt (Nat.lt_succ_self _)
  refine ⟨by rw [upd_ne ne, upd_same], Nat.zero_le _, ne, e2, fun _ => none, (Heap.Ns1.of_empty e3).at fun o q => Heap.get?_push_of_some _ q, fun _ => True.intro, fun y hy => absurd rfl hy⟩
end
section
variable {X : Cx} {o e value : Expr} {f : Str} {pos pos' tpos : Pos} {ta tv : TE}
end
section
variable {X : Cx} {pins : List (Addr × Obj)} {σ : St} {H : Hp} {s : Shared} {A : Around} {E : Value → Shared → Prop} {Q : Value → Shared → Prop} {c : Value} {b : Bool}
inductive TyOf (K : PySem.W.Frag) (H : Hp) : V → Value → Prop where
  | non : TyOf K H .non (.type "NoneType")
  | bl (x : Bool) : TyOf K H (.bl x) (.type "bool")
  | int (i : Int) : TyOf K H (.int i) (.type "int")
  | str (x : Str) : TyOf K H (.str x) (.type "str")
  | flt (x : UInt64) : TyOf K H (.flt x) (.type "float")
  | lst {a : Addr} {xs : List V} (e : H a = some (.lst xs)) : TyOf K H (.ref a) (.type "list")
  | frz {a : Addr} {o : Obj} {xs : List V} (e : H a = some (.frz o (.lst xs))) : TyOf K H (.ref a) (.type "list")
  | tup {a : Addr} {xs : List V} (e : H a = some (.tup xs)) : TyOf K H (.ref a) (.type "tuple")
  | dK {a : Addr} {kvs : List (Key × V)} (e : H a = some (.dK kvs)) : TyOf K H (.ref a) (.type "dict")
  | dT {a : Addr} {kvs : List (List Key × V)} (e : H a = some (.dT kvs)) : TyOf K H (.ref a) (.type "dict")
  | ins {a C dx : Addr} {fs : List (Str × V)} (e : H a = some (.ins C dx fs)) (cl : Cls K C) (ha : PySem.W.findIn K (.ref C) "__class__" = some (some (.builtin "object.__class__")))
      (hn : PySem.W.specialIn K (.builtin "object.__class__") "__get__" = some (some (.builtin "getset_descriptor.__get__"))) (htk : PySem.W.takesIn K (.builtin "object.__class__") = some true)
      (hm : PySem.W.mroIn K C (.type "object") = some true) : TyOf K H (.ref a) (.ref C)
theorem isinst_ok {x : V} {u t : Value} (I : Inv X pins σ H s) (rx : RelV x u) (ty : TyOf X.K H x t) (e : PySem.W.kitOne X.K t c = some b) (h : ∀ tk, Q (.bool b) { s with toks := tk }) :
    wpAny (model X.prog X.w) A (call (.builtin "isinstance") [u, c]) Q E s := by
  cases ty with
  | non => cases (show u = Value.none from rx); exact PySem.W.kia_one PySem.W.kitx_none I.kIn True.intro e (fun z => nomatch z) h
  | bl y => cases (show u = Value.bool y from rx); exact PySem.W.kia_one PySem.W.kitx_bool I.kIn True.intro e (fun z => nomatch z) h
  | int i => obtain ⟨t, q⟩ := (show ∃ t, u = Value.int i t from rx); cases q; exact PySem.W.kia_one PySem.W.kitx_int I.kIn True.intro e (fun z => nomatch z) h
  | str y => obtain ⟨t, q⟩ := (show ∃ t, u = Value.str y t from rx); cases q; exact PySem.W.kia_one PySem.W.kitx_str I.kIn True.intro e (fun z => nomatch z) h
  | flt y => obtain ⟨t, q⟩ := (show ∃ t, u = Value.float y t from rx); cases q; exact PySem.W.kia_one PySem.W.kitx_float I.kIn True.intro e (fun z => nomatch z) h
  | @lst a xs ea =>
    cases (show u = Value.ref a from rx)
    obtain ⟨_, _, n, _, h1⟩ := (show ObjOk X.prog X.w H s.heap a (.lst xs) from I.hok a _ ea)
    exact PySem.W.kia_one PySem.W.kitx_list I.kIn ⟨_, h1, rfl⟩ e (fun z => nomatch z) h
  | @frz a ob xs ea =>
    cases (show u = Value.ref a from rx)
    obtain ⟨_, _, _, n, _, h1⟩ := (show ObjOk X.prog X.w H s.heap a (.frz ob (.lst xs)) from I.hok a _ ea)
    exact PySem.W.kia_one PySem.W.kitx_list I.kIn ⟨_, h1, rfl⟩ e (fun z => nomatch z) h
  | @tup a xs ea =>
    cases (show u = Value.ref a from rx)
    obtain ⟨_, _, _, p⟩ := (show ObjOk X.prog X.w H s.heap a (.tup xs) from I.hok a _ ea)
    obtain ⟨o, h1, h2, _⟩ := p
    exact PySem.W.kia_one PySem.W.kitx_tuple I.kIn ⟨o, h1, h2⟩ e (fun z => nomatch z) h
  | @dK a kvs ea =>
    cases (show u = Value.ref a from rx)
    obtain ⟨_, _, vs, _, p⟩ := (show ObjOk X.prog X.w H s.heap a (.dK kvs) from I.hok a _ ea)
    obtain ⟨o, es, ep, h1, h2, _⟩ := p
    exact PySem.W.kia_one PySem.W.kitx_dict I.kIn ⟨o, h1, h2.1⟩ e (fun z => nomatch z) h
  | @dT a kvs ea =>
    cases (show u = Value.ref a from rx)
    obtain ⟨_, _, xs, _, o, es, ep, h1, h2, _⟩ := (show ObjOk X.prog X.w H s.heap a (.dT kvs) from I.hok a _ ea)
    exact PySem.W.kia_one PySem.W.kitx_dict I.kIn ⟨o, h1, h2.1⟩ e (fun z => nomatch z) h
  | @ins a C dx fs ea cl ha hn htk hm =>
    cases (show u = Value.ref a from rx)
    obtain ⟨mA, O, _⟩ := ins_get I.hok ea
    obtain ⟨od, J, _⟩ := O.look
    exact PySem.W.kia_one (PySem.W.kitx_own (cl.get _) cl.hd ha hn htk hm) I.kIn J e (fun z => nomatch z) h
end
end L2
namespace L2
open PySem PySem.Spec PyProof.Rows
structure Room (k : Nat) (A : Around) : Prop where
  hd : A.handled = none
  dp : A.depth + 3 * k + 5 < recursionLimit
  un : A.units + 16 * k + 200 < cLine
  gd : A.guards = some []
theorem Room.mono {j k : Nat} {A : Around} (r : Room k A) (h : j ≤ k) : Room j A := ⟨r.hd, by have := r.dp; omega, by have := r.un; omega, r.gd⟩
theorem Room.deeper {k : Nat} {A : Around} (r : Room (k + 1) A) (env : Env) : Room k (A.deeper env) :=
  ⟨r.hd, by have := r.dp; show A.depth + 1 + 3 * k + 5 < _; omega, by have := r.un; show A.units + 3 + 16 * k + 200 < _; omega, r.gd⟩
theorem Room.in1 {k : Nat} {A : Around} (r : Room (k + 1) A) : Room k A.in1 :=
  ⟨r.hd, by have := r.dp; show A.depth + 3 * k + 5 < _; omega, by have := r.un; show A.units + 1 + 16 * k + 200 < _; omega, r.gd⟩
theorem Room.depth {k : Nat} {A : Around} (r : Room k A) : A.depth < recursionLimit := by have := r.dp; omega
theorem Room.units {k : Nat} {A : Around} (r : Room k A) : A.units + 64 < cLine := by have := r.un; omega
def tNil : TA := fun _ H Q => Q [] H
def tCons (ta : TE) (tr : TA) : TA := fun σ H Q => ta σ H fun x H1 => tr σ H1 fun xs H2 => Q (x :: xs) H2
section
variable {X : Cx} {e : Expr} {es : List Expr} {te : TE} {t : TA} {pos : Pos}
theorem pa_nil : PA X [] tNil := .mk <| fun _ _ _ _ H Q I h => Calls.spliced_nil ⟨[], H, I, .nil, h⟩
theorem pa_cons (ha : PE X e te) (hr : PA X es t) (hs : starEach (e :: es) X.env = (false, eval e X.env) :: starEach es X.env := by rfl) : PA X (e :: es) (tCons te t) := .mk <| by
  intro pos pins s σ H Q I h
  rw [hs]
  show wpAny _ _ (spliced ((false, eval e X.env) :: backTo pos (starEach es X.env))) _ _ s
  refine Calls.spliced_cons (thn (ha pins s σ H _ I h) fun u s1 ⟨x, H1, I1, r1, q1⟩ => ?_)
  exact thn (hr pos pins s1 σ H1 _ I1 q1) fun us s2 ⟨xs, H2, I2, r2, q2⟩ => ⟨x :: xs, H2, I2, .cons r1 r2, q2⟩
def tTup (t : TA) : TE := fun σ H Q => t σ H fun xs H1 => xs.length ≤ sizeLine ∧ ∀ p, H1 p = none → Q (.ref p) (upd H1 p (.tup xs))
def tLst (t : TA) : TE := fun σ H Q => t σ H fun xs H1 => xs.length ≤ sizeLine ∧ ∀ p, H1 p = none → Q (.ref p) (upd H1 p (.lst xs))
theorem pe_tup {x1} (h : PA X es t) : PE X (.Tuple es x1 pos) (tTup t) := .mk <| by
  intro pins s σ H Q I hq
  refine wpAny_Tuple_spliced (thn (h pos pins s σ H _ I hq) fun us s1 ⟨xs, H1, I1, r, z, q⟩ => ⟨by rw [← r.length]; exact z, ?_⟩)
  have hf : H1 s1.heap.objs.size = none := I1.hok.fresh (Nat.le_refl _)
  refine ⟨.ref s1.heap.objs.size, upd H1 s1.heap.objs.size (.tup xs), I1.laid (t' := s1.toks) (fun b u e => Heap.get?_push_of_some _ e) (Nat.le_refl _) ?_, rfl, q _ hf⟩
  exact ⟨z, us, r, ⟨_, Heap.get?_push_size _ rfl, rfl, _, rfl⟩⟩
theorem pe_lst (h : PA X es t) : PE X (.List es pos) (tLst t) := .mk <| by
  intro pins s σ H Q I hq
  refine wpAny_List_spliced (thn (h pos pins s σ H _ I hq) fun us s1 ⟨xs, H1, I1, r, z, q⟩ => ⟨by rw [← r.length]; exact z, ?_⟩)
  have hf : H1 s1.heap.objs.size = none := I1.hok.fresh (Nat.le_refl _)
  refine ⟨.ref s1.heap.objs.size, upd H1 s1.heap.objs.size (.lst xs), I1.laid (t' := s1.toks) (fun b u e => Heap.get?_push_of_some _ e) (Nat.le_refl _) ?_, rfl, q _ hf⟩
  exact ⟨z, us, 0, r, Heap.get?_push_size _ rfl⟩
end
abbrev Sp := List V → Hp → VK → XK → Prop
abbrev CXT := List Env → Hp → Shared → XK → Value → Shared → Prop
structure Env0 (P : Program) (w : World) (K : PySem.W.Frag) (mg : Str → Option Value) (base : Heap) (A : Around) (outer : List Env) (s : Shared) (H : Hp) : Prop where
  frames : A.frames = some outer
  mod : Mod K mg base
  bs : ∀ b o, base.get? b = some o → s.heap.get? b = some o ∧ H b = none
  bsz : base.objs.size ≤ s.heap.objs.size
  funs : s.heap.FunFrames base outer
  frf : ∀ b ∈ frs outer, H b = none
  tt : TabT K H
  hok : HOk P w H s.heap
  bare : AllBare s.gens
def CE (outer : List Env) (P : Program) (w : World) (H : Hp) (s : Shared) (Q : VK) (u : Value) (s' : Shared) : Prop :=
  ∃ v H', s'.os = s.os ∧ AllBare s'.gens ∧ Un (frs outer) [] H H' s.heap s'.heap ∧ HOk P w H' s'.heap ∧ RelV v u ∧ Q v H'
def CR (CX : CXT) (outer : List Env) (P : Program) (w : World) (H : Hp) (s : Shared) (Q : VK) (E : XK) (r : Result) (s' : Shared) : Prop :=
  match r with
  | .ok (.ret u) => CE outer P w H s Q u s'
  | .ok _ => False
  | .error e => CX outer H s E e s'
structure FnOk (P : Program) (w : World) (K : PySem.W.Frag) (mg : Str → Option Value) (base : Heap) (CX : CXT) (k : Nat) (f : Addr) (fd : FuncData) (ps : List Str) (sp : Sp) : Prop where
  len : ∀ vs H Q E, sp vs H Q E → vs.length = ps.length
  run : ∀ (A : Around) (outer : List Env) (s : Shared) (H : Hp) (args : Args) (us : List Value) (vs : List V) (Q : VK) (E : XK), Room k A → Env0 P w K mg base A outer s H → BindsTo s fd args (ps.zip us) → Vals vs us → sp vs H Q E →
    codeAny (model P w) A (.call (.ref f) args) (CR CX outer P w H s Q E) s
theorem FnOk.mono {P : Program} {w : World} {K : PySem.W.Frag} {mg : Str → Option Value} {base : Heap} {CX : CXT} {j k : Nat} {f : Addr} {fd : FuncData} {ps : List Str} {sp : Sp} (F : FnOk P w K mg base CX j f fd ps sp) (h : j ≤ k) :
    FnOk P w K mg base CX k f fd ps sp := ⟨F.len, fun A outer s H args us vs Q E hr => F.run A outer s H args us vs Q E (hr.mono h)⟩
theorem FnOk.imp {P : Program} {w : World} {K : PySem.W.Frag} {mg : Str → Option Value} {base : Heap} {CX : CXT} {k : Nat} {f : Addr} {fd : FuncData} {ps : List Str} {sp sp' : Sp} (F : FnOk P w K mg base CX k f fd ps sp)
    (h : ∀ vs H Q E, sp' vs H Q E → sp vs H Q E) : FnOk P w K mg base CX k f fd ps sp' :=
  ⟨fun vs H Q E q => F.len vs H Q E (h _ _ _ _ q), fun A outer s H args us vs Q E hr he hb hv hs => F.run A outer s H args us vs Q E hr he hb hv (h _ _ _ _ hs)⟩
theorem Env0.in1 {P : Program} {w : World} {K : PySem.W.Frag} {mg : Str → Option Value} {base : Heap} {A : Around} {outer : List Env} {s : Shared} {H : Hp} (e : Env0 P w K mg base A outer s H) :
    Env0 P w K mg base A.in1 outer s H := ⟨e.frames, e.mod, e.bs, e.bsz, e.funs, e.frf, e.tt, e.hok, e.bare⟩
section
variable {X : Cx} {pins : List (Addr × Obj)} {σ : St} {H : Hp} {s s' : Shared}
theorem Inv.env0 (I : Inv X pins σ H s) : Env0 X.prog X.w X.K X.mg X.base X.A X.stack s H :=
  ⟨I.ok.frames, I.ok.mod, I.bs, Nat.le_trans I.ok.bsz I.sz, I.stack, I.stkFree, I.ok.tt.mono I.base.tbls, I.hok, I.bare⟩
theorem Inv.after {Q : VK} {u : Value} (I : Inv X pins σ H s) (h : CE X.stack X.prog X.w H s Q u s') : EP X pins σ Q u s' := by
  obtain ⟨v, H', os, bare, un, hok, r, q⟩ := h
  obtain ⟨hh, g, d, t, os'⟩ := s'
  obtain rfl : os' = s.os := os
  exact ⟨v, H', I.call (h' := hh) (g' := g) (d' := d) (t' := t) (ch := []) un hok bare (fun b z => absurd z (by simp)), r, q⟩
end
def tCall (sp : Sp) (dvs : List V) (E : XK) (t : TA) : TE := fun σ H Q => t σ H fun vs H1 => sp (vs ++ dvs) H1 Q E
def Binds (K : PySem.W.Frag) (fd : FuncData) (ps : List Str) (ds : List Value) : Prop :=
  ∀ (s : Shared) (us : List Value), K.In s.heap → (us ++ ds).length = ps.length → BindsTo s fd ⟨us, []⟩ (ps.zip (us ++ ds))
theorem Binds.all {K : PySem.W.Frag} {fd : FuncData} {ps : List Str} (h : ∀ us : List Value, us.length = ps.length → bindArgs fd ⟨us, []⟩ = pure (ps.zip us)) : Binds K fd ps [] := fun s us _ hl => by
  rw [List.append_nil] at hl ⊢
  exact .of_eq (h us hl)
def Passes (CX : CXT) (X : Cx) (E : XK) : Prop := ∀ (pins : List (Addr × Obj)) (σ : St) (H : Hp) (s : Shared) (e : Value) (s' : Shared), Inv X pins σ H s → CX X.stack H s E e s' → X.xe e s'
section
variable {X : Cx} {CX : CXT} {k : Nat} {f C : Addr} {fd : FuncData} {ps : List Str} {sp : Sp} {dvs : List V} {ds : List Value} {E : XK} {x m : Str} {p pos apos : Pos} {e o : Expr} {es : List Expr} {ta : TE} {t : TA}
theorem run_fn {pins : List (Addr × Obj)} {σ : St} {H : Hp} {s : Shared} {Q : VK} {us : List Value} {vs : List V} (F : FnOk X.prog X.w X.K X.mg X.base CX k f fd ps sp) (hr : Room k X.A) (hb : Binds X.K fd ps ds) (hd : Vals dvs ds) (hx : Passes CX X E)
    (I : Inv X pins σ H s) (r : Vals vs us) (h : sp (vs ++ dvs) H Q E) : wpAny (model X.prog X.w) X.A (call (.ref f) us) (EP X pins σ Q) X.xe s := by
  have r2 : Vals (vs ++ dvs) (us ++ ds) := r.append hd
  have hl : (us ++ ds).length = ps.length := by rw [← r2.length]; exact F.len _ _ _ _ h
  refine wpAny_call (codeAny_mono (F.run X.A X.stack s H ⟨us, []⟩ (us ++ ds) (vs ++ dvs) Q E hr I.env0 (hb s us I.kIn hl) r2 h) fun r s' hq => ?_)
  cases r with
  | error e => exact hx pins σ H s e s' I hq
  | ok fl =>
    cases fl with
    | ret u => exact I.after hq
    | next => exact False.elim hq
    | brk => exact False.elim hq
    | cont => exact False.elim hq
theorem pe_call (F : FnOk X.prog X.w X.K X.mg X.base CX k f fd ps sp) (hr : Room k X.A) (hg : Gl X x) (hm : X.mg x = some (.ref f)) (hk : PySem.W.keepIn X.K (.ref f) = true) (hb : Binds X.K fd ps ds) (hd : Vals dvs ds) (hx : Passes CX X E)
    (ha : PA X (e :: es) t) (hdb : (x == ("__debug__" : Str)) = false := by decide) (he : starEach (e :: es) X.env = (false, eval e X.env) :: starEach es X.env := by rfl) (hpl : (backTo pos (starEach es X.env)).any (·.1) = false := by rfl) :
    PE X (.Call (.Name x p) (e :: es) [] pos) (tCall sp dvs E t) := .mk <| by
  intro pins s σ H Q I h
  refine wpAny_Call_Name_kw (ld_glob I hg hm ?_ hdb)
  refine PySem.W.callWith_K (h₀ := X.base) I.ok.mod.kin hk (thn (ha pos pins s σ H _ I h) fun us s1 ⟨vs, H1, I1, r, q⟩ => ⟨I1.kIn, ?_⟩) he hpl
  exact run_fn F hr hb hd hx I1 r q
structure Mk (K : PySem.W.Frag) (C f : Addr) : Prop where
  makes : PySem.W.makesIn K C = true
  init : PySem.W.findIn K (.ref C) "__init__" = some (some (.ref f))
  fn : PySem.W.isFn K (.ref f) = true
  kp : PySem.W.keepIn K (.ref C) = true
end
section
variable {X : Cx} {CX : CXT} {k : Nat} {f C : Addr} {fd : FuncData} {ps ks : List Str} {sp : Sp} {E : XK} {x m : Str} {p pos apos kpos : Pos} {e o : Expr} {es : List Expr} {kws : List Keyword} {te ta : TE} {t tk : TA} {nm : Option Str}
structure KBinds (K : PySem.W.Frag) (fd : FuncData) (ps ks : List Str) (g : List Value → List Value → List Value) (gV : List V → List V → List V) : Prop where
  to : ∀ (s : Shared) (us ws : List Value), K.In s.heap → (g us ws).length = ps.length → BindsTo s fd ⟨us, ks.zip ws⟩ (ps.zip (g us ws))
  rel : ∀ {vs : List V} {us : List Value} {zs : List V} {ws : List Value}, Vals vs us → Vals zs ws → Vals (gV vs zs) (g us ws)
variable {g : List Value → List Value → List Value} {gV : List V → List V → List V}
end
structure FnScope (N P : List Str) (sc : Scope) : Prop where
  kind : sc.kind = .function
  co : sc.isCoroutine = false
  gen : sc.isGenerator = false
  nd : N.Nodup
  pre : N.take P.length = P
  par : ∀ x ∈ P, sc.names.lookup x = some .local ∨ sc.names.lookup x = some .cell
  nofree : ∀ y ∈ sc.names, y.2 ≠ .free
theorem bindL_out {kindOf : Str → Option NameKind} {x : Str} : ∀ {binds : List (Str × Value)} {m : Str → Option Value}, (∀ v, (x, v) ∉ binds) → bindL kindOf binds m x = m x
  | [], _, _ => rfl
  | (n, v) :: r, m, h => by
    unfold bindL
    rw [bindL_out fun w hw => h w (List.mem_cons_of_mem _ hw)]
    split
    · have : x ≠ n := by rintro rfl; exact h v List.mem_cons_self
      simp [this]
    · rfl
theorem bindC_out {kindOf : Str → Option NameKind} {x : Str} : ∀ {binds : List (Str × Value)} {m : Str → Option Value}, (∀ v, (x, v) ∉ binds) → bindC kindOf binds m x = m x
  | [], _, _ => rfl
  | (n, v) :: r, m, h => by
    unfold bindC
    rw [bindC_out fun w hw => h w (List.mem_cons_of_mem _ hw)]
    split
    · rfl
    · have : x ≠ n := by rintro rfl; exact h v List.mem_cons_self
      simp [this]
theorem bindL_get {kindOf : Str → Option NameKind} {x : Str} {v : Value} : ∀ {P : List Str} {vs : List Value} {i : Nat} {m : Str → Option Value}, P.Nodup → P[i]? = some x → vs[i]? = some v → kindOf x = some .local →
    bindL kindOf (P.zip vs) m x = some v
  | [], _, _, _, _, h, _, _ => by simp at h
  | _ :: _, [], _, _, _, _, h, _ => by simp at h
  | p :: P, w :: vs, 0, m, nd, h1, h2, hk => by
    simp at h1 h2; subst h1; subst h2
    show bindL kindOf ((p, w) :: P.zip vs) m p = _
    unfold bindL
    rw [bindL_out fun v hv => (List.nodup_cons.mp nd).1 (List.of_mem_zip hv).1, if_pos hk]
    simp
  | p :: P, w :: vs, i + 1, m, nd, h1, h2, hk => by
    show bindL kindOf ((p, w) :: P.zip vs) m x = _
    unfold bindL
    exact bindL_get (i := i) (List.nodup_cons.mp nd).2 (by simpa using h1) (by simpa using h2) hk
theorem bindC_get {kindOf : Str → Option NameKind} {x : Str} {v : Value} : ∀ {P : List Str} {vs : List Value} {i : Nat} {m : Str → Option Value}, P.Nodup → P[i]? = some x → vs[i]? = some v → kindOf x ≠ some .local →
    bindC kindOf (P.zip vs) m x = some v
  | [], _, _, _, _, h, _, _ => by simp at h
  | _ :: _, [], _, _, _, _, h, _ => by simp at h
  | p :: P, w :: vs, 0, m, nd, h1, h2, hk => by
    simp at h1 h2; subst h1; subst h2
    show bindC kindOf ((p, w) :: P.zip vs) m p = _
    unfold bindC
    rw [bindC_out fun v hv => (List.nodup_cons.mp nd).1 (List.of_mem_zip hv).1, if_neg hk]
    simp
  | p :: P, w :: vs, i + 1, m, nd, h1, h2, hk => by
    show bindC kindOf ((p, w) :: P.zip vs) m x = _
    unfold bindC
    exact bindC_get (i := i) (List.nodup_cons.mp nd).2 (by simpa using h1) (by simpa using h2) hk
def start (N : List Str) (vs : List V) : St := vs.map some ++ List.replicate (N.length - vs.length) none
def cxOf (CX : CXT) (P : Program) (w : World) (K : PySem.W.Frag) (mg : Str → Option Value) (base : Heap) (N : List Str) (qual : Str) (scope : Scope) (f : Addr) (cd : Value) (A : Around) (outer : List Env) (s : Shared) (H : Hp) (E : XK) : Cx where
  prog := P
  w := w
  K := K
  mg := mg
  base := base
  A := A.deeper (envOfC qual scope s.heap.objs.size f cd)
  N := N
  s₀ := s
  H₀ := H
  env := envOfC qual scope s.heap.objs.size f cd
  outer := outer
  stack := envOfC qual scope s.heap.objs.size f cd :: outer
  ex := []
  calm := true
  fn := fun _ => true
  pn := []
  xe := fun e s' => wpAny (model P w) (A.deeper (envOfC qual scope s.heap.objs.size f cd)) (leaving (envOfC qual scope s.heap.objs.size f cd) e) (fun _ s'' => CX outer H s E e s'') (fun e' s'' => CX outer H s E e' s'') s'
theorem cell_has {sc : Scope} {n : Nat} {x : Str} (h : sc.names.lookup x = some .cell) : ∃ c, (cellsFrom n sc.names []).lookup x = some c := by
  have q := PySem.W.cellsFrom_some sc.names n [] (.inl h)
  exact Option.isSome_iff_exists.mp q
theorem inv_start {CX : CXT} {P : Program} {w : World} {K : PySem.W.Frag} {mg : Str → Option Value} {base : Heap} {N ps : List Str} {qual : Str} {scope : Scope} {f : Addr} {cd : Value} {A : Around} {outer : List Env} {s s1 : Shared} {H : Hp} {E : XK} {us : List Value} {vs : List V}
    (S : FnScope N ps scope) (hd : A.handled = none) (e0 : Env0 P w K mg base A outer s H) (hl : vs.length = ps.length) (r : Vals vs us)
    (x : InCallC s s.heap.objs.size (bindL (envOfC qual scope s.heap.objs.size f cd).kindOf (ps.zip us) fun _ => none) (cellsFrom (s.heap.objs.size + 1) scope.names []) (bindC (envOfC qual scope s.heap.objs.size f cd).kindOf (ps.zip us) fun _ => none) s1) :
    Inv (cxOf CX P w K mg base N qual scope f cd A outer s H E) [] (start N vs) H s1 := by
  have hpl : ps.length ≤ N.length := by have := congrArg List.length S.pre; rw [List.length_take] at this; omega
  obtain ⟨h1, tk, rfl, hk⟩ := x.done
  have noA : ∀ b : Addr, b ∉ (cxOf CX P w K mg base N qual scope f cd A outer s H E).ex := fun b z => absurd (show b ∈ ([] : List Addr) from z) (by simp)
  refine ⟨⟨e0.mod, S.kind, rfl, rfl, Nat.le_refl _, fun y z c h1 h2 => ?_, fun y hy => ?_, fun y c _ h => ?_, fun _ => hd, Around.frames_deeper e0.frames, .inr ⟨rfl, rfl⟩, fun b z => absurd z (noA b), e0.bs, e0.bsz, fun b _ _ => noA b, fun b z => absurd z (noA b), e0.funs, e0.frf, e0.tt⟩,
    rfl, e0.bare, Un.kept hk, ⟨_, x.toInCall.ns, fun i y v h1 h2 h3 => ?_⟩, fun y c h => ⟨_, x.cell y c h⟩, e0.hok.fresh (Nat.le_refl _), fun y c h => ?_, fun p hp => absurd (show p ∈ ([] : List (Addr × Obj)) from hp) (by simp), e0.hok.kept hk, ?_⟩
  · exact name_of_addr x.apart (PySem.mem_of_lookup h1) (PySem.mem_of_lookup h2)
  · have hy : scope.names.lookup y = some .cell ∨ scope.names.lookup y = some .free := hy
    rcases hy with hy | hy
    · exact cell_has hy
    · exact absurd rfl (S.nofree _ (PySem.mem_of_lookup hy))
  · exact Nat.le_of_lt (x.above y c (PySem.mem_of_lookup h))
  · have hi : i < vs.length := by
      unfold start at h2
      by_cases hi : i < vs.length
      · exact hi
      · rw [List.getElem?_append_right (by simpa using hi)] at h2
        rw [List.getElem?_replicate] at h2
        split at h2 <;> cases h2
    have ha : vs[i]? = some v := by
      unfold start at h2
      rw [List.getElem?_append_left (by simpa using hi), List.getElem?_map] at h2
      cases e : vs[i]? with
      | none => rw [e] at h2; cases h2
      | some a => rw [e] at h2; cases h2; rfl
    obtain ⟨u, hu, rv⟩ := r.get ha
    have hp : ps[i]? = some y := by
      rw [← S.pre, List.getElem?_take_of_lt (by omega)]; exact h1
    have ndP : ps.Nodup := by rw [← S.pre]; exact S.nd.sublist (List.take_sublist _ _)
    refine ⟨u, rv, ?_⟩
    rcases S.par y (List.mem_of_getElem? hp) with k | k
    · exact .inl ⟨k, bindL_get ndP hp hu k⟩
    · obtain ⟨c, e⟩ := cell_has (n := s.heap.objs.size + 1) k
      refine .inr ⟨.inl k, c, e, ?_⟩
      have q := x.cell y c e
      rw [bindC_get ndP hp hu (by show scope.names.lookup y ≠ _; rw [k]; decide)] at q
      exact q
  · exact e0.hok.fresh (Nat.le_of_lt (x.above y c (PySem.mem_of_lookup h)))
  · unfold start
    show _ = N.length
    rw [List.length_append, List.length_map, List.length_replicate]
    omega
theorem fn_of {CX : CXT} {P : Program} {w : World} {K : PySem.W.Frag} {mg : Str → Option Value} {base : Heap} {k : Nat} {f : Addr} {name qual : Str} {params : Arguments} {body : List Stmt} {scope : Scope} {dV kV doc pm cdv ct oc : Value} {an od : Option Addr}
    {osl : Array (Option Value)} {N ps : List Str} {sp : Sp} (lk : K.lookup f = some ⟨oc, od, .func (PySem.W.fnOf name qual params body scope dV kV doc pm an cdv ct), osl⟩) (hcd : PySem.W.codeIn K cdv qual = true) (S : FnScope N ps scope)
    (len : ∀ vs H Q E, sp vs H Q E → vs.length = ps.length)
    (hbody : ∀ (A : Around) (outer : List Env) (s : Shared) (H : Hp) (vs : List V) (Q : VK) (E : XK), Room k (A.deeper (envOfC qual scope s.heap.objs.size f cdv)) → sp vs H Q E →
      ∃ t, PSs (cxOf CX P w K mg base N qual scope f cdv A outer s H E) body t ∧ t { nx := fun _ H' => Q .non H', rt := Q } (start N vs) H) :
    FnOk P w K mg base CX (k + 1) f (PySem.W.fnOf name qual params body scope dV kV doc pm an cdv ct) ps sp := by
  refine ⟨len, fun A outer s H args us vs Q E hr e0 hb r hsp => ?_⟩
  have hl := len _ _ _ _ hsp
  have KX : K.In s.heap := e0.mod.kin.keeps fun b o e => (e0.bs b o e).1
  have lim : s.heap.NoLimit := e0.mod.nolimit.keeps fun b o e => (e0.bs b o e).1
  have hkind : ∀ y ∈ ps.zip us, scope.names.lookup y.1 = some .local ∨ (scope.names.lookup y.1 = some .cell ∧ ((cellsFrom (s.heap.objs.size + 1) scope.names []).lookup y.1).isSome = true) := fun ⟨n, v⟩ hy => by
    rcases S.par n (List.of_mem_zip hy).1 with q | q
    · exact .inl q
    · exact .inr ⟨q, PySem.W.cellsFrom_some _ _ _ (.inl q)⟩
  refine codeAny_call_function hr.depth (KX _ _ lk) rfl S.co S.gen rfl (PySem.W.codeRec_of KX hcd) (hb _ _ _ _ ?_)
  refine wpAny_newFunctionEnv_cells S.kind hkind fun env he s1 x => ?_
  subst he
  refine ⟨lim.keeps x.toInCall.keep, codeAny_func ?_⟩
  obtain ⟨t, ht, hq⟩ := hbody A outer s H vs Q E (hr.deeper _) hsp
  have I : Inv (cxOf CX P w K mg base N qual scope f cdv A outer s H E) [] (start N vs) H s1 := inv_start S hr.hd e0 hl r x
  refine wpAny_mono (ht [] s1 (start N vs) H _ I hq) (fun fl s' hs => ?_) fun e s' hs => hs
  have fin : ∀ {σ' : St} {H' : Hp} {v : V} {u : Value}, Inv (cxOf CX P w K mg base N qual scope f cdv A outer s H E) [] σ' H' s' → RelV v u → Q v H' → CE outer P w H s Q u s' :=
    fun {σ' H' v u} J rv q => ⟨v, H', J.os, J.bare, J.base, J.hok, rv, q⟩
  cases fl with
  | ret u =>
    obtain ⟨v, σ', H', J, rv, q⟩ := hs
    exact fin J rv q
  | next =>
    obtain ⟨σ', H', J, q⟩ := hs
    exact fin (v := V.non) (u := Value.none) J rfl q
  | brk =>
    obtain ⟨_, _, _, q⟩ := hs
    exact False.elim q
  | cont =>
    obtain ⟨_, _, _, q⟩ := hs
    exact False.elim q
end L2
namespace L2
open PySem PySem.Spec PyProof.Rows
section
variable {X : Cx} {x : Str} {p pos : Pos} {e : Expr} {es : List Expr} {t : TA} {id T : String} {r : List V → Hp → VK → Prop}
def tCB (r : List V → Hp → VK → Prop) (t : TA) : TE := fun σ H Q => t σ H fun vs H1 => r vs H1 Q
theorem pe_callB (hc : CallR X (.builtin id) r) (hg : Gl X x) (hm : X.mg x = none) (hv : bootBuiltins x = some (.builtin id)) (ha : PA X (e :: es) t) (hn : x ≠ "__name__" := by decide) (hdb : (x == ("__debug__" : Str)) = false := by decide)
    (he : starEach (e :: es) X.env = (false, eval e X.env) :: starEach es X.env := by rfl) (hpl : (backTo pos (starEach es X.env)).any (·.1) = false := by rfl) : PE X (.Call (.Name x p) (e :: es) [] pos) (tCB r t) := .mk <| by
  intro pins s σ H Q I h
  refine wpAny_Call_Name_kw (ld_blt I hg hm hv ?_ hn hdb)
  exact PyProof.Rows.callWith_builtin1 (thn (ha pos pins s σ H _ I h) fun us s1 ⟨vs, H1, I1, r1, q1⟩ => hc pins s1 σ H1 vs us Q I1 r1 q1) he hpl
theorem pe_callTy (hc : CallR X (.type T) r) (hg : Gl X x) (hm : X.mg x = none) (hv : bootBuiltins x = some (.type T)) (ha : PA X (e :: es) t) (hn : x ≠ "__name__" := by decide) (hdb : (x == ("__debug__" : Str)) = false := by decide)
    (he : starEach (e :: es) X.env = (false, eval e X.env) :: starEach es X.env := by rfl) (hpl : (backTo pos (starEach es X.env)).any (·.1) = false := by rfl) : PE X (.Call (.Name x p) (e :: es) [] pos) (tCB r t) := .mk <| by
  intro pins s σ H Q I h
  refine wpAny_Call_Name_kw (ld_blt I hg hm hv ?_ hn hdb)
  exact PyProof.Rows.callWith_type1 (thn (ha pos pins s σ H _ I h) fun us s1 ⟨vs, H1, I1, r1, q1⟩ => hc pins s1 σ H1 vs us Q I1 r1 q1) he hpl
end
end L2
namespace HT
open PySem PyProof.Rows
section
open PySem.SeqAt
open PySem.AutoSeq1 (wpAny_loadPart')
open PySem.MeetsSeq PySem.MeetsSeq2 PySem.MeetsSeq3
end
section
variable {prog : Program} {w : World} {A : Around} {E : Value → Shared → Prop} {s : Shared}
theorem cat_tup {t b : Addr} {vs ws : List Value} {Q : Value → Shared → Prop} (ht : IsTup s.heap t vs.toArray) (hb : IsTup s.heap b ws.toArray) (hv : vs ≠ [])
    (h1 : ws = [] → Q (.ref t) s) (h2 : ws ≠ [] → Q (.ref s.heap.objs.size) { s with heap := s.heap.push { cls := .type "tuple", data := .seq (vs ++ ws).toArray } })
    (hsz : vs.length + ws.length ≤ sizeLine) : wpAny (model prog w) A (binaryOp .Add (.ref t) (.ref b)) Q E s := by
  obtain ⟨⟨cls, dd, data, sl⟩, ho, hc, n, hd⟩ := id ht
  obtain ⟨⟨cls2, dd2, data2, sl2⟩, ho2, hc2, n2, hd2⟩ := id hb
  simp only at hc hd hc2 hd2
  subst hc hd hc2 hd2
  have e : vs.toArray ++ ws.toArray = (vs ++ ws).toArray := by simp
  by_cases hw : ws = []
  · exact concat_meets ⟨_, ho, rfl⟩ ⟨_, ho2, rfl⟩ noFill_tuple_add seq_tuple_add PySem.F.slot_tuple_add PySem.F.entry_tuple_add (PySem.F.args_tuple_add_2 _ _)
      (tuple_addW1 t b vs.toArray ws.toArray n n2 dd dd2 sl sl2 (by simpa using hv) (by simp [hw])) ⟨ho, ho2, h1 hw⟩
  · refine concat_meets ⟨_, ho, rfl⟩ ⟨_, ho2, rfl⟩ noFill_tuple_add seq_tuple_add PySem.F.slot_tuple_add PySem.F.entry_tuple_add (PySem.F.args_tuple_add_2 _ _)
      (tuple_addW2 t b vs.toArray ws.toArray n n2 dd dd2 sl sl2 (by simpa using hv) (by simpa using hw) (by rw [List.size_toArray, List.size_toArray]; exact hsz)) ⟨ho, ho2, ?_⟩
    rw [e]
    exact h2 hw
def sIx (n d : Nat) : Option Int → Nat
  | none => d
  | some v => if v < 0 then (v + (n : Int)).toNat else min v.toNat n
theorem sIx_le (n d : Nat) (hd : d ≤ n) (o : Option Int) : sIx n d o ≤ n := by
  cases o with
  | none => exact hd
  | some v =>
    show (if v < 0 then (v + (n : Int)).toNat else min v.toNat n) ≤ n
    by_cases hv : v < 0
    · rw [if_pos hv]; omega
    · rw [if_neg hv]; exact Nat.min_le_right _ _
theorem clip_eq (v : Int) (n d : Nat) : (if v < 0 then max (v + (n : Int)) 0 else min v (n : Int)) = ((sIx n d (some v) : Nat) : Int) := by
  show (if v < 0 then max (v + (n : Int)) 0 else min v (n : Int)) = (((if v < 0 then (v + (n : Int)).toNat else min v.toNat n) : Nat) : Int)
  by_cases hv : v < 0
  · simp only [if_pos hv]; omega
  · simp only [if_neg hv]; omega
theorem adjust_gen (lo hi : Option Int) (n : Nat) : Builtin.Slice.sliceAdjust lo hi 1 (n : Int) = (((sIx n 0 lo : Nat) : Int), ((sIx n n hi : Nat) : Int)) := by
  have h1 : ¬ ((1 : Int) < 0) := by omega
  unfold Builtin.Slice.sliceAdjust
  simp only [h1, if_false]
  refine Prod.ext ?_ ?_
  · cases lo with
    | none => rfl
    | some v => exact clip_eq v n 0
  · cases hi with
    | none => rfl
    | some v => exact clip_eq v n n
theorem places_gen (i j : Nat) : Builtin.Slice.slicePlaces (i : Int) (j : Int) 1 = j - i := by
  unfold Builtin.Slice.slicePlaces
  have h1 : (1 : Int) > 0 := by omega
  simp only [h1, if_true, Int.ediv_one]
  split <;> omega
theorem slicePart_ {v : Value} {o : Option Int} {Q : Option Int → Shared → Prop} (p : IsPart v o) (h : Q o s) : wpAny (model prog w) A (Builtin.Slice.slicePartIndex v) Q E s := by
  cases p with
  | none => exact slicePart_none h
  | int i t => exact slicePart_int h
theorem sliceApplied_gen {sl : Addr} {vl vu : Value} {lo hi : Option Int} {n : Nat} {Q : Int × Int × Nat → Shared → Prop} (hs : s.heap.IsSliceOf sl vl vu .none) (pl : IsPart vl lo) (pu : IsPart vu hi)
    (h : Q (((sIx n 0 lo : Nat) : Int), 1, sIx n n hi - sIx n 0 lo) s) : wpAny (model prog w) A (Builtin.Slice.sliceApplied (.ref sl) (pure (n : Int))) Q E s := by
  obtain ⟨os, hos, hcs, hds⟩ := id hs
  unfold Builtin.Slice.sliceApplied Builtin.Slice.sliceFields
  refine wpAny_bind (wpAny_bind (wpAny_field hos hds (x := vl) rfl (wpAny_bind (wpAny_field hos hds (x := vu) rfl (wpAny_bind (wpAny_field hos hds (x := .none) rfl (wpAny_pure ?_)))))))
  refine wpAny_bind (slicePart_none ?_)
  show wpAny _ _ (if ((1 : Int) == 0) = true then _ else _) _ _ s
  rw [if_neg (by decide)]
  refine wpAny_bind (slicePart_ pl (wpAny_bind (slicePart_ pu (wpAny_bind (wpAny_pure ?_)))))
  show wpAny _ _ (match Builtin.Slice.sliceAdjust lo hi 1 (n : Int) with | (lo, hi) => pure (lo, (1 : Int), Builtin.Slice.slicePlaces lo hi 1)) _ _ s
  rw [adjust_gen lo hi n]
  show wpAny _ _ (pure (((sIx n 0 lo : Nat) : Int), (1 : Int), Builtin.Slice.slicePlaces ((sIx n 0 lo : Nat) : Int) ((sIx n n hi : Nat) : Int) 1)) _ _ s
  rw [places_gen]
  exact wpAny_pure h
theorem pick_gen (xs : Array Value) (i k : Nat) : ((List.range k).filterMap fun (m : Nat) => xs[((i : Int) + (m : Int) * 1).toNat]?).toArray = ((xs.toList.drop i).take k).toArray := by
  have e : (fun (m : Nat) => xs[((i : Int) + (m : Int) * 1).toNat]?) = fun m => xs[i + m]? := by
    funext m
    have : ((i : Int) + (m : Int) * 1).toNat = i + m := by omega
    rw [this]
  rw [e]
  have := pick_run xs i k
  rw [List.filterMap_map] at this
  have e2 : ((fun x => xs[x]?) ∘ fun x => i + x) = fun m => xs[i + m]? := rfl
  rw [e2] at this
  rw [this]
theorem getItem_tuple_cut {t sl : Addr} {items : Array Value} {vl vu : Value} {lo hi : Option Int} {Q : Value → Shared → Prop} (ht : IsTup s.heap t items) (hs : s.heap.IsSliceOf sl vl vu .none) (pl : IsPart vl lo) (pu : IsPart vu hi)
    (hw : ¬ (sIx items.size 0 lo = 0 ∧ sIx items.size items.size hi = items.size))
    (h : Q (.ref s.heap.objs.size) { s with heap := s.heap.push { cls := .type "tuple", data := .seq ((items.toList.drop (sIx items.size 0 lo)).take (sIx items.size items.size hi - sIx items.size 0 lo)).toArray } })
    (hsz : items.size ≤ sizeLine) : wpAny (model prog w) A (getItem (.ref t) (.ref sl)) Q E s := by
  have htake : sizeOk (.seq ((items.toList.drop (sIx items.size 0 lo)).take (sIx items.size items.size hi - sIx items.size 0 lo)).toArray) := by
    show ((items.toList.drop (sIx items.size 0 lo)).take (sIx items.size items.size hi - sIx items.size 0 lo)).toArray.size ≤ sizeLine
    rw [List.size_toArray, List.length_take, List.length_drop, Array.length_toList]
    omega
  have hj : sIx items.size items.size hi ≤ items.size := sIx_le _ _ (Nat.le_refl _) hi
  obtain ⟨os, hos, hcs, hds⟩ := id hs
  have hTs : s.TypeIs (.ref sl) "slice" := ⟨os, hos, hcs⟩
  unfold getItem
  try with_reducible refine wpAny_holding ?_
  first | refine wpAny_bind (wpAny_pure ?_) | skip
  refine wpAny_bind (wpAny_sequenceKey ht.typeIs (by decide) ?_)
  refine wpAny_bind (wpAny_callSpecial?_slot (name := Str.ofString "__getitem__") ht.typeIs PyProof.Rows.slot_tuple_getitem
    (wpAny_call_entry PyProof.Rows.slot_tuple_getitem ht.typeIs entry_tuple_getitem ?_ (args_tuple_getitem _ _)))
  show wpAny _ _ (Builtin.Tuple.tupleItemsOf (.ref t) >>= _) _ _ s
  refine wpAny_bind (tupleItemsOf_ ht ?_)
  refine wpAny_bind (wpAny_typeOf hTs ?_)
  rw [if_pos (by decide)]
  refine wpAny_bind (sliceApplied_gen hs pl pu ?_)
  have hno : ¬ ((((sIx items.size 0 lo : Nat) : Int) == 0 && (1 : Int) == 1 && (sIx items.size items.size hi - sIx items.size 0 lo) == items.size) = true) := by
    intro q
    rw [Bool.and_eq_true, Bool.and_eq_true] at q
    have q1 : ((sIx items.size 0 lo : Nat) : Int) = 0 := eq_of_beq q.1.1
    have q2 : sIx items.size items.size hi - sIx items.size 0 lo = items.size := eq_of_beq q.2
    exact hw ⟨by omega, by omega⟩
  show wpAny _ _ (if (((sIx items.size 0 lo : Nat) : Int) == 0 && (1 : Int) == 1 && (sIx items.size items.size hi - sIx items.size 0 lo) == items.size) = true then _ else _) _ _ s
  rw [if_neg hno, pick_gen]
  first
    | exact wpAny_bind (m := Builtin.Tuple.tupleExact _) (wpAny_newObj_type (wpAny_pure ⟨_, rfl, wpAny_pure h⟩) htake)
    | exact wpAny_bind (m := Builtin.Tuple.tupleExact _) (wpAny_newObj_type (wpAny_bind (wpAny_pure (wpAny_pure ⟨_, rfl, wpAny_pure h⟩))) htake)
    | exact wpAny_bind (wpAny_bind (m := Builtin.Tuple.tupleExact _) (wpAny_newObj_type (wpAny_pure (wpAny_pure ⟨_, rfl, wpAny_pure h⟩)) htake))
    | exact wpAny_bind (wpAny_bind (m := Builtin.Tuple.tupleExact _) (wpAny_newObj_type (wpAny_pure ⟨_, rfl, wpAny_pure h⟩) htake))
end
end HT
namespace L2
open PySem PySem.Spec PyProof.Rows
abbrev TO := St → Hp → (Option Int → Hp → Prop) → Prop
def PO (X : Cx) (e : Option Expr) (t : TO) : Prop :=
  ∀ (pins : List (Addr × Obj)) (s : Shared) (σ : St) (H : Hp) (Q : Option Int → Hp → Prop), Inv X pins σ H s → t σ H Q →
    wpAny (model X.prog X.w) X.A (evalPart e X.env) (fun u s' => ∃ o H', Inv X pins σ H' s' ∧ IsPart u o ∧ Q o H') X.xe s
def tNoPart : TO := fun _ H Q => Q none H
def tPart (t : TE) : TO := fun σ H Q => t σ H fun x H1 => ∃ i, x = .int i ∧ Q (some i) H1
section
variable {X : Cx} {e : Expr} {te : TE} {lo hi : Option Expr} {tl th : TO} {pos p2 : Pos}
theorem po_none : PO X none tNoPart := by
  intro pins s σ H Q I h
  rw [evalPart_none]
  exact wpAny_pure ⟨none, H, I, .none, h⟩
theorem po_some (h : PE X e te) : PO X (some e) (tPart te) := by
  intro pins s σ H Q I hw
  rw [evalPart_some]
  refine thn (h pins s σ H _ I hw) fun u s1 ⟨x, H1, I1, r1, q1⟩ => ?_
  obtain ⟨i, rfl, q⟩ := q1
  obtain ⟨t, rfl⟩ := r1
  exact ⟨some i, H1, I1, .int i t, q⟩
def SlR (X : Cx) (r : V → Option Int → Option Int → Hp → VK → Prop) : Prop :=
  ∀ (pins : List (Addr × Obj)) (s : Shared) (σ : St) (H : Hp) (x : V) (v vl vu : Value) (lo hi : Option Int) (sl : Addr) (Q : VK), Inv X pins σ H s → RelV x v → s.heap.IsSliceOf sl vl vu .none → IsPart vl lo → IsPart vu hi → r x lo hi H Q →
    ∃ T id, typeLookup (.type T) "__getitem__" = pure (some (.builtin id)) ∧ s.TypeIs v T ∧ wpAny (model X.prog X.w) X.A (getItem v (.ref sl)) (EP X pins σ Q) X.xe s
theorem SlR.or {r r' : V → Option Int → Option Int → Hp → VK → Prop} (h : SlR X r) (h' : SlR X r') : SlR X (fun x lo hi H Q => r x lo hi H Q ∨ r' x lo hi H Q) := by
  intro pins s σ H x v vl vu lo hi sl Q I rx hs pl pu q
  rcases q with q | q
  · exact h pins s σ H x v vl vu lo hi sl Q I rx hs pl pu q
  · exact h' pins s σ H x v vl vu lo hi sl Q I rx hs pl pu q
def tSl (r : V → Option Int → Option Int → Hp → VK → Prop) (te : TE) (tl th : TO) : TE := fun σ H Q => te σ H fun x H1 => tl σ H1 fun l H2 => th σ H2 fun u H3 => r x l u H3 Q
theorem pe_slice {r : V → Option Int → Option Int → Hp → VK → Prop} (hr : SlR X r) (he : PE X e te) (hl : PO X lo tl) (hu : PO X hi th) : PE X (.Subscript e (.Slice lo hi none p2) pos) (tSl r te tl th) := .mk <| by
  intro pins s σ H Q I h
  refine Subscript_ (thn (he pins s σ H _ I h) fun v s1 ⟨x, H1, I1, r1, q1⟩ => ?_)
  refine wpAny_Slice (thn (hl pins s1 σ H1 _ I1 q1) fun vl s2 ⟨l, H2, I2, pl, q2⟩ => thn (hu pins s2 σ H2 _ I2 q2) fun vu s3 ⟨u, H3, I3, pu, q3⟩ => ?_)
  rw [evalPart_none]
  refine wpAny_pure ?_
  have I4 : Inv X pins σ H3 { s3 with heap := s3.heap.push { cls := .type "slice", data := .fields #[vl, vu, .none] } } := I3.kept (t' := s3.toks) fun b ob q => Heap.get?_push_of_some _ q
  obtain ⟨T, id, hT, ht, hg⟩ := hr pins { s3 with heap := s3.heap.push { cls := .type "slice", data := .fields #[vl, vu, .none] } } σ H3 x v vl vu l u s3.heap.objs.size Q I4 r1 (Heap.IsSliceOf.new ..) pl pu q3
  show wpAny (model X.prog X.w) X.A (subscriptTail e (.Slice lo hi none p2) v (.ref s3.heap.objs.size)) (EP X pins σ Q) X.xe { s3 with heap := s3.heap.push { cls := .type "slice", data := .fields #[vl, vu, .none] } }
  exact tail_any (ops := [.ref s3.heap.objs.size, v]) ht hT hg (by with_unfolding_all rfl)
def cutV (xs : List V) (lo hi : Option Int) : List V := (xs.drop (HT.sIx xs.length 0 lo)).take (HT.sIx xs.length xs.length hi - HT.sIx xs.length 0 lo)
theorem cutV_length (xs : List V) (lo hi : Option Int) : (cutV xs lo hi).length ≤ xs.length := by
  unfold cutV
  rw [List.length_take, List.length_drop]
  omega
def rSlT (K : PySem.W.Frag) : V → Option Int → Option Int → Hp → VK → Prop := fun x lo hi H Q => ∃ a xs, x = .ref a ∧ SqT K H a xs ∧
  ¬ (HT.sIx xs.length 0 lo = 0 ∧ HT.sIx xs.length xs.length hi = xs.length) ∧ ∀ p, H p = none → Q (.ref p) (upd H p (.tup (cutV xs lo hi)))
theorem sl_tup : SlR X (rSlT X.K) := by
  intro pins s σ H x v vl vu lo hi sl Q I rx hs pl pu h
  obtain ⟨a, xs, rfl, hx, hw, q⟩ := h
  cases rx
  obtain ⟨its, r, ht, hz⟩ := I.tuple hx
  have hlen : its.toArray.size = xs.length := by rw [List.size_toArray]; exact r.length.symm
  refine ⟨"tuple", _, PyProof.Rows.slot_tuple_getitem.lookup, ht.typeIs, ?_⟩
  refine HT.getItem_tuple_cut ht hs pl pu (by rw [hlen]; exact hw) ?_ (by rw [hlen]; exact hz)
  rw [hlen]
  refine ⟨.ref s.heap.objs.size, _, I.laid (t' := s.toks) (o := .tup (cutV xs lo hi)) (fun b ob q => Heap.get?_push_of_some _ q) (Nat.le_refl _) ?_, rfl, q _ (I.hok.fresh (Nat.le_refl _))⟩
  exact ⟨Nat.le_trans (cutV_length xs lo hi) hz, _, (r.drop (HT.sIx xs.length 0 lo)).take (HT.sIx xs.length xs.length hi - HT.sIx xs.length 0 lo), IsTup.new _ _⟩
def rCatT (K : PySem.W.Frag) : R2 := fun x y H Q => ∃ a b xs ys, x = .ref a ∧ y = .ref b ∧ SqT K H a xs ∧ SqT K H b ys ∧ xs ≠ [] ∧ xs.length + ys.length ≤ sizeLine ∧
  (ys = [] → Q (.ref a) H) ∧ (ys ≠ [] → ∀ p, H p = none → Q (.ref p) (upd H p (.tup (xs ++ ys))))
theorem Vals.nil_iff {xs : List V} {us : List Value} (r : Vals xs us) : us = [] ↔ xs = [] := by
  cases r with
  | nil => simp
  | cons _ _ => simp
theorem op_catT : OpR X (binaryOp .Add) (rCatT X.K) := by
  intro pins s σ H x y v u Q I rx ry h
  obtain ⟨a, b, xs, ys, rfl, rfl, ha, hb, hx, hz, q1, q2⟩ := h
  cases rx
  cases ry
  obtain ⟨its, r1, p1, _⟩ := I.tuple ha
  obtain ⟨its2, r2, p2, _⟩ := I.tuple hb
  refine HT.cat_tup p1 p2 (fun z => hx (r1.nil_iff.mp z)) (fun z => ⟨.ref a, H, I, rfl, q1 (r2.nil_iff.mp z)⟩) (fun z => ?_) (by rw [← r1.length, ← r2.length]; exact hz)
  refine ⟨.ref s.heap.objs.size, _, I.laid (t' := s.toks) (o := .tup (xs ++ ys)) (fun b ob q => Heap.get?_push_of_some _ q) (Nat.le_refl _) ?_, rfl, q2 (fun w => z (r2.nil_iff.mpr w)) _ (I.hok.fresh (Nat.le_refl _))⟩
  exact ⟨by rw [List.length_append]; exact hz, _, r1.append r2, IsTup.new _ _⟩
end
end L2
namespace L2
open PySem PySem.Spec PyProof.Rows
def ixN (n : Nat) (i : Int) : Option Nat := if 0 ≤ i then (if i < n then some i.toNat else none) else if -(n : Int) ≤ i then some (i + n).toNat else none
def atI {α : Type} (xs : List α) (i : Int) : Option α := (ixN xs.length i).bind fun j => xs[j]?
theorem ixN_seq {n : Nat} {i : Int} {j : Nat} (h : ixN n i = some j) : seqIndex? i n = some j ∧ j < n ∧ -(n : Int) ≤ i ∧ i < n := by
  unfold ixN at h
  by_cases h0 : 0 ≤ i
  · rw [if_pos h0] at h
    by_cases h1 : i < n
    · rw [if_pos h1] at h
      have e : i.toNat = j := Option.some.inj h
      exact ⟨by rw [seqIndex_of h0 h1, e], by omega, by omega, h1⟩
    · rw [if_neg h1] at h; cases h
  · rw [if_neg h0] at h
    by_cases h1 : -(n : Int) ≤ i
    · rw [if_pos h1] at h
      have e : (i + n).toNat = j := Option.some.inj h
      exact ⟨by rw [seqIndex_neg (by omega) h1, e], by omega, h1, by omega⟩
    · rw [if_neg h1] at h; cases h
theorem atI_get {α : Type} {xs : List α} {i : Int} {v : α} (h : atI xs i = some v) : ∃ j, seqIndex? i xs.length = some j ∧ xs[j]? = some v ∧ j < xs.length ∧ -(xs.length : Int) ≤ i ∧ i < xs.length := by
  unfold atI at h
  cases e : ixN xs.length i with
  | none => rw [e] at h; cases h
  | some j =>
    rw [e] at h
    obtain ⟨h1, h2, h3, h4⟩ := ixN_seq e
    exact ⟨j, h1, h, h2, h3, h4⟩
theorem atI_nat {α : Type} {xs : List α} {j : Nat} {v : α} (h : xs[j]? = some v) : atI xs (j : Int) = some v := by
  have hj : j < xs.length := (List.getElem?_eq_some_iff.mp h).1
  have e : ixN xs.length (j : Int) = some j := by
    unfold ixN
    rw [if_pos (by omega), if_pos (by omega)]; simp
  unfold atI; rw [e]; exact h
def PlainIx (b : Expr) : Prop := ∀ o i, subscripted b false o i = operate [o, i] (getItem o i)
def IxR (X : Cx) (r : R2) : Prop :=
  ∀ (value slice : Expr) (pins : List (Addr × Obj)) (s : Shared) (σ : St) (H : Hp) (x y : V) (v u : Value) (Q : VK), Inv X pins σ H s → RelV x v → RelV y u → r x y H Q →
    subscripted slice false v u = operate [v, u] (getItem v u) → wpAny (model X.prog X.w) X.A (subscriptTail value slice v u) (EP X pins σ Q) X.xe s
def MtR (X : Cx) (id : String) (r : V → List V → Hp → VK → Prop) : Prop :=
  ∀ (pins : List (Addr × Obj)) (s : Shared) (σ : St) (H : Hp) (x : V) (xs : List V) (v : Value) (us : List Value) (Q : VK), Inv X pins σ H s → RelV x v → Vals xs us → r x xs H Q →
    wpAny (model X.prog X.w) X.A (call (.builtin id) (v :: us)) (EP X pins σ Q) X.xe s
section
variable {X : Cx} {a b : Expr} {ta tb : TE} {pos : Pos}
theorem IxR.or {r r' : R2} (h : IxR X r) (h' : IxR X r') : IxR X (fun x y H Q => r x y H Q ∨ r' x y H Q) := by
  intro value slice pins s σ H x y v u Q I rx ry q hs
  rcases q with q | q
  · exact h value slice pins s σ H x y v u Q I rx ry q hs
  · exact h' value slice pins s σ H x y v u Q I rx ry q hs
theorem MtR.or {id : String} {r r' : V → List V → Hp → VK → Prop} (h : MtR X id r) (h' : MtR X id r') : MtR X id (fun x xs H Q => r x xs H Q ∨ r' x xs H Q) := by
  intro pins s σ H x xs v us Q I rx rs q
  rcases q with q | q
  · exact h pins s σ H x xs v us Q I rx rs q
  · exact h' pins s σ H x xs v us Q I rx rs q
theorem pe_ix {r : R2} (hr : IxR X r) (ha : PE X a ta) (hb : PE X b tb) (hs : PlainIx b) : PE X (.Subscript a b pos) (tOp r ta tb) := .mk <| by
  intro pins s σ H Q I h
  exact Subscript_ (binT ha hb I h fun v u s2 x y H2 I2 rx ry q => hr a b pins s2 σ H2 x y v u Q I2 rx ry q (hs _ _))
def rIxL (K : PySem.W.Frag) : R2 := fun x y H Q => ∃ p xs i v, x = .ref p ∧ y = .int i ∧ SqL K H p xs ∧ atI xs i = some v ∧ Q v H
def rIxT (K : PySem.W.Frag) : R2 := fun x y H Q => ∃ p xs i v, x = .ref p ∧ y = .int i ∧ SqT K H p xs ∧ atI xs i = some v ∧ Q v H
def rIxS : R2 := fun x y H Q => ∃ z i c, x = .str z ∧ y = .int i ∧ z.length ≤ sizeLine ∧ atI z.cps.toList i = some c ∧ Q (.str ⟨#[c]⟩) H
theorem ix_list : IxR X (rIxL X.K) := by
  intro value slice pins s σ H x y v u Q I rx ry h hs
  obtain ⟨p, xs, i, z, rfl, rfl, hq, he, q⟩ := h
  cases rx
  obtain ⟨t, rfl⟩ := ry
  obtain ⟨its, r, pl, hz⟩ := I.list hq
  obtain ⟨j, h1, h2, h3, h4, h5⟩ := atI_get he
  obtain ⟨w, ew, rw'⟩ := r.get h2
  have hl := r.length
  have hn := line63
  have fin : EP X pins σ Q w s := ⟨z, H, I, rw', q⟩
  by_cases h0 : 0 ≤ i
  · have hj : i.toNat = j := by
      rw [seqIndex_of h0 h5] at h1
      exact Option.some.inj h1
    exact item_listR pl.isList h0 (by omega) (by rw [hj]; simpa using ew) fin hs
  · have hj : (i + (its.toArray.size : Int)).toNat = j := by
      rw [seqIndex_neg (by omega) h4] at h1
      rw [List.size_toArray, ← hl]
      exact Option.some.inj h1
    exact subscriptTail_builtinR (x := w) pl.isList.typeIs slot_list_getitem.lookup
      (wpAny_getItem_list_neg (Q := fun r s' => r = w ∧ EP X pins σ Q r s') pl.isList (by omega) (by rw [List.size_toArray] <;> omega) (by omega) (by rw [hj]; simpa using ew) ⟨rfl, fin⟩) hs
theorem ix_tup : IxR X (rIxT X.K) := by
  intro value slice pins s σ H x y v u Q I rx ry h hs
  obtain ⟨p, xs, i, z, rfl, rfl, hq, he, q⟩ := h
  cases rx
  obtain ⟨t, rfl⟩ := ry
  obtain ⟨its, r, pl, hz⟩ := I.tuple hq
  obtain ⟨j, h1, h2, h3, h4, h5⟩ := atI_get he
  obtain ⟨w, ew, rw'⟩ := r.get h2
  have hl := r.length
  have hn := line63
  have fin : EP X pins σ Q w s := ⟨z, H, I, rw', q⟩
  exact subscriptTail_builtinR (x := w) pl.typeIs slot_tuple_getitem.lookup
    (getItem_tuple (j := j) (Q := fun r s' => r = w ∧ EP X pins σ Q r s') pl (by omega) (by omega) (by rw [List.size_toArray, ← hl]; exact h1) (by simpa using ew) ⟨rfl, fin⟩) hs
theorem ix_str : IxR X rIxS := by
  intro value slice pins s σ H x y v u Q I rx ry h hs
  obtain ⟨z, i, c, rfl, rfl, hz, he, q⟩ := h
  obtain ⟨t, rfl⟩ := rx
  obtain ⟨t', rfl⟩ := ry
  obtain ⟨j, h1, h2, h3, h4, h5⟩ := atI_get he
  have hl : z.cps.toList.length = z.length := by simp [Str.length]
  rw [hl] at h1 h4 h5
  have hn := line63
  exact tail_any (typeIs_str s z t) slot_str_getitem.lookup (getItem_str (c := c) (by
    have e1 : decide (i < -(2 ^ 63 : Int)) = false := decide_eq_false (by omega)
    have e2 : decide (i ≥ 2 ^ 63) = false := decide_eq_false (by omega)
    rw [e1, e2, Bool.or_false]) (by rw [h1]; simpa using h2) ⟨.str ⟨#[c]⟩, H, I.tok _, ⟨_, rfl⟩, q⟩) hs
def rIx (K : PySem.W.Frag) : R2 := fun x y H Q => rIxL K x y H Q ∨ rIxT K x y H Q ∨ rIxS x y H Q
theorem ix_seq : IxR X (rIx X.K) := ix_list.or (ix_tup.or ix_str)
theorem mapSeq_set (its : List Value) (n j : Nat) (u : Value) : Obj.mapSeq (·.setIfInBounds j u) { cls := .type "list", data := .seq its.toArray n } = { cls := .type "list", data := .seq (its.set j u).toArray n } := by
  simp [Obj.mapSeq]
theorem Inv.lst {pins : List (Addr × Obj)} {σ : St} {H : Hp} {s : Shared} {p : Addr} {xs : List V} (I : Inv X pins σ H s) (h : H p = some (.lst xs)) :
    ∃ (its : List Value) (n : Nat), Vals xs its ∧ s.heap.get? p = some { cls := .type "list", data := .seq its.toArray n } ∧ xs.length ≤ sizeLine := by
  obtain ⟨z, its, n, r, e⟩ := I.hok p _ h
  exact ⟨its, n, r, e, z⟩
theorem Inv.lstUpd {pins : List (Addr × Obj)} {σ : St} {H : Hp} {s : Shared} {p : Addr} {xs ys : List V} {its its' : List Value} {n n' : Nat} {f : Obj → Obj} (I : Inv X pins σ H s) (h : H p = some (.lst xs))
    (ho : s.heap.get? p = some { cls := .type "list", data := .seq its.toArray n }) (hf : f { cls := .type "list", data := .seq its.toArray n } = { cls := .type "list", data := .seq its'.toArray n' }) (r : Vals ys its') (hz : ys.length ≤ sizeLine) (t : Nat) :
    Inv X pins σ (upd H p (.lst ys)) { s with heap := s.heap.update p f, toks := t } := by
  have e : (s.heap.update p f).get? p = some { cls := .type "list", data := .seq its'.toArray n' } := by
    rw [Heap.get?_update_self f ho (by rw [hf] <;> rfl), hf]
  refine I.write (x := p) (e := p) (by rw [h]; trivial) (.inl rfl) (fun b u hb q => (Heap.get?_update_other _ _ (Ne.symm hb)).trans q) ⟨_, e⟩ ?_
  exact ⟨hz, its', n', r, e⟩
def rSetL : V → V → V → Hp → (Hp → Prop) → Prop := fun o i v H Q => ∃ p xs k j, o = .ref p ∧ i = .int k ∧ H p = some (.lst xs) ∧ ixN xs.length k = some j ∧ Q (upd H p (.lst (xs.set j v)))
theorem set_list : PSet X rSetL := by
  intro pins s σ H o i v ov iv u Q I ro ri rv h
  obtain ⟨p, xs, k, j, rfl, rfl, hp, hj, q⟩ := h
  cases ro
  obtain ⟨t, rfl⟩ := ri
  obtain ⟨its, n, r, ho, hz⟩ := I.lst hp
  obtain ⟨h1, h2, h3, h4⟩ := ixN_seq hj
  have hl := r.length
  have hn := line63
  have I' : Inv X pins σ (upd H p (.lst (xs.set j v))) { s with heap := s.heap.update p (Obj.mapSeq (·.setIfInBounds j u)) } :=
    I.lstUpd hp ho (mapSeq_set its n j u) (r.set rv j) (by rw [List.length_set]; exact hz) s.toks
  by_cases h0 : 0 ≤ k
  · have hk : k.toNat = j := by
      rw [seqIndex_of h0 h4] at h1
      exact Option.some.inj h1
    exact PySem.W.ki_setAt ho h0 (by omega) (by rw [List.size_toArray, ← hl]; exact h4) (by rw [hk]; exact ⟨_, I', q⟩)
  · have hk : (k + (its.toArray.size : Int)).toNat = j := by
      rw [seqIndex_neg (by omega) h3] at h1
      rw [List.size_toArray, ← hl]
      exact Option.some.inj h1
    exact PySem.W.ki_setBack ho (by omega) (by rw [List.size_toArray, ← hl]; exact h3) (by omega) (by rw [hk]; exact ⟨_, I', q⟩)
theorem slice_bounds (lo hi : Option Int) (n : Nat) : (sliceBounds lo hi none n).1 = ((HT.sIx n 0 lo : Nat) : Int) ∧ (sliceBounds lo hi none n).2.1 = ((HT.sIx n n hi : Nat) : Int) ∧ (sliceBounds lo hi none n).2.2 = 1 := by
  refine ⟨?_, ?_, rfl⟩
  · cases lo with
    | none => simp [sliceBounds, HT.sIx]
    | some i =>
      simp only [sliceBounds, HT.sIx, Option.getD_none, show (1 : Int) > 0 by decide, if_true]
      by_cases h : i < 0
      · simp only [h, if_true] <;> omega
      · simp only [h, if_false] <;> omega
  · cases hi with
    | none => simp [sliceBounds, HT.sIx]
    | some i =>
      simp only [sliceBounds, HT.sIx, Option.getD_none, show (1 : Int) > 0 by decide, if_true]
      by_cases h : i < 0
      · simp only [h, if_true] <;> omega
      · simp only [h, if_false] <;> omega
theorem slicePick_cut (its : List Value) (lo hi : Option Int) : slicePick its.toArray lo hi none = ((its.drop (HT.sIx its.length 0 lo)).take (HT.sIx its.length its.length hi - HT.sIx its.length 0 lo)).toArray := by
  obtain ⟨h1, h2, h3⟩ := slice_bounds lo hi its.toArray.size
  unfold slicePick
  rw [h1, h2, h3]
  simp only [sliceRange_one, pick_run, List.size_toArray] <;> rfl
def rSlL (K : PySem.W.Frag) : V → Option Int → Option Int → Hp → VK → Prop := fun x lo hi H Q => ∃ a xs, x = .ref a ∧ SqL K H a xs ∧ ∀ p, H p = none → Q (.ref p) (upd H p (.lst (cutV xs lo hi)))
theorem sl_list : SlR X (rSlL X.K) := by
  intro pins s σ H x v vl vu lo hi sl Q I rx hs pl pu h
  obtain ⟨a, xs, rfl, hx, q⟩ := h
  cases rx
  obtain ⟨its, r, ht, hz⟩ := I.list hx
  have hlen := r.length
  refine ⟨"list", _, slot_list_getitem.lookup, ht.isList.typeIs, ?_⟩
  refine wpAny_getItem_list_slice ht.isList hs pl pu .none (by simp) ?_ (by rw [List.size_toArray] <;> omega)
  rw [slicePick_cut, ← hlen]
  refine ⟨.ref s.heap.objs.size, _, I.laid (t' := s.toks) (o := .lst (cutV xs lo hi)) (fun b ob q => Heap.get?_push_of_some _ q) (Nat.le_refl _) ?_, rfl, q _ (I.hok.fresh (Nat.le_refl _))⟩
  exact ⟨Nat.le_trans (cutV_length xs lo hi) hz, _, 0, (r.drop (HT.sIx xs.length 0 lo)).take (HT.sIx xs.length xs.length hi - HT.sIx xs.length 0 lo), Heap.get?_push_size _ rfl⟩
theorem CallR.or {f : Value} {r r' : List V → Hp → VK → Prop} (h : CallR X f r) (h' : CallR X f r') : CallR X f (fun xs H Q => r xs H Q ∨ r' xs H Q) := by
  intro pins s σ H xs us Q I rs q
  rcases q with q | q
  · exact h pins s σ H xs us Q I rs q
  · exact h' pins s σ H xs us Q I rs q
theorem call_list_of : CallR X (.type "list") (fun xs H Q => ∃ p ys, xs = [.ref p] ∧ (SqL X.K H p ys ∨ SqT X.K H p ys) ∧ ∀ l, H l = none → Q (.ref l) (upd H l (.lst ys))) := by
  intro pins s σ H xs us Q I r h
  obtain ⟨p, ys, rfl, hq, q⟩ := h
  obtain ⟨u, rfl, rx⟩ := vals1 r
  cases rx
  have fin : ∀ (its : List Value), Vals ys its → ys.length ≤ sizeLine → ∀ (h' : Heap) (c' : Nat), (∀ b o', s.heap.get? b = some o' → h'.get? b = some o') →
      h'.get? s.heap.objs.size = some { cls := .type "list", dict := none, data := .seq its.toArray c', slots := #[] } → EP X pins σ Q (.ref s.heap.objs.size) { s with heap := h' } := fun its r' hz h' c' kp e =>
    ⟨.ref s.heap.objs.size, _, I.laid (t' := s.toks) kp (Nat.le_refl _) (show ObjOk X.prog X.w _ h' _ (.lst ys) from ⟨hz, its, c', r', e⟩), rfl, q _ (I.hok.fresh (Nat.le_refl _))⟩
  rcases hq with hq | hq
  · obtain ⟨its, r', pl, hz⟩ := I.list hq
    have hlen := r'.length
    obtain ⟨o, ho, hc, n, hd⟩ := pl.isList
    exact call_list_seq p (.inl rfl) ho hc hd (fun h' c' kp e => fin its r' hz h' c' kp e) (by simp only [List.size_toArray] <;> omega)
  · obtain ⟨its, r', pl, hz⟩ := I.tuple hq
    have hlen := r'.length
    obtain ⟨o, ho, hc, n, hd⟩ := pl
    exact call_list_seq p (.inr rfl) ho hc hd (fun h' c' kp e => fin its r' hz h' c' kp e) (by simp only [List.size_toArray] <;> omega)
theorem call_tuple_of : CallR X (.type "tuple") (fun xs H Q => ∃ p ys, xs = [.ref p] ∧ ((SqL X.K H p ys ∧ ∀ l, H l = none → Q (.ref l) (upd H l (.tup ys))) ∨ (SqT X.K H p ys ∧ Q (.ref p) H))) := by
  intro pins s σ H xs us Q I r h
  obtain ⟨p, ys, rfl, h⟩ := h
  obtain ⟨u, rfl, rx⟩ := vals1 r
  cases rx
  rcases h with ⟨hq, q⟩ | ⟨hq, q⟩
  · obtain ⟨its, r', pl, hz⟩ := I.list hq
    have hlen := r'.length
    refine call_tuple_list pl.isList (fun h' kp => ?_) (by simp only [List.size_toArray] <;> omega)
    have I1 : Inv X pins σ H { s with heap := h' } := I.kept (t' := s.toks) kp
    have I2 : Inv X pins σ (upd H h'.objs.size (.tup ys)) { s with heap := h'.push { cls := .type "tuple", data := .seq its.toArray } } :=
      I1.laid (t' := s.toks) (fun b o e => Heap.get?_push_of_some _ e) (Nat.le_refl _) (show ObjOk X.prog X.w _ _ _ (.tup ys) from ⟨hz, its, r', IsTup.new _ _⟩)
    exact ⟨.ref h'.objs.size, _, I2, rfl, q _ (I1.hok.fresh (Nat.le_refl _))⟩
  · obtain ⟨its, r', pl, hz⟩ := I.tuple hq
    exact call_tuple_same pl ⟨.ref p, H, I, rfl, q⟩
def tyV (K : PySem.W.Frag) (T : String) (x : V) (H : Hp) : Prop := match x with
  | .str _ => T = "str"
  | .int _ => T = "int"
  | .ref p => (T = "list" ∧ ∃ xs, SqL K H p xs) ∨ (T = "tuple" ∧ ∃ o, K.lookup p = some o ∧ o.cls = .type "tuple" ∧ o.dict = none) ∨
      (T = "dict" ∧ ((∃ kvs, H p = some (.dK kvs)) ∨ ∃ kvs, H p = some (.dT kvs))) ∨ (T = "set" ∧ ∃ S n, H p = some (.set S n))
  | _ => False
theorem tyV_is {pins : List (Addr × Obj)} {σ : St} {H : Hp} {s : Shared} {T : String} {x : V} {v : Value} (I : Inv X pins σ H s) (r : RelV x v) (ty : tyV X.K T x H) :
    s.TypeIs v T ∧ ∀ a, v = .ref a → ∃ ob, s.heap.get? a = some ob ∧ ob.dict = none := by
  cases x with
  | str z =>
    obtain ⟨t, rfl⟩ := r
    cases (show T = "str" from ty)
    exact ⟨typeIs_str s z t, fun _ e => nomatch e⟩
  | int i =>
    obtain ⟨t, rfl⟩ := r
    cases (show T = "int" from ty)
    exact ⟨typeIs_int s i t, fun _ e => nomatch e⟩
  | ref p =>
    cases r
    rcases ty with ⟨rfl, xs, hq⟩ | ⟨rfl, o, hk, hc, hd⟩ | ⟨rfl, hk⟩ | ⟨rfl, S, n, hk⟩
    · obtain ⟨its, _, pl, _⟩ := I.list hq
      refine ⟨pl.isList.typeIs, fun a e => ?_⟩
      cases e
      obtain ⟨o, n, e, c, hd, _⟩ := pl
      exact ⟨o, e, hd⟩
    · refine ⟨⟨o, I.kIn p o hk, hc⟩, fun a e => ?_⟩
      cases e
      exact ⟨o, I.kIn _ o hk, hd⟩
    · have z : ∃ o, s.heap.get? p = some o ∧ o.ExactDict := by
        rcases hk with ⟨kvs, hk⟩ | ⟨kvs, hk⟩
        · obtain ⟨_, _, _, _, o, _, _, e, ex, _⟩ := I.hok p _ hk
          exact ⟨o, e, ex⟩
        · obtain ⟨_, _, _, _, o, _, _, e, ex, _⟩ := I.hok p _ hk
          exact ⟨o, e, ex⟩
      obtain ⟨o, e, ex⟩ := z
      refine ⟨⟨o, e, ex.1⟩, fun a e2 => ?_⟩
      cases e2
      exact ⟨o, e, ex.2.1⟩
    · obtain ⟨o, _, _, _, e, ex, _⟩ := I.hok p _ hk
      refine ⟨⟨o, e, ex.1⟩, fun a e2 => ?_⟩
      cases e2
      exact ⟨o, e, ex.2.1⟩
  | _ => exact False.elim ty
def tBM (K : PySem.W.Frag) (T : String) (r : V → List V → Hp → VK → Prop) (to : TE) (t : TA) : TE := fun σ H Q => to σ H fun x H1 => tyV K T x H1 ∧ t σ H1 fun xs H2 => r x xs H2 Q
variable {o e : Expr} {es : List Expr} {to : TE} {t : TA} {name : Str} {apos cpos : Pos} {T id : String} {r : V → List V → Hp → VK → Prop}
theorem pe_bm (pa : PlainAttrs T) (slot : Slot T name id) (hty : typeOf (.builtin id) = pure (.type "method_descriptor")) (hm : MtR X id r) (ho : PE X o to) (ha : PA X (e :: es) t)
    (hbase : attributeBase o name X.env (eval o X.env) = eval o X.env := by rfl)
    (hfew : ((backTo cpos (starEach (e :: es) X.env)).all (fun x => !x.1) && (backToKw cpos (keywordEach [] X.env)).all (fun x => x.1.isSome)
      && decide ((e :: es).length + ([] : List Keyword).length + (if ([] : List Keyword).isEmpty then 0 else 1) < 30)) = true := by rfl)
    (hline : (apos.endLine == cpos.line) = true := by rfl) (hs : starEach (e :: es) X.env = (false, eval e X.env) :: starEach es X.env := by rfl) (hplain : (backTo cpos (starEach es X.env)).any (·.1) = false := by rfl) :
    PE X (.Call (.Attribute o name apos) (e :: es) [] cpos) (tBM X.K T r to t) := .mk <| by
  intro pins s σ H Q I h
  refine wpAny_Call_method_late hbase hfew hline rfl (thn (ho pins s σ H _ I h) fun v s1 ⟨x, H1, I1, r1, ty, q1⟩ => ?_)
  obtain ⟨h1, h2⟩ := tyV_is I1 r1 ty
  refine ⟨T, id, pa, slot, hty, h1, h2, ?_⟩
  have hA := ha cpos pins s1 σ H1 _ I1 q1
  rw [hs] at hA ⊢
  refine Calls.callWith_builtin (by show (false || (backTo cpos (starEach es X.env)).any (·.1)) = false; rw [hplain] <;> rfl) (Calls.evalArgs_plain ?_)
  exact thn hA fun us s2 ⟨vs, H2, I2, r2, q2⟩ => hm pins s2 σ H2 x vs v us Q I2 r1 r2 q2
end
end L2
namespace L2
open PySem PySem.Spec PyProof.Rows
def MtM (X : Cx) (id : String) (r : V → List V → Hp → VK → Prop) : Prop :=
  ∀ (pins : List (Addr × Obj)) (s : Shared) (σ : St) (H : Hp) (x : V) (xs : List V) (v : Value) (us : List Value) (Q : VK), Inv X pins σ H s → RelV x v → Vals xs us → r x xs H Q →
    wpAny (model X.prog X.w) X.A (call (.builtin id) (v :: us)) (EP X pins σ Q) X.xe s
theorem Vals.one : ∀ {x : V} {us : List Value}, Vals [x] us → ∃ u, us = [u] ∧ RelV x u
  | _, _, .cons r .nil => ⟨_, rfl, r⟩
theorem Vals.two : ∀ {x y : V} {us : List Value}, Vals [x, y] us → ∃ u v, us = [u, v] ∧ RelV x u ∧ RelV y v
  | _, _, _, .cons r (.cons q .nil) => ⟨_, _, rfl, r, q⟩
theorem Vals.zero : ∀ {us : List Value}, Vals [] us → us = []
  | _, .nil => rfl
theorem Vals.dropLast {xs : List V} {us : List Value} (h : Vals xs us) : Vals xs.dropLast us.dropLast := by
  induction h with
  | nil => exact .nil
  | cons r t ih =>
    cases t with
    | nil => exact .nil
    | cons q t' => exact .cons r ih
theorem Vals.eraseIdx : ∀ {xs : List V} {us : List Value} (i : Nat), Vals xs us → Vals (xs.eraseIdx i) (us.eraseIdx i)
  | _, _, _, .nil => .nil
  | _, _, 0, .cons _ t => t
  | _, _, i + 1, .cons r t => .cons r (Vals.eraseIdx i t)
theorem Vals.reverse {xs : List V} {us : List Value} (h : Vals xs us) : Vals xs.reverse us.reverse := by
  induction h with
  | nil => exact .nil
  | cons r t ih => rw [List.reverse_cons, List.reverse_cons]; exact Vals.append ih (.cons r .nil)
theorem Vals.rep {xs : List V} {us : List Value} (h : Vals xs us) : ∀ k : Nat, Vals (List.replicate k xs).flatten (List.replicate k us).flatten
  | 0 => .nil
  | k + 1 => by
    rw [List.replicate_succ, List.replicate_succ, List.flatten_cons, List.flatten_cons]
    exact Vals.append h (Vals.rep h k)
theorem foldl_rep (its : List Value) : ∀ (k : Nat) (acc : List Value),
    List.foldl (fun x1 x2 => x1 ++ x2) acc.toArray (List.replicate k its.toArray) = (acc ++ (List.replicate k its).flatten).toArray
  | 0, acc => by simp
  | k + 1, acc => by
    have e : acc.toArray ++ its.toArray = (acc ++ its).toArray := by simp
    have e2 : (acc ++ its) ++ (List.replicate k its).flatten = acc ++ (List.replicate (k + 1) its).flatten := by
      rw [List.replicate_succ, List.flatten_cons, List.append_assoc]
    rw [← e2, ← foldl_rep its k (acc ++ its), ← e, List.replicate_succ, List.foldl_cons]
section
variable {X : Cx} {pins : List (Addr × Obj)} {σ : St} {H : Hp} {s : Shared} {l b : Addr} {xs ys zs : List V}
theorem Inv.lset {its its' : List Value} {n : Nat} {f : Array Value → Array Value} {t' : Nat} (I : Inv X pins σ H s) (hH : H l = some (.lst xs))
    (e : s.heap.get? l = some { cls := .type "list", data := .seq its.toArray n }) (hf : f its.toArray = its'.toArray) (hv : Vals ys its') (hz : ys.length ≤ sizeLine) :
    Inv X pins σ (upd H l (.lst ys)) { s with heap := s.heap.update l (Obj.mapSeq f), toks := t' } := by
  have q := PySem.IsL.update e f
  rw [hf] at q
  refine I.write (x := l) (e := l) (by rw [hH]; exact trivial) (.inl rfl) (fun b' u hb hu => (Heap.get?_update_other s.heap (Obj.mapSeq f) (Ne.symm hb)).trans hu) ⟨_, q⟩ ?_
  exact ⟨hz, its', _, hv, q⟩
theorem Inv.lnew {its : List Value} {t' : Nat} (I : Inv X pins σ H s) (hv : Vals ys its) (hz : ys.length ≤ sizeLine) :
    Inv X pins σ (upd H s.heap.objs.size (.lst ys)) { s with heap := s.heap.push { cls := .type "list", data := .seq its.toArray }, toks := t' } :=
  I.laid (fun _ _ q => Heap.get?_push_of_some _ q) (Nat.le_refl _) ⟨hz, its, 0, hv, Heap.get?_push_size _ rfl⟩
theorem Inv.fresh (I : Inv X pins σ H s) : H s.heap.objs.size = none := I.hok.fresh (Nat.le_refl _)
theorem Inv.lstM (I : Inv X pins σ H s) (hH : H l = some (.lst xs)) : xs.length ≤ sizeLine ∧ ∃ (its : List Value) (n : Nat), Vals xs its ∧ xs.length = its.length ∧ s.heap.get? l = some { cls := .type "list", data := .seq its.toArray n } := by
  obtain ⟨z, its, n, r, e⟩ := I.hok l _ hH
  exact ⟨z, its, n, r, r.length, e⟩
theorem notLongL {n : Nat} (h : n ≤ sizeLine) : Builtin.List.listTooLong n = false := by
  unfold Builtin.List.listTooLong
  exact decide_eq_false (by omega)
end
section
variable {X : Cx}
def rAppend : V → List V → Hp → VK → Prop := fun x vs H Q => ∃ l xs y, x = .ref l ∧ vs = [y] ∧ H l = some (.lst xs) ∧ xs.length < sizeLine ∧ Q .non (upd H l (.lst (xs ++ [y])))
theorem mt_append : MtM X "list.append" rAppend := by
  intro pins s σ H x vs v us Q I rx rv h
  obtain ⟨l, xs, y, rfl, rfl, hH, hz, q⟩ := h
  cases rx
  obtain ⟨u, rfl, ru⟩ := rv.one
  obtain ⟨z, its, n, r, hl, e⟩ := I.lstM hH
  refine call_meets F.slot_list_append ⟨_, e, rfl⟩ F.entry_list_append (F.args_list_append_2 _ _) (PySem.list_append l its.toArray n u (by rw [List.size_toArray]; omega)) ⟨e, ?_⟩
  refine ⟨.non, _, I.lset (its' := its ++ [u]) hH e (by simp) (r.append (.cons ru .nil)) ?_, rfl, q⟩
  rw [List.length_append, List.length_singleton]
  omega
def rCat : R2 := fun x y H Q => ∃ l b xs zs, x = .ref l ∧ y = .ref b ∧ H l = some (.lst xs) ∧ H b = some (.lst zs) ∧ xs.length + zs.length ≤ sizeLine ∧ ∀ p, H p = none → Q (.ref p) (upd H p (.lst (xs ++ zs)))
theorem op_cat : OpR X (binaryOp .Add) rCat := by
  intro pins s σ H x y v u Q I rx ry h
  obtain ⟨l, b, xs, zs, rfl, rfl, hH, hB, hz, q⟩ := h
  cases rx
  cases ry
  obtain ⟨z, its, n, r, hl, e⟩ := I.lstM hH
  obtain ⟨z2, its2, n2, r2, hl2, e2⟩ := I.lstM hB
  refine PySem.P.add_list e e2 ?_ (by rw [List.size_toArray, List.size_toArray]; omega)
  have ea : its.toArray ++ its2.toArray = (its ++ its2).toArray := by simp
  rw [ea]
  exact ⟨.ref _, _, I.lnew (t' := s.toks) (r.append r2) (by rw [List.length_append]; omega), rfl, q _ I.fresh⟩
def rRep : R2 := fun x y H Q => ∃ l k xs, x = .ref l ∧ y = .int k ∧ H l = some (.lst xs) ∧ -(2 ^ 63) ≤ k ∧ k < 2 ^ 63 ∧ xs.length * k.toNat ≤ sizeLine ∧
  ∀ p, H p = none → Q (.ref p) (upd H p (.lst (List.replicate k.toNat xs).flatten))
theorem len_rep {α : Type} (xs : List α) (k : Nat) : (List.replicate k xs).flatten.length = k * xs.length := by
  induction k with
  | zero => simp
  | succ k ih => rw [List.replicate_succ, List.flatten_cons, List.length_append, ih, Nat.succ_mul, Nat.add_comm]
theorem op_rep : OpR X (binaryOp .Mult) rRep := by
  intro pins s σ H x y v u Q I rx ry h
  obtain ⟨l, k, xs, rfl, rfl, hH, h1, h2, hz, q⟩ := h
  cases rx
  obtain ⟨t, rfl⟩ := ry
  obtain ⟨z, its, n, r, hl, e⟩ := I.lstM hH
  have hlen : its.toArray.size * k.toNat ≤ sizeLine := by rw [List.size_toArray, ← hl]; exact hz
  have hcap : ¬ its.toArray.size * k.toNat > (2 ^ 63 - 1) / 8 := by
    have : (sizeLine : Nat) ≤ (2 ^ 63 - 1) / 8 := by decide
    omega
  have hfit : ¬ (!Builtin.List.listFitsIndex k) = true := by
    rw [fitsIndex_both h1 h2]
    exact Bool.false_ne_true
  have hlong : ¬ Builtin.List.listTooLong (its.toArray.size * k.toNat) = true := by
    rw [notLongL hlen]
    exact Bool.false_ne_true
  have hnew : List.foldl (fun x1 x2 => x1 ++ x2) #[] (List.replicate (if its.toArray.isEmpty = true then 0 else k.toNat) its.toArray) = (List.replicate k.toNat its).flatten.toArray := by
    have f0 : ∀ m : Nat, List.foldl (fun x1 x2 => x1 ++ x2) #[] (List.replicate m its.toArray) = (List.replicate m its).flatten.toArray := fun m => by
      have := foldl_rep its m []
      rw [List.nil_append] at this
      exact this
    rw [f0]
    cases its with
    | nil => simp
    | cons a r' => rw [if_neg (by simp)]
  refine wpAny_binaryOp_repeat_ref (T := "list") (U := "int") (by decide) ⟨_, e, rfl⟩ (fun s' => typeIs_int s' k t) noFill_list_mul F.fills_int_mul F.slot_int_rmul repeat_list F.slot_int_index.lookup
    (call_meets F.slot_int_rmul (typeIs_int s k t) F.entry_int_rmul (F.args_int_rmul_2 _ _) (int___rmul___int_list k t l its.toArray n)
      ⟨e, rfl, ⟨_, e, rfl⟩, call_meets F.slot_list_mul ⟨_, e, rfl⟩ F.entry_list_mul (F.args_list_mul_2 _ _) (AutoListH.list___mul___list_int_3 l its.toArray n k t hfit hcap hlong) ⟨e, ?_⟩⟩)
  rw [hnew]
  exact ⟨.ref _, _, I.lnew (t' := s.toks) (r.rep k.toNat) (by rw [len_rep, Nat.mul_comm]; exact hz), rfl, q _ I.fresh⟩
end
section
variable {prog : Program} {w : World} {A : Around} {E : Value → Shared → Prop} {s : Shared}
set_option maxRecDepth 100000 in
end
section
variable {X : Cx}
end
end L2
namespace L2
open PySem PySem.Spec PyProof.Rows
section
variable {κ : Type} [DecidableEq κ]
def valV (kvs : List (κ × V)) (k : κ) : Option V := (kvs.find? fun kv => decide (kv.1 = k)).map (·.2)
def putK (kvs : List (κ × V)) (k : κ) (v : V) : List (κ × V) :=
  if (kvs.any fun kv => decide (kv.1 = k)) = true then kvs.map (fun kv => if kv.1 = k then (kv.1, v) else kv) else kvs ++ [(k, v)]
def dropK (kvs : List (κ × V)) (k : κ) : List (κ × V) := kvs.filter fun kv => decide (kv.1 ≠ k)
theorem valV_pos {p : κ × V} {r : List (κ × V)} {k : κ} (e : p.1 = k) : valV (p :: r) k = some p.2 := by simp [valV, List.find?_cons, e]
theorem valV_neg {p : κ × V} {r : List (κ × V)} {k : κ} (e : ¬ p.1 = k) : valV (p :: r) k = valV r k := by simp [valV, List.find?_cons, e]
theorem valV_any (k : κ) : ∀ kvs : List (κ × V), (kvs.any fun kv => decide (kv.1 = k)) = (valV kvs k).isSome
  | [] => rfl
  | p :: r => by
    rw [List.any_cons]
    by_cases e : p.1 = k
    · simp only [valV_pos e, decide_eq_true e, Bool.true_or, Option.isSome_some]
    · rw [valV_neg e, decide_eq_false e, Bool.false_or]; exact valV_any k r
theorem length_putK (kvs : List (κ × V)) (k : κ) (v : V) : (putK kvs k v).length ≤ kvs.length + 1 := by
  unfold putK
  split
  · rw [List.length_map]; omega
  · rw [List.length_append, List.length_cons, List.length_nil]; omega
theorem RelO.isSome_eq {o : Option V} {u : Option Value} (r : RelO o u) : o.isSome = u.isSome := by
  cases o with
  | none => cases u with
    | none => rfl
    | some _ => exact (show False from r).elim
  | some _ => cases u with
    | none => exact (show False from r).elim
    | some _ => rfl
theorem RelO.getD {o : Option V} {u : Option Value} {d : V} {d' : Value} (r : RelO o u) (rd : RelV d d') : RelV (o.getD d) (u.getD d') := by
  cases o with
  | none => cases u with
    | none => exact rd
    | some _ => exact (show False from r).elim
  | some _ => cases u with
    | none => exact (show False from r).elim
    | some _ => exact r
theorem KV.val {kvs : List (κ × V)} {vs : List (κ × Value)} (r : KV kvs vs) (k : κ) : RelO (valV kvs k) (valueAt vs k) := by
  unfold KV at r
  induction r with
  | nil => exact True.intro
  | @cons p q ps qs h t ih =>
    obtain ⟨h1, h2⟩ := h
    by_cases e : p.1 = k
    · have e' : q.1 = k := h1.symm.trans e
      have b : valueAt (q :: qs) k = some q.2 := by simp [valueAt, List.find?_cons, e']
      rw [valV_pos e, b]; exact h2
    · have e' : ¬ q.1 = k := fun z => e (h1.trans z)
      have b : valueAt (q :: qs) k = valueAt qs k := by simp [valueAt, List.find?_cons, e']
      rw [valV_neg e, b]; exact ih
theorem KV.any {kvs : List (κ × V)} {vs : List (κ × Value)} (r : KV kvs vs) (k : κ) : (kvs.any fun kv => decide (kv.1 = k)) = vs.any fun kv => decide (kv.1 = k) := by
  unfold KV at r
  induction r with
  | nil => rfl
  | cons h t ih => rw [List.any_cons, List.any_cons, ih, h.1]
theorem KV.repl {kvs : List (κ × V)} {vs : List (κ × Value)} (r : KV kvs vs) (k : κ) {y : V} {u : Value} (ry : RelV y u) :
    KV (kvs.map fun kv => if kv.1 = k then (kv.1, y) else kv) (vs.map fun kv => if kv.1 = k then (kv.1, u) else kv) := by
  unfold KV at r ⊢
  induction r with
  | nil => exact .nil
  | @cons p q ps qs h t ih =>
    rw [List.map_cons, List.map_cons]
    refine .cons ?_ ih
    obtain ⟨h1, h2⟩ := h
    by_cases e : p.1 = k
    · rw [if_pos e, if_pos (h1.symm.trans e)]; exact ⟨h1, ry⟩
    · rw [if_neg e, if_neg (fun z => e (h1.trans z))]; exact ⟨h1, h2⟩
theorem KV.put {kvs : List (κ × V)} {vs : List (κ × Value)} (r : KV kvs vs) (k : κ) {y : V} {u : Value} (ry : RelV y u) : KV (putK kvs k y) (stored vs k u) := by
  unfold putK stored
  rw [r.any k]
  by_cases e : (vs.any fun kv => decide (kv.1 = k)) = true
  · rw [if_pos e, if_pos e]; exact r.repl k ry
  · rw [if_neg e, if_neg e]; exact Paired.snoc r ⟨rfl, ry⟩
theorem KV.drop {kvs : List (κ × V)} {vs : List (κ × Value)} (r : KV kvs vs) (k : κ) : KV (dropK kvs k) (without vs k) := by
  unfold KV at r ⊢
  unfold dropK without
  induction r with
  | nil => exact .nil
  | @cons p q ps qs h t ih =>
    obtain ⟨h1, h2⟩ := h
    rw [List.filter_cons, List.filter_cons]
    by_cases e : p.1 = k
    · have a : ¬ decide (p.1 ≠ k) = true := by simp [e]
      have b : ¬ decide (q.1 ≠ k) = true := by simp [h1.symm.trans e]
      rw [if_neg a, if_neg b]; exact ih
    · have e' : ¬ q.1 = k := fun z => e (h1.trans z)
      have a : decide (p.1 ≠ k) = true := by simp [e]
      have b : decide (q.1 ≠ k) = true := by simp [e']
      rw [if_pos a, if_pos b]; exact .cons ⟨h1, h2⟩ ih
theorem KV.keys {kvs : List (κ × V)} {vs : List (κ × Value)} (r : KV kvs vs) : kvs.map (·.1) = vs.map (·.1) := by
  unfold KV at r
  induction r with
  | nil => rfl
  | cons h t ih => rw [List.map_cons, List.map_cons, ih, h.1]
theorem KV.length {kvs : List (κ × V)} {vs : List (κ × Value)} (r : KV kvs vs) : kvs.length = vs.length := Paired.length r
end
theorem kV_is {P : Program} {w : World} {k : Key} {u : Value} (r : RelV (kV k) u) : (mixKind P w).is k u = true := by
  cases k with
  | inl i => obtain ⟨t, e⟩ := (show ∃ t, u = Value.int i t from r); subst e; exact mixKind_int P w i t
  | inr x => obtain ⟨t, e⟩ := (show ∃ t, u = Value.str x t from r); subst e; exact mixKind_str P w x t
abbrev KT (H : Hp) : List (List Key × V) → List (List Key × Addr × Value) → Prop := Paired fun p q => p.1 = q.1 ∧ H q.2.1 = some (.tup (p.1.map kV)) ∧ RelV p.2 q.2.2
theorem KT.val {H : Hp} {kvs : List (List Key × V)} {xs : List (List Key × Addr × Value)} (r : KT H kvs xs) (k : List Key) : RelO (valV kvs k) ((atKey xs k).map (·.2)) := by
  induction r with
  | nil => exact True.intro
  | @cons p q ps qs h t ih =>
    obtain ⟨h1, _, h2⟩ := h
    by_cases e : p.1 = k
    · have e' : q.1 = k := h1.symm.trans e
      have b : atKey (q :: qs) k = some q.2 := by simp [atKey, List.find?_cons, e']
      rw [valV_pos e, b]; exact h2
    · have e' : ¬ q.1 = k := fun z => e (h1.trans z)
      have b : atKey (q :: qs) k = atKey qs k := by simp [atKey, List.find?_cons, e']
      rw [valV_neg e, b]; exact ih
theorem KT.repl {H : Hp} {kvs : List (List Key × V)} {xs : List (List Key × Addr × Value)} (r : KT H kvs xs) (k : List Key) {y : V} {u : Value} (ry : RelV y u) :
    KT H (kvs.map fun kv => if kv.1 = k then (kv.1, y) else kv) (xs.map (putAt k u)) := by
  induction r with
  | nil => exact .nil
  | @cons p q ps qs h t ih =>
    rw [List.map_cons, List.map_cons]
    refine .cons ?_ ih
    obtain ⟨h1, h2, h3⟩ := h
    unfold putAt
    by_cases e : p.1 = k
    · rw [if_pos e, if_pos (h1.symm.trans e)]; exact ⟨h1, h2, ry⟩
    · rw [if_neg e, if_neg (fun z => e (h1.trans z))]; exact ⟨h1, h2, h3⟩
theorem KT.put {H : Hp} {kvs : List (List Key × V)} {xs : List (List Key × Addr × Value)} (r : KT H kvs xs) (k : List Key) {b : Addr} {y : V} {u : Value} (hb : H b = some (.tup (k.map kV))) (ry : RelV y u) :
    KT H (putK kvs k y) (storedH xs k b u) := by
  have e : (kvs.any fun kv => decide (kv.1 = k)) = (atKey xs k).isSome := by
    rw [valV_any, (r.val k).isSome_eq, Option.isSome_map]
  unfold putK storedH
  rw [e]
  by_cases q : (atKey xs k).isSome = true
  · rw [if_pos q, if_pos q]; exact r.repl k ry
  · rw [if_neg q, if_neg q]; exact Paired.snoc r ⟨rfl, hb, ry⟩
theorem KT.keeps {H H' : Hp} {kvs : List (List Key × V)} {xs : List (List Key × Addr × Value)} (r : KT H kvs xs) (ht : ∀ b ys, H b = some (.tup ys) → H' b = some (.tup ys)) : KT H' kvs xs :=
  Paired.mapP r fun _ _ z => ⟨z.1, ht _ _ z.2.1, z.2.2⟩
section
variable {P : Program} {w : World} {H : Hp} {h : Heap} {a : Addr}
theorem rd_of {u : HO} (ok : HOk P w H h) (e : Rd H a u) : ObjOk P w H h a u := e.ok ok
theorem dk_rd {kvs : List (Key × V)} (ok : HOk P w H h) (e : Rd H a (.dK kvs)) : kvs.length ≤ sizeLine ∧ (a == sysModules) = false ∧ ∃ vs, KV kvs vs ∧ h.DictOf (mixKind P w) a vs :=
  show ObjOk P w H h a (.dK kvs) from rd_of ok e
theorem dk_of {kvs : List (Key × V)} (ok : HOk P w H h) (e : H a = some (.dK kvs)) : kvs.length ≤ sizeLine ∧ (a == sysModules) = false ∧ ∃ vs, KV kvs vs ∧ h.DictOf (mixKind P w) a vs := dk_rd ok (.inl e)
end
def DGet (H : Hp) (a : Addr) (y : V) (r : Option V) : Prop :=
  (∃ kvs k, Rd H a (.dK kvs) ∧ y = kV k ∧ r = valV kvs k) ∨ ∃ kvs k b, Rd H a (.dT kvs) ∧ y = .ref b ∧ H b = some (.tup (k.map kV)) ∧ r = valV kvs k
def DPut (H : Hp) (a : Addr) (y v : V) (H' : Hp) : Prop :=
  (∃ kvs k, H a = some (.dK kvs) ∧ y = kV k ∧ kvs.length < sizeLine ∧ H' = upd H a (.dK (putK kvs k v))) ∨
  ∃ kvs k b, H a = some (.dT kvs) ∧ y = .ref b ∧ H b = some (.tup (k.map kV)) ∧ kvs.length < sizeLine ∧ H' = upd H a (.dT (putK kvs k v))
theorem DGet.k {H : Hp} {a : Addr} {kvs : List (Key × V)} {k : Key} (e : H a = some (.dK kvs)) : DGet H a (kV k) (valV kvs k) := .inl ⟨kvs, k, .inl e, rfl, rfl⟩
theorem DGet.t {H : Hp} {a b : Addr} {kvs : List (List Key × V)} {k : List Key} (e : H a = some (.dT kvs)) (eb : H b = some (.tup (k.map kV))) : DGet H a (.ref b) (valV kvs k) := .inr ⟨kvs, k, b, .inl e, rfl, eb, rfl⟩
theorem DPut.k {H : Hp} {a : Addr} {kvs : List (Key × V)} {k : Key} {v : V} (e : H a = some (.dK kvs)) (hl : kvs.length < sizeLine) : DPut H a (kV k) v (upd H a (.dK (putK kvs k v))) := .inl ⟨kvs, k, e, rfl, hl, rfl⟩
theorem DPut.t {H : Hp} {a b : Addr} {kvs : List (List Key × V)} {k : List Key} {v : V} (e : H a = some (.dT kvs)) (eb : H b = some (.tup (k.map kV))) (hl : kvs.length < sizeLine) :
    DPut H a (.ref b) v (upd H a (.dT (putK kvs k v))) := .inr ⟨kvs, k, b, e, rfl, eb, hl, rfl⟩
section
variable {X : Cx} {pins : List (Addr × Obj)} {σ : St} {H : Hp} {s : Shared} {a : Addr} {y v : V} {u r : Value} {o : Option V} {A : Around} {E : Value → Shared → Prop}
theorem Inv.big (I : Inv X pins σ H s) : sysModules < s.heap.objs.size := by
  have h : mainGlobals < s.heap.objs.size := (I.mod.glob.keeps I.bk).lt
  exact Nat.lt_trans (by decide) h
theorem d_write {h' : Heap} {t' : Nat} {ob : HO} (I : Inv X pins σ H s) (mu : Mut (H a)) (hs : Heap.SameBut a s.heap h') (he : ∃ q, h'.get? a = some q) (new : ObjOk X.prog X.w (upd H a ob) h' a ob) :
    Inv X pins σ (upd H a ob) { s with heap := h', toks := t' } :=
  I.write (x := a) (e := a) mu (.inl rfl) (fun b q hb z => (hs.2 b hb).trans z) he new
theorem dk_new {P : Program} {w : World} {H' : Hp} {h' : Heap} {kvs : List (Key × V)} {vs : List (Key × Value)} (z : kvs.length ≤ sizeLine) (hd : (a == sysModules) = false) (rel : KV kvs vs) (dd : h'.DictOf (mixKind P w) a vs) :
    ObjOk P w H' h' a (.dK kvs) := ⟨z, hd, vs, rel, dd⟩
end
section
variable {X : Cx} {pins : List (Addr × Obj)} {σ : St} {H : Hp} {s : Shared} {a : Addr} {kvs : List (Key × V)} {k : Key} {u : Value} {A : Around} {E : Value → Shared → Prop}
end
section
variable {X : Cx} {o i e value : Expr} {pos pos' tpos : Pos} {td ty tv : TE}
end
theorem dk_empty {P : Program} {w : World} {H : Hp} (h : Heap) (hb : sysModules < h.objs.size) : ObjOk P w H (h.push { cls := .type "dict", data := .dict #[] }) h.objs.size (.dK []) :=
  ⟨Nat.zero_le _, beq_eq_false_iff_ne.mpr (Ne.symm (Nat.ne_of_lt hb)), [], .nil, Heap.DictOf.new h⟩
def tDNewK : TE := fun _ H Q => ∀ p, H p = none → Q (.ref p) (upd H p (.dK []))
section
variable {X : Cx} {pos : Pos}
theorem pe_dnewK : PE X (.Dict [] [] pos) tDNewK := .mk <| fun pins s σ H Q I h =>
  wpAny_Dict_empty ⟨.ref s.heap.objs.size, _, I.laid (a := s.heap.objs.size) (o := .dK []) (t' := s.toks) (fun _ _ q => Heap.get?_push_of_some _ q) (Nat.le_refl _) (dk_empty s.heap I.big), rfl, h _ (I.hok.fresh (Nat.le_refl _))⟩
end
def tPairs : List (TE × TE) → St → Hp → (List (V × V) → Hp → Prop) → Prop
  | [], _, H, Q => Q [] H
  | (tk, tv) :: r, σ, H, Q => tk σ H fun x H1 => tv σ H1 fun y H2 => tPairs r σ H2 fun ps H3 => Q ((x, y) :: ps) H3
abbrev VV : List (V × V) → List (Value × Value) → Prop := Paired fun p q => RelV p.1 q.1 ∧ RelV p.2 q.2
def PPs (X : Cx) (pos : Pos) (keys : List (Option Expr)) (values : List Expr) (trs : List (TE × TE)) : Prop :=
  ∀ (pins : List (Addr × Obj)) (s : Shared) (σ : St) (H : Hp) (Q : List (V × V) → Hp → Prop), Inv X pins σ H s → tPairs trs σ H Q →
    wpAny (model X.prog X.w) X.A (evalPairs (pairTrees keys values X.env pos)) (fun vs s' => ∃ ps H', Inv X pins σ H' s' ∧ VV ps vs ∧ Q ps H') X.xe s
theorem pps_nil {X : Cx} {pos : Pos} : PPs X pos [] [] [] := fun pins s σ H Q I h => pairTrees_nil_walk ⟨[], H, I, .nil, h⟩
theorem pps_cons {X : Cx} {pos : Pos} {k v : Expr} {ks : List (Option Expr)} {vs : List Expr} {tk tv : TE} {trs : List (TE × TE)} (hk : PE X k tk) (hv : PE X v tv) (hr : PPs X pos ks vs trs) :
    PPs X pos (some k :: ks) (v :: vs) ((tk, tv) :: trs) := fun pins s σ H Q I h =>
  pairTrees_cons_walk (thn (hk pins s σ H _ I h) fun u s1 ⟨x, H1, I1, rx, q1⟩ => thn (hv pins s1 σ H1 _ I1 q1) fun w2 s2 ⟨y, H2, I2, ry, q2⟩ =>
    thn (hr pins s2 σ H2 _ I2 q2) fun ws s3 ⟨ps, H3, I3, rel, q3⟩ => ⟨(x, y) :: ps, H3, I3, .cons ⟨rx, ry⟩ rel, q3⟩)
def mergeK (kvs more : List (Key × V)) : List (Key × V) := more.foldl (fun acc kv => putK acc kv.1 kv.2) kvs
theorem KV.merge : ∀ {more : List (Key × V)} {rs : List (Key × Value)} {kvs : List (Key × V)} {vs : List (Key × Value)}, KV more rs → KV kvs vs → KV (mergeK kvs more) (merged vs rs) := by
  intro more rs kvs vs r
  unfold KV at r
  induction r generalizing kvs vs with
  | nil => intro q; exact q
  | @cons p q ps qs h t ih =>
    intro r0
    have e : KV (putK kvs p.1 p.2) (stored vs q.1 q.2) := by
      have := r0.put p.1 h.2
      rw [← h.1]; exact this
    exact ih e
theorem length_mergeK : ∀ (more kvs : List (Key × V)), (mergeK kvs more).length ≤ kvs.length + more.length
  | [], kvs => by show kvs.length ≤ kvs.length + 0; omega
  | p :: r, kvs => by
    have h1 := length_mergeK r (putK kvs p.1 p.2)
    have h2 := length_putK kvs p.1 p.2
    show (mergeK (putK kvs p.1 p.2) r).length ≤ _
    rw [List.length_cons]; omega
theorem carries_of {P : Program} {w : World} : ∀ {kvs : List (Key × V)} {ws : List (Value × Value)}, VV (kvs.map fun kv => (kV kv.1, kv.2)) ws → ∃ rs, Carries (mixKind P w) ws rs ∧ KV kvs rs
  | [], _, r => by rw [List.map_nil] at r; cases r; exact ⟨[], True.intro, .nil⟩
  | p :: kvs, _, r => by
    rw [List.map_cons] at r
    cases r with
    | @cons a b as bs h t =>
      obtain ⟨rs, c, q⟩ := carries_of (P := P) (w := w) t
      obtain ⟨b1, b2⟩ := b
      exact ⟨(p.1, b2) :: rs, ⟨kV_is h.1, rfl, c⟩, .cons ⟨rfl, h.2⟩ q⟩
def tDisp (trs : List (TE × TE)) : TE := fun σ H Q => ∀ p, H p = none → tPairs trs σ (upd H p (.dK [])) fun ps H2 => H2 p = some (.dK []) ∧ ∃ kvs : List (Key × V), ps = kvs.map (fun kv => (kV kv.1, kv.2)) ∧ kvs.length ≤ 15 ∧ Q (.ref p) (upd H2 p (.dK (mergeK [] kvs)))
theorem pe_disp {X : Cx} {pos : Pos} {keys : List (Option Expr)} {values : List Expr} {trs : List (TE × TE)} (h : PPs X pos keys values trs) (hall : keys.all (·.isSome) = true) (hl : keys.length = values.length) (h0 : keys ≠ [])
    (h15 : keys.length ≤ 15) : PE X (.Dict keys values pos) (tDisp trs) := .mk <| by
  intro pins s σ H Q I q
  have hn := I.hok.fresh (Nat.le_refl s.heap.objs.size)
  have I1 := I.laid (a := s.heap.objs.size) (o := .dK []) (h' := s.heap.push { cls := .type "dict", data := .dict #[] }) (t' := s.toks) (fun _ _ q => Heap.get?_push_of_some _ q) (Nat.le_refl _) (dk_empty s.heap I.big)
  refine wpAny_Dict_walk (knd := mixKind X.prog X.w) hall hl h0 h15 (thn (h pins _ σ _ _ I1 (q _ hn)) fun ws s2 ⟨ps, H2, I2, rel, e, kvs, ep, lk, q2⟩ => ?_)
  subst ep
  obtain ⟨rs, c, rk⟩ := carries_of (P := X.prog) (w := X.w) rel
  obtain ⟨z, hd, vs0, r0, dd⟩ := dk_of I2.hok e
  cases r0
  refine ⟨rs, c, dd, fun h' dd' hs => ⟨.ref s.heap.objs.size, _, ?_, rfl, q2⟩⟩
  have hz : (mergeK [] kvs).length ≤ sizeLine := by
    have h1 := length_mergeK kvs []
    rw [List.length_nil] at h1
    rw [sizeLine_eq]; omega
  have he : ∃ q, h'.get? s.heap.objs.size = some q := let ⟨q, _, _, hq, _⟩ := dd'; ⟨q, hq⟩
  exact d_write I2 (by rw [e]; exact True.intro) hs he (dk_new hz hd (rk.merge .nil) dd')
structure M1 (X : Cx) (o : Expr) (m : Str) (apos : Pos) (e : Expr) (cpos : Pos) : Prop where
  base : attributeBase o m X.env (eval o X.env) = eval o X.env
  few : ((backTo cpos (starEach [e] X.env)).all (fun x => !x.1) && (backToKw cpos (keywordEach [] X.env)).all (fun x => x.1.isSome)
    && decide (([e] : List Expr).length + ([] : List Keyword).length + (if ([] : List Keyword).isEmpty then 0 else 1) < 30)) = true
  line : (apos.endLine == cpos.line) = true
  trees : backTo cpos (starEach [e] X.env) = [(false, eval e X.env)]
structure M2 (X : Cx) (o : Expr) (m : Str) (apos : Pos) (e f : Expr) (cpos : Pos) : Prop where
  base : attributeBase o m X.env (eval o X.env) = eval o X.env
  few : ((backTo cpos (starEach [e, f] X.env)).all (fun x => !x.1) && (backToKw cpos (keywordEach [] X.env)).all (fun x => x.1.isSome)
    && decide (([e, f] : List Expr).length + ([] : List Keyword).length + (if ([] : List Keyword).isEmpty then 0 else 1) < 30)) = true
  line : (apos.endLine == cpos.line) = true
  trees : backTo cpos (starEach [e, f] X.env) = [(false, eval e X.env), (false, eval f X.env)]
section
variable {X : Cx} {pins : List (Addr × Obj)} {σ : St} {H : Hp} {s : Shared} {a : Addr} {y d : V} {u r : Value} {o : Option V} {A : Around} {E : Value → Shared → Prop}
end
section
variable {X : Cx} {o e f : Expr} {apos cpos : Pos} {td ty tx : TE}
end
section
variable {X : Cx} {pins : List (Addr × Obj)} {σ : St} {H : Hp} {s : Shared} {a : Addr} {kvs : List (Key × V)} {A : Around} {E : Value → Shared → Prop}
end
section
variable {X : Cx} {pins : List (Addr × Obj)} {σ : St} {H : Hp} {s : Shared} {a : Addr} {y : V} {u : Value} {A : Around} {E : Value → Shared → Prop}
end
end L2
namespace Att
open PySem PySem.W PySem.Calls PyProof.Rows
theorem ints_of_wellAll {P : Params} {h : Heap} : ∀ (ns : List Int) (vs : List Value), WellAll P h vs (ns.map WData.int) → IntsAre vs ns := by
  intro ns
  induction ns with
  | nil =>
    intro vs w
    rw [List.map_nil] at w
    cases w
    exact .nil
  | cons n ns ih =>
    intro vs w
    rw [List.map_cons] at w
    cases w with
    | cons a b =>
      cases a
      exact .cons _ _ (ih _ b)
theorem script_of {l : OpenLaw} {n : Nat} (hn : l.most = some n) {P : Params} {h : Heap} {args : List WData} {vals : List Value}
    (hpre : l.row.toRowW.claim.pre args = true) (hwl : WellAll P h vals args) :
    ∃ a vs ns, vals = [Value.ref a] ∧ args = [WData.list (ns.map WData.int)] ∧ h.get? a = some { cls := .type "list", data := .seq vs.toArray } ∧ IntsAre vs ns ∧ ns.length ≤ n := by
  have hsh : WShape.hasAll [] args [.list .int] = true := (pre_splitW hpre).1
  have hc : l.pre.holds [] { args := args } = true := (pre_splitW hpre).2
  obtain ⟨d, r, rfl, h1, h2⟩ := hasAllW_cons hsh
  obtain rfl := hasAllW_nil h2
  obtain ⟨xs, rfl, h3⟩ := hasW_list h1
  obtain ⟨ns, rfl⟩ := items_int h3
  have hlen : ns.length ≤ n := by
    unfold OpenLaw.pre at hc
    have h4 : (WTm.not (.lt (.lit (.int (n : Int))) (.len (.arg 0)))).holds [] { args := [.list (ns.map .int)] } = true := by
      have h4 := (holds_andW hc).1
      rw [hn] at h4
      exact h4
    have h5 := condW_of h4 (w_not (w_lt w_lit (w_len_list (w_arg rfl))))
    rw [List.length_map] at h5
    refine Nat.le_of_not_lt fun q => ?_
    have q' : (n : Int) < ((ns.length : Nat) : Int) := by omega
    first
      | (rw [decide_eq_true q'] at h5; exact absurd h5 (by decide))
      | (simp at h5; omega)
  cases hwl with
  | cons w1 w2 =>
    cases w2
    cases w1 with
    | list ho hall => exact ⟨_, _, ns, rfl, rfl, ho, ints_of_wellAll ns _ hall, hlen⟩
theorem post_true (l : OpenLaw) (args : List WData) : l.row.toRowW.claim.post args (.bool true) args = true :=
  postW_of (r := l.row.toRowW) (X := (true == true))
    (show WShape.has [] (.bool true) .bool = true by first | rfl | decide | simp [WShape.has, WShape.arms, WShape.armsAll])
    (show (WTm.eq .res (.lit (.bool true))).value [] { args := args, res := some (.bool true), after := args } = some (.bool (true == true)) from w_eq_bool (w_res rfl) w_lit) rfl
theorem attach_call {l : OpenLaw} {n : Nat} {q : Program} {loose : List Str} {XP : (Str → Option Value) → Heap → Prop} {YP : World → Heap → Prop} {d : DefRec}
    (hn : l.most = some n) (hdf : d.params.defaults = [])
    (call : ∀ (w : World) (s₀ s₁ : Shared) (mg mb : Str → Option Value) (fa : Addr) (o : Obj) (pm cd doc : Value) (a : Addr) (vs : List Value) (ns : List Int),
      Ground q loose [] XP w s₀ mg mb s₁.heap → YP w s₁.heap →
      s₁.heap.get? fa = some o → o.data = .func (docDef d.name d.params d.body d.scope pm cd doc) → s₁.heap.CodeRec cd d.name → mg d.name = some (.ref fa) →
      s₁.heap.get? a = some { cls := .type "list", data := .seq vs.toArray } → IntsAre vs ns → ns.length ≤ n → s₁.gens = #[] →
      codeAny (model l.prog w) callerA (.call (.ref fa) ⟨[.ref a], []⟩) (fun r s' => r = .ok (.ret (.bool true)) ∧ OldK s₁.heap s'.heap ∧ s'.os = s₁.os ∧ AllBare s'.gens) s₁) :
    WalkO q loose XP YP l.row.toRowW d [] (fun f vs => PySem.call f vs) := by
  intro w s₀ s₁ mg mb G Y fa o pm cd doc dV kV ho hd hcd hD hmg hg args vals as hpre hlay hrd hwl hlo
  obtain rfl : dV = .none := Dflts.none hD hdf
  obtain rfl : kV = .none := Dflts.noKw hD
  obtain ⟨a, vs, ns, rfl, rfl, hobj, hints, hlen⟩ := script_of hn hpre hwl
  refine enter_call (codeAny_mono (call w s₀ s₁ mg mb fa o pm cd doc a vs ns G Y ho (fd_plain hd) hcd hmg hobj hints hlen hg) fun r s' hq => ?_)
  obtain ⟨rfl, h2, h3, h4⟩ := hq
  exact ⟨.inl ⟨.bool true, .bool true, [], rfl, fun _ => rfl, .bool true, post_true l _, fun _ => ⟨List.Pairwise.nil, fun _ hm => (nomatch hm)⟩⟩, h2, h3, h4⟩
section
variable {prog : Program} {w : World} {A : Around} {E : Value → Shared → Prop} {s : Shared} {K : Frag}
def ledger (h : Heap) (L d : Addr) : List (Addr × Obj) := (List.range h.objs.size).filterMap fun a => if a = L ∨ a = d then none else (h.get? a).map fun o => (a, o)
end
end Att
namespace L2
open PySem PySem.Spec PyProof.Rows
theorem vals_ints : ∀ {vs : List Value} {ns : List Int}, IntsAre vs ns → Vals (ns.map V.int) vs
  | _, _, .nil => .nil
  | _, _, .cons n t h => .cons ⟨t, rfl⟩ (vals_ints h)
def Only (_ : Hp) : Prop := True
end L2
namespace L2
open PySem PySem.Spec PyProof.Rows
abbrev KOf {K : PySem.W.Frag} {h : Heap} (_ : K.In h) : PySem.W.Frag := K
end L2
namespace L2
open PySem PySem.Spec PyProof.Rows
def defArgs (s : Stmt) : Arguments := match s with
  | .FunctionDef _ a _ _ _ _ _ _ _ _ => a
  | _ => { posonlyargs := [], args := [], vararg := none, kwonlyargs := [], kw_defaults := [], kwarg := none, defaults := [] }
def defBody (s : Stmt) : List Stmt := match s with
  | .FunctionDef _ _ b _ _ _ _ _ _ _ => b
  | _ => []
def defScope (s : Stmt) : Scope := match s with
  | .FunctionDef _ _ _ _ _ _ sc _ _ _ => sc
  | _ => { kind := .function, names := [], isGenerator := false, isCoroutine := false }
abbrev CX0 : CXT := fun _ _ _ _ _ _ => False
abbrev E0 : XK := fun _ _ _ => False
theorem pass0 {X : Cx} : Passes CX0 X E0 := fun _ _ _ _ _ _ _ h => h.elim
structure Fun (K : PySem.W.Frag) (x qual : Str) (st : Stmt) (f : Addr) (fd : FuncData) : Prop where
  ex : ∃ (oc : Value) (od : Option Addr) (kV doc pm : Value) (an : Option Addr) (cdv ct : Value) (osl : Array (Option Value)),
    fd = PySem.W.fnOf x qual (defArgs st) (defBody st) (defScope st) .none kV doc pm an cdv ct ∧ K.lookup f = some ⟨oc, od, .func fd, osl⟩ ∧ PySem.W.codeIn K cdv qual = true
  kp : PySem.W.keepIn K (.ref f) = true
section
variable {P : Program} {w : World} {K : PySem.W.Frag} {mg : Str → Option Value} {base : Heap}
theorem Fun.ok {x qual : Str} {st : Stmt} {f : Addr} {fd : FuncData} {N ps : List Str} {k : Nat} {sp : Sp} (F : Fun K x qual st f fd) (S : FnScope N ps (defScope st)) (len : ∀ vs H Q E, sp vs H Q E → vs.length = ps.length)
    (hbody : ∀ (cdv : Value) (A : Around) (outer : List Env) (s : Shared) (H : Hp) (vs : List V) (Q : VK) (E : XK), Room k (A.deeper (envOfC qual (defScope st) s.heap.objs.size f cdv)) → sp vs H Q E →
      ∃ t, PSs (cxOf CX0 P w K mg base N qual (defScope st) f cdv A outer s H E).nox (defBody st) t ∧ t { nx := fun _ H' => Q .non H', rt := Q } (start N vs) H) : FnOk P w K mg base CX0 (k + 1) f fd ps sp := by
  obtain ⟨oc, od, kV, doc, pm, an, cdv, ct, osl, rfl, lk, hcd⟩ := F.ex
  refine fn_of lk hcd S len fun A outer s H vs Q E hr hsp => ?_
  obtain ⟨t, h, q⟩ := hbody cdv A outer s H vs Q E hr hsp
  exact ⟨t, h.nox, q⟩
theorem Fun.binds {x qual : Str} {st : Stmt} {f : Addr} {fd : FuncData} {ps : List Str} (F : Fun K x qual st f fd)
    (h : ∀ (kV doc pm : Value) (an : Option Addr) (cdv ct : Value) (us : List Value), us.length = ps.length → bindArgs (PySem.W.fnOf x qual (defArgs st) (defBody st) (defScope st) .none kV doc pm an cdv ct) ⟨us, []⟩ = pure (ps.zip us)) : Binds K fd ps [] := by
  obtain ⟨oc, od, kV, doc, pm, an, cdv, ct, osl, rfl, lk, hcd⟩ := F.ex
  exact .all (h kV doc pm an cdv ct)
theorem fun_mk {x qual : Str} {st : Stmt} {f : Addr} {oc : Value} {od an : Option Addr} {osl : Array (Option Value)} {kV doc pm cdv ct : Value} (l : K.lookup f = some ⟨oc, od, .func (PySem.W.fnOf x qual (defArgs st) (defBody st) (defScope st) .none kV doc pm an cdv ct), osl⟩)
    (c : PySem.W.codeIn K cdv qual = true) (k : PySem.W.keepIn K (.ref f) = true) : Fun K x qual st f (PySem.W.fnOf x qual (defArgs st) (defBody st) (defScope st) .none kV doc pm an cdv ct) := ⟨⟨oc, od, kV, doc, pm, an, cdv, ct, osl, rfl, l, c⟩, k⟩
end
theorem small1000 {n : Nat} (h : n ≤ 1000) : n < sizeLine := Nat.lt_of_le_of_lt h (by decide)
section
variable {X : Cx}
theorem pv (i : Nat) {x : Str} {pos : Pos} (hN : X.N[i]? = some x := by rfl) (hv : Vis X.env.scope x := by first | exact Or.inl rfl | exact Or.inr (Or.inl rfl) | exact Or.inr (Or.inr rfl)) (hd : (x == ("__debug__" : Str)) = false := by decide)
    (hcd : (x == ("__classdict__" : Str)) = false := by decide) : PE X (.Name x pos) (tVar i) := pe_var hN hv hd hcd
end
theorem ite2 {c A B : Prop} [Decidable c] (h1 : c → A) (h2 : ¬ c → B) : if c then A else B := by
  by_cases h : c
  · rw [if_pos h]
    exact h1 h
  · rw [if_neg h]
    exact h2 h
def Same (H H' : Hp) : Prop := ∀ b o, H b = some o → H' b = some o
theorem Same.refl (H : Hp) : Same H H := fun _ _ h => h
theorem Same.trans {H H1 H2 : Hp} (a : Same H H1) (b : Same H1 H2) : Same H H2 := fun c o h => b c o (a c o h)
theorem Same.free {H H' : Hp} (e : Same H H') {l : Addr} (h : H' l = Option.none) : H l = Option.none := by
  cases q : H l with
  | none => rfl
  | some o =>
    rw [e l o q] at h
    cases h
theorem Same.seq {K : PySem.W.Frag} {H H' : Hp} {a : Addr} {xs : List V} (e : Same H H') (h : SqL K H a xs) : SqL K H' a xs := by
  rcases h with (h | ⟨o, h⟩) | h
  · exact .inl (.inl (e _ _ h))
  · exact .inl (.inr ⟨o, e _ _ h⟩)
  · exact .inr h
section
variable {κ : Type} [DecidableEq κ]
end
end L2
set_option Elab.async false
set_option linter.all false
set_option maxRecDepth 100000
set_option maxHeartbeats 1000000
namespace L2
open PySem PySem.Spec PyProof.Rows
section
variable {prog : Program} {w : World} {A : Around} {E : Value → Shared → Prop} {R : Result → Shared → Prop} {s : Shared}
def compTail (elt : Expr) (gens : List Comprehension) (scope : Scope) (pos : Pos) (d : Nat) (acc : Value) (env : Env) : Sem Unit :=
  match gens[d + 1]? with
  | some g' => do
    let x ← eval g'.iter env
    standAt g'.iter.pos
    let x ← if g'.is_async != 0 then foldedIterable g'.iter x else foldedSetIterable g'.iter env x
    let _ ← runOwn (.compStart (.ListComp elt gens scope pos) (d + 1) (← holding [x] (if g'.is_async != 0 then asyncIter x else pyIter x)) acc env) env
  | none => do let _ ← call (.builtin "list.append") [acc, ← eval elt env]
theorem compLoop_gen {elt target iter : Expr} {gens : List Comprehension} {ifs : List Expr} {scope : Scope} {pos : Pos} {d : Nat} {it acc : Value} {env : Env} (I : Nat → Shared → Prop)
    (hg : gens[d]? = some ⟨target, iter, ifs, 0⟩) (ha : ∀ g', gens[d + 1]? = some g' → g'.is_async = 0)
    (turn : ∀ n s, I n s → wpAny (model prog w) A (pyNext it) (fun r s₁ => match r with
      | none => R (.ok .next) s₁
      | some v => wpAny (model prog w) A (letOwnedTupleGo target it v) (fun _ s₁' => wpAny (model prog w) A (assign target env v) (fun _ s₂ =>
          wpAny (model prog w) A (forIn ifs true fun c r => if r = true then do let ok ← isTrue c env (eval c env); pure (ForInStep.yield ok) else pure (ForInStep.yield r)) (fun ok s₃ =>
            if ok = true then wpAny (model prog w) A (compTail elt gens scope pos d acc env) (fun _ s₅ => ∃ m, m < n ∧ I m s₅) (fun _ _ => False) s₃
            else ∃ m, m < n ∧ I m s₃) (fun _ _ => False) s₂) (fun _ _ => False) s₁') (fun _ _ => False) s₁) (fun _ _ => False) s)
    (n : Nat) (h : I n s) :
    codeAny (model prog w) A (.compLoop (.ListComp elt gens scope pos) d it acc env) R s := by
  refine codeAny_loop rfl I (fun n s hI => ?_) n h
  show wpAny _ A ((compTurn (.ListComp elt gens scope pos) d it acc env).onRaise (fun x => do noteFrame x env; theTreesLotGoes x)) _ _ s
  refine wpAny_noted ?_
  unfold compTurn
  simp only [hg]
  refine wpAny_bind (wpAny_standAt (wpAny_bind (wpAny_mono (turn n s hI) (fun r s₁ h₁ => ?_) fun _ _ x => x.elim)))
  cases r with
  | none => exact wpAny_pure h₁
  | some v =>
    refine wpAny_bind (wpAny_mono h₁ (fun _ s₁' h₁' => ?_) fun _ _ x => x.elim)
    refine wpAny_bind (wpAny_mono h₁' (fun _ s₂ h₂ => wpAny_bind (wpAny_mono h₂ (fun ok s₃ h₃ => ?_) fun _ _ x => x.elim)) fun _ _ x => x.elim)
    cases ok with
    | false => exact wpAny_pure ⟨rfl, h₃⟩
    | true =>
      have h₃' : wpAny (model prog w) A (compTail elt gens scope pos d acc env) (fun _ s₅ => ∃ m, m < n ∧ I m s₅) (fun _ _ => False) s₃ := h₃
      unfold compTail at h₃'
      rw [if_pos rfl]
      cases hd : gens[d + 1]? with
      | none =>
        rw [hd] at h₃'
        exact wpAny_bind (wpAny_mono h₃' (fun _ s₅ h₅ => wpAny_pure ⟨rfl, h₅⟩) fun _ _ x => x.elim)
      | some g' =>
        rw [hd] at h₃'
        have h0 := ha g' hd
        have e0 : (g'.is_async != 0) = false := by rw [h0]; rfl
        dsimp only at h₃' ⊢
        simp only [e0, Bool.false_eq_true, if_false] at h₃' ⊢
        intro Γ p hΓ
        have q := h₃' Γ p hΓ
        simp only [Sem.wp_bind'] at q ⊢
        refine Sem.wp_mono _ Γ _ (fun x p₁ s₄ q₁ => ?_) (fun _ _ _ z => z.elim) _ _ q
        refine Sem.wp_mono _ Γ _ (fun _ p₂ s₄ q₂ => ?_) (fun _ _ _ z => z.elim) _ _ q₁
        refine Sem.wp_mono _ Γ _ (fun x p₂ s₄ q₂ => ?_) (fun _ _ _ z => z.elim) _ _ q₂
        refine Sem.wp_mono _ Γ _ (fun x p₂ s₄ q₂ => ?_) (fun _ _ _ z => z.elim) _ _ q₂
        refine Sem.wp_mono _ Γ _ (fun x p₂ s₄ q₂ => ?_) (fun _ _ _ z => z.elim) _ _ q₂
        exact ⟨rfl, q₂⟩
end
end L2
set_option Elab.async false
set_option linter.all false
set_option maxRecDepth 100000
set_option maxHeartbeats 1000000
namespace L2
open PySem PySem.Spec PyProof.Rows
section
variable {prog : Program} {w : World} {A : Around} {E : Value → Shared → Prop} {R : Result → Shared → Prop} {s : Shared}
theorem compStart_gen {elt target iter : Expr} {gens : List Comprehension} {ifs : List Expr} {scope : Scope} {pos : Pos} {d : Nat} {it acc : Value} {env : Env}
    (hg : gens[d]? = some ⟨target, iter, ifs, 0⟩)
    (h0 : codeAny (model prog w) A (.compLoop (.ListComp elt gens scope pos) d it acc env) R s)
    (h : wpAny (model prog w) A (pyIter it) (fun it' s' => codeAny (model prog w) A (.compLoop (.ListComp elt gens scope pos) d it' acc env) R s') (fun _ _ => False) s) :
    codeAny (model prog w) A (.compStart (.ListComp elt gens scope pos) d it acc env) R s := by
  refine codeAny_of_tree ?_
  show wpAny _ _ ((compStart (.ListComp elt gens scope pos) d it acc env).onRaise (fun x => do noteFrame x env; standAt theWindowsPlace)) _ _ s
  refine wpAny_notedAt ?_
  unfold compStart
  have hcl : clausesOf (.ListComp elt gens scope pos) = gens := rfl
  simp only [hcl, hg, Option.elim]
  refine wpAny_ite ?_
  rw [if_neg (by decide)]
  refine wpAny_bind (wpAny_askSetting (wpAny_ite ?_))
  split
  · first
      | exact wpAny_bind (wpAny_pure (wpAny_pure (And.intro rfl h0)))
      | exact wpAny_pure (And.intro rfl h0)
  · exact wpAny_bind (wpAny_rule (wpAny_bind (wpAny_standAt (wpAny_bind (wpAny_mono h (fun it' s' h' => wpAny_pure (And.intro rfl h')) fun _ _ x => x.elim)))))
end
abbrev TL := Addr → St → Hp → (St → Hp → Prop) → Prop
def PL (X : Cx) (elt : Expr) (gens : List Comprehension) (scope : Scope) (pos : Pos) (d : Nat) (t : TL) : Prop :=
  ∀ (pins : List (Addr × Obj)) (s : Shared) (σ : St) (H : Hp) (acc : Addr) (K : St → Hp → Prop), Inv X pins σ H s → t acc σ H K →
    wpAny (model X.prog X.w) X.A (compTail elt gens scope pos d (.ref acc) X.env) (fun _ s' => ∃ σ' H', Inv X pins σ' H' s' ∧ K σ' H') (fun _ _ => False) s
def PTs (X : Cx) (ifs : List Expr) (t : TT) : Prop :=
  ∀ (pins : List (Addr × Obj)) (s : Shared) (σ : St) (H : Hp) (Q : Bool → Hp → Prop), Inv X pins σ H s → t σ H Q →
    wpAny (model X.prog X.w) X.A (forIn ifs true fun c r => if r = true then do let ok ← isTrue c X.env (eval c X.env); pure (ForInStep.yield ok) else pure (ForInStep.yield r)) (TP X pins σ Q) X.xe s
def tNoTest : TT := fun _ H Q => Q true H
def lLast (te : TE) : TL := fun acc σ H K => te σ H fun y H1 => ∃ xs, H1 acc = some (.lst xs) ∧ xs.length < sizeLine ∧ K σ (upd H1 acc (.lst (xs ++ [y])))
def lLoop (J : It) (g : TG) (tc : TT) (l : TL) : TL := fun acc σ H K => ∃ W : Nat → Nat → St → Hp → Prop, (∃ m, W 0 m σ H) ∧ ∀ i m σ H, W i m σ H →
  (J.stop i H ∧ K σ H) ∨ (J.go i H ∧ ∀ x H', J.yld i H x H' → g x σ H' fun σ2 H2 => tc σ2 H2 fun b H3 =>
    if b = true then l acc σ2 H3 (fun σ3 H4 => ∃ m', m' < m ∧ W (i + 1) m' σ3 H4) else ∃ m', m' < m ∧ W (i + 1) m' σ2 H3)
section
variable {X : Cx} {elt : Expr} {gens : List Comprehension} {scope : Scope} {pos : Pos} {d : Nat} {te : TE} {l : TL} {tg iter : Expr} {ifs : List Expr} {wi : TI} {g : TG} {tc : TT}
theorem pts_nil : PTs X [] tNoTest := fun pins s σ H Q I h => wpAny_tests_nil ⟨H, I, h⟩
theorem pl_last (hx : X.xe = fun _ _ => False) (hd : gens[d + 1]? = none) (he : PE X elt te) : PL X elt gens scope pos d (lLast te) := by
  intro pins s σ H acc K I h
  unfold compTail
  rw [hd]
  have he' := he pins s σ H _ I h
  rw [hx] at he'
  refine wpAny_bind (thn he' fun u s1 ⟨y, H1, I1, r1, xs, e1, z1, k1⟩ => ?_)
  have ha := mt_append pins s1 σ H1 (.ref acc) [y] (.ref acc) [u] (fun v H2 => v = .non ∧ H2 = upd H1 acc (.lst (xs ++ [y]))) I1 rfl (.cons r1 .nil) ⟨acc, xs, y, rfl, rfl, e1, z1, rfl, rfl⟩
  rw [hx] at ha
  refine wpAny_bind (thn ha fun v s2 ⟨v', H2, I2, r2, e2, e3⟩ => wpAny_pure ⟨σ, H2, I2, by rw [e3]; exact k1⟩)
theorem comp_loop (hx : X.xe = fun _ _ => False) (hc : X.calm = true) (hd : gens[d]? = some ⟨tg, iter, ifs, 0⟩) (ha : ∀ g', gens[d + 1]? = some g' → g'.is_async = 0) (hg : PG X tg g) (ht : PTs X ifs tc) (hl : PL X elt gens scope pos d l)
    {pins : List (Addr × Obj)} {s : Shared} {σ : St} {H : Hp} {acc it : Addr} {fp : List Addr} {tn : Nat → Heap → Prop} {J : It} {K : St → Hp → Prop} {R : Result → Shared → Prop} (I : Inv X pins σ H s) (T : Turn X.prog X.w X.K tg J fp it tn) (st : tn 0 s.heap) (f2 : ∀ b ∈ fp, FpOk X pins H b)
    (h : lLoop J g tc l acc σ H K) (hR : ∀ σ' H' s', Inv X pins σ' H' s' → K σ' H' → R (.ok .next) s') :
    codeAny (model X.prog X.w) X.A (.compLoop (.ListComp elt gens scope pos) d (.ref it) (.ref acc) X.env) R s := by
  obtain ⟨W, ⟨m0, w0⟩, turn⟩ := h
  have stat : ∀ {H' : Hp}, (∀ b ∈ fp, H' b = none) → ∀ b ∈ fp, FpOk X pins H' b := fun hn b hb => ⟨hn b hb, (f2 b hb).2⟩
  refine compLoop_gen (fun n s' => ∃ i σ' H', Inv X pins σ' H' s' ∧ tn i s'.heap ∧ (∀ b ∈ fp, H' b = none) ∧ W i n σ' H') hd ha ?_ m0 ⟨0, σ, H, I, st, fun b hb => (f2 b hb).1, w0⟩
  rintro n s3 ⟨i, σ3, H3, I3, st3, fr3, w3⟩
  rcases turn i n σ3 H3 w3 with ⟨stop, qn⟩ | ⟨go, step⟩
  · refine thn (T.done X rfl rfl rfl hc i pins s3 σ3 H3 _ I3 (stat fr3) st3 stop) fun r s4 ⟨hr, I4⟩ => ?_
    subst hr
    exact hR σ3 H3 s4 I4 qn
  · refine thn (T.item X rfl rfl rfl hc i pins s3 σ3 H3 _ I3 (stat fr3) st3 go) fun r s4 ⟨u, hr, h4⟩ => ?_
    subst hr
    refine thn h4 fun _ s5 ⟨x, H5, I5, r5, y5, st5, fr5⟩ => ?_
    have I5' := I5.pinned (stat fr5) (T.obj _ _ st5)
    have again : ∀ {σ7 : St} {H7 : Hp} {s7 : Shared} {m' : Nat}, Inv X (pins ++ pinsAt fp s5.heap) σ7 H7 s7 → m' < n → W (i + 1) m' σ7 H7 → ∃ m, m < n ∧ ∃ i σ' H', Inv X pins σ' H' s7 ∧ tn i s7.heap ∧ (∀ b ∈ fp, H' b = none) ∧ W i m σ' H' := fun {σ7 H7 s7 m'} I7 hm w7 => by
      refine ⟨m', hm, i + 1, σ7, H7, I7.unpinned, T.keep _ _ _ st5 fun b hb o e => (I7.pin (b, o) (List.mem_append_right _ (List.mem_append_right _ (mem_pinsAt hb e)))).1, fun b hb => ?_, w7⟩
      obtain ⟨o, e, d⟩ := T.obj _ _ st5 b hb
      exact (I7.pin (b, o) (List.mem_append_right _ (List.mem_append_right _ (mem_pinsAt hb e)))).2.1
    have hg' := hg _ s5 σ3 H5 x u _ I5' r5 (step x H5 y5)
    rw [hx] at hg'
    refine thn hg' fun _ s6 ⟨σ6, H6, I6, q6⟩ => ?_
    have ht' := ht _ s6 σ6 H6 _ I6 q6
    rw [hx] at ht'
    refine thn ht' fun ok s7 ⟨H7, I7, q7⟩ => ?_
    cases ok with
    | false =>
      rw [if_neg Bool.false_ne_true] at q7 ⊢
      obtain ⟨m', hm, w7⟩ := q7
      exact again I7 hm w7
    | true =>
      rw [if_pos rfl] at q7 ⊢
      refine thn (hl _ s7 σ6 H7 acc _ I7 q7) fun _ s8 ⟨σ8, H8, I8, m', hm, w8⟩ => ?_
      exact again I8 hm w8
end
end L2
set_option Elab.async false
set_option linter.all false
set_option maxRecDepth 100000
set_option maxHeartbeats 1000000
namespace L2
open PySem PySem.Spec PyProof.Rows
def clOf (env : Env) : List (Str × NameKind) → List (Str × Addr) → List (Str × Addr)
  | [], acc => acc
  | (n, k) :: r, acc => if k == .free then clOf env r ((n, (env.cells.lookup n).getD 0) :: acc) else clOf env r acc
theorem closure_eq {scope : Scope} {env : Env} (h : ∀ y ∈ scope.names, y.2 = .free → ∃ c, env.cells.lookup y.1 = some c) : closureFor scope env = pure (clOf env scope.names []) := by
  have gen : ∀ (names : List (Str × NameKind)) (acc : List (Str × Addr)), (∀ y ∈ names, y.2 = .free → ∃ c, env.cells.lookup y.1 = some c) →
      (forIn names acc fun (x : Str × NameKind) (r : List (Str × Addr)) => (if (x.2 == NameKind.free) = true then do let a ← cellOf env x.1; pure (ForInStep.yield ((x.1, a) :: r)) else pure (ForInStep.yield r) : Sem _)) = pure (clOf env names acc) := by
    intro names
    induction names with
    | nil => intro acc _; rfl
    | cons y r ih =>
      intro acc hy
      obtain ⟨n, k⟩ := y
      rw [List.forIn_cons]
      unfold clOf
      cases hk : k == NameKind.free with
      | true =>
        obtain ⟨c, hc⟩ := hy (n, k) (List.mem_cons_self ..) (by simpa using hk)
        simp only [hk, if_true, cellOf, hc, Option.getD_some]
        exact ih _ fun y hy' => hy y (List.mem_cons_of_mem _ hy')
      | false =>
        simp only [hk, Bool.false_eq_true, if_false]
        exact ih _ fun y hy' => hy y (List.mem_cons_of_mem _ hy')
  have := gen scope.names [] h
  unfold closureFor
  show ((forIn scope.names ([] : List (Str × Addr)) fun (x : Str × NameKind) (r : List (Str × Addr)) => (if (x.2 == NameKind.free) = true then do let a ← cellOf env x.1; pure (ForInStep.yield ((x.1, a) :: r)) else pure (ForInStep.yield r) : Sem _)) >>= fun z => pure z) = _
  rw [this]
  rfl
theorem mem_clOf {env : Env} : ∀ {names : List (Str × NameKind)} {acc : List (Str × Addr)} {n : Str} {c : Addr}, (n, c) ∈ clOf env names acc → (n, c) ∈ acc ∨ ((n, NameKind.free) ∈ names ∧ c = (env.cells.lookup n).getD 0)
  | [], _, _, _, h => .inl h
  | (m, k) :: r, acc, n, c, h => by
    unfold clOf at h
    split at h
    · rename_i hk
      rcases mem_clOf h with h | ⟨h1, h2⟩
      · rcases List.mem_cons.mp h with e | e
        · cases e
          have : k = .free := by simpa using hk
          subst this
          exact .inr ⟨List.mem_cons_self .., rfl⟩
        · exact .inl e
      · exact .inr ⟨List.mem_cons_of_mem _ h1, h2⟩
    · rcases mem_clOf h with h | ⟨h1, h2⟩
      · exact .inl h
      · exact .inr ⟨List.mem_cons_of_mem _ h1, h2⟩
theorem clOf_mem {env : Env} : ∀ {names : List (Str × NameKind)} {acc : List (Str × Addr)} {n : Str}, ((n, NameKind.free) ∈ names ∨ ∃ c, (n, c) ∈ acc) → ∃ c, (n, c) ∈ clOf env names acc
  | [], _, _, h => by
    rcases h with h | h
    · cases h
    · exact h
  | (m, k) :: r, acc, n, h => by
    unfold clOf
    split
    · rename_i hk
      apply clOf_mem
      rcases h with h | ⟨c, h⟩
      · rcases List.mem_cons.mp h with e | e
        · cases e; exact .inr ⟨_, List.mem_cons_self ..⟩
        · exact .inl e
      · exact .inr ⟨c, List.mem_cons_of_mem _ h⟩
    · rename_i hk
      apply clOf_mem
      rcases h with h | h
      · rcases List.mem_cons.mp h with e | e
        · cases e; simp at hk
        · exact .inl e
      · exact .inr h
theorem mem_cellsFrom : ∀ {names : List (Str × NameKind)} {h : Heap} {acc : List (Str × Addr)} {n : Str} {c : Addr}, (n, c) ∈ cellsFrom h.objs.size names acc →
    (n, c) ∈ acc ∨ ((n, NameKind.cell) ∈ names ∧ h.objs.size ≤ c ∧ (pushCells h names).IsCell c none)
  | [], _, _, _, _, m => .inl m
  | (x, k) :: r, h, acc, n, c, m => by
    unfold cellsFrom at m
    unfold pushCells
    split at m
    · rename_i hk
      rw [if_pos hk]
      have sz : (h.push { cls := .type "cell", data := .cell none }).objs.size = h.objs.size + 1 := Heap.size_push ..
      rw [← sz] at m
      rcases mem_cellsFrom m with m | ⟨m1, m2, m3⟩
      · rcases List.mem_cons.mp m with e | e
        · cases e
          have : k = .cell := by simpa using hk
          subst this
          exact .inr ⟨List.mem_cons_self .., Nat.le_refl _, ⟨_, pushCells_keeps _ _ _ _ (Heap.get?_push_size _ rfl), rfl⟩⟩
        · exact .inl e
      · exact .inr ⟨List.mem_cons_of_mem _ m1, by omega, m3⟩
    · rename_i hk
      rw [if_neg hk]
      rcases mem_cellsFrom m with m | ⟨m1, m2, m3⟩
      · exact .inl m
      · exact .inr ⟨List.mem_cons_of_mem _ m1, m2, m3⟩
theorem cellsFrom_mem : ∀ {names : List (Str × NameKind)} {k : Nat} {acc : List (Str × Addr)} {n : Str}, ((n, NameKind.cell) ∈ names ∨ ∃ c, (n, c) ∈ acc) → ∃ c, (n, c) ∈ cellsFrom k names acc
  | [], _, _, _, h => by
    rcases h with h | h
    · cases h
    · exact h
  | (m, k) :: r, j, acc, n, h => by
    unfold cellsFrom
    split
    · rename_i hk
      apply cellsFrom_mem
      rcases h with h | ⟨c, h⟩
      · rcases List.mem_cons.mp h with e | e
        · cases e; exact .inr ⟨_, List.mem_cons_self ..⟩
        · exact .inl e
      · exact .inr ⟨c, List.mem_cons_of_mem _ h⟩
    · rename_i hk
      apply cellsFrom_mem
      rcases h with h | h
      · rcases List.mem_cons.mp h with e | e
        · cases e; simp at hk
        · exact .inl e
      · exact .inr h
theorem cellsFrom_inj : ∀ {names : List (Str × NameKind)} {k : Nat} {acc : List (Str × Addr)}, (∀ n c, (n, c) ∈ acc → c < k) → (∀ n m c, (n, c) ∈ acc → (m, c) ∈ acc → n = m) →
    ∀ n m c, (n, c) ∈ cellsFrom k names acc → (m, c) ∈ cellsFrom k names acc → n = m
  | [], _, _, _, h2, n, m, c, a, b => h2 n m c a b
  | (x, kd) :: r, k, acc, h1, h2, n, m, c, a, b => by
    unfold cellsFrom at a b
    split at a
    · rename_i hk
      rw [if_pos hk] at b
      refine cellsFrom_inj (k := k + 1) ?_ ?_ n m c a b
      · intro n c h
        rcases List.mem_cons.mp h with e | e
        · cases e; exact Nat.lt_succ_self _
        · exact Nat.lt_succ_of_lt (h1 n c e)
      · intro n m c h h'
        rcases List.mem_cons.mp h with e | e <;> rcases List.mem_cons.mp h' with e' | e'
        · cases e; cases e'; rfl
        · cases e; exact absurd (h1 _ _ e') (Nat.lt_irrefl _)
        · cases e'; exact absurd (h1 _ _ e) (Nat.lt_irrefl _)
        · exact h2 n m c e e'
    · rename_i hk
      rw [if_neg hk] at b
      exact cellsFrom_inj h1 h2 n m c a b
theorem lookup_some_of_mem {α : Type} : ∀ {l : List (Str × α)} {n : Str}, (∃ c, (n, c) ∈ l) → ∃ c, l.lookup n = some c
  | [], _, ⟨_, h⟩ => by cases h
  | (k, v) :: r, n, ⟨c, h⟩ => by
    rw [List.lookup_cons]
    cases hb : n == k with
    | true => exact ⟨v, rfl⟩
    | false =>
      rcases List.mem_cons.mp h with e | e
      · cases e; simp at hb
      · exact lookup_some_of_mem ⟨c, e⟩
def blkOk (scope osc : Scope) (N : List Str) (src : List (Option Nat)) (ON : List Str) : Bool :=
  (scope.kind == .function) && (osc.kind == .function) && decide (src.length = N.length) &&
  (scope.names.all fun y => (scope.names.lookup y.1 == some y.2) && (if y.2 == .free then osc.names.lookup y.1 == some .cell else true)) &&
  ((N.zip src).all fun p => match p.2 with | none => true | some j => (ON[j]? == some p.1) && (scope.names.lookup p.1 == some .free))
def blkSt (src : List (Option Nat)) (σ : St) : St := src.map fun o => match o with | none => none | some j => (σ[j]?).join
def Cx.blk (X : Cx) (scope : Scope) (N : List Str) (cs : List (Str × Addr)) (C : Addr) (s : Shared) (H : Hp) (ex : List Addr) (pn : List (Addr × Obj)) : Cx :=
  { X with N := N, s₀ := s, H₀ := H, env := compEnvC scope cs C X.env, outer := X.stack, stack := X.stack, ex := ex, fn := fun x => decide (scope.names.lookup x = some .cell), pn := pn, xe := fun _ _ => False }
end L2
set_option Elab.async false
set_option linter.all false
set_option maxRecDepth 100000
set_option maxHeartbeats 1000000
namespace L2
open PySem PySem.Spec PyProof.Rows
section
variable {X : Cx} {pins : List (Addr × Obj)} {σ : St} {H : Hp} {s : Shared} {scope : Scope} {N : List Str} {src : List (Option Nat)}
theorem blk_facts {osc : Scope} {ON : List Str} (h : blkOk scope osc N src ON = true) : scope.kind = .function ∧ osc.kind = .function ∧ src.length = N.length ∧
    (∀ y ∈ scope.names, scope.names.lookup y.1 = some y.2) ∧ (∀ y ∈ scope.names, y.2 = .free → osc.names.lookup y.1 = some .cell) ∧
    (∀ (i : Nat) (x : Str) (j : Nat), N[i]? = some x → src[i]? = some (some j) → ON[j]? = some x ∧ scope.names.lookup x = some .free) := by
  unfold blkOk at h
  simp only [Bool.and_eq_true, decide_eq_true_eq, beq_iff_eq, List.all_eq_true] at h
  obtain ⟨⟨⟨⟨h1, h2⟩, h3⟩, h4⟩, h5⟩ := h
  refine ⟨h1, h2, h3, fun y hy => (h4 y hy).1, fun y hy e => ?_, fun i x j e1 e2 => ?_⟩
  · have := (h4 y hy).2
    rw [e] at this
    simpa using this
  · have hm : (x, some j) ∈ N.zip src := by
      apply List.mem_of_getElem? (i := i)
      rw [List.getElem?_zip_eq_some]
      exact ⟨e1, e2⟩
    have := h5 _ hm
    simpa using this
theorem relabel_lookup {env : Env} (hk : env.scope.kind = .function) : ∀ {names : List (Str × NameKind)} {x : Str} {k : NameKind}, names.lookup x = some k → (k = .free → env.kindOf x = some .cell) →
    (names.map fun (n, k) => if (k == NameKind.free && env.scope.kind == .function && env.kindOf n == some .cell) then (n, NameKind.cell) else (n, k)).lookup x = some (if k = .free then .cell else k)
  | [], _, _, h, _ => by simp at h
  | (n, k') :: r, x, k, h, hf => by
    have ih := @relabel_lookup env hk r x k
    show List.lookup x ((if (k' == NameKind.free && env.scope.kind == .function && env.kindOf n == some .cell) = true then (n, NameKind.cell) else (n, k')) :: _) = _
    cases hx : x == n with
    | true =>
      simp only [List.lookup_cons, hx] at h
      have e : x = n := by simpa using hx
      subst e
      cases h
      by_cases hfr : k' = .free
      · have := hf hfr
        subst hfr
        rw [if_pos (by rw [this, hk]; rfl)]
        simp [List.lookup_cons]
      · have hfr' : (k' == NameKind.free) = false := by simpa using hfr
        rw [if_neg (by rw [hfr']; simp), if_neg hfr]
        simp [List.lookup_cons]
    | false =>
      simp only [List.lookup_cons, hx] at h
      by_cases hc : (k' == NameKind.free && env.scope.kind == .function && env.kindOf n == some .cell) = true
      · rw [if_pos hc]; simp only [List.lookup_cons, hx]; exact ih h hf
      · rw [if_neg hc]; simp only [List.lookup_cons, hx]; exact ih h hf
theorem relabel_mem {env : Env} {names : List (Str × NameKind)} {x : Str} (h : (names.map fun (n, k) => if (k == NameKind.free && env.scope.kind == .function && env.kindOf n == some .cell) then (n, NameKind.cell) else (n, k)).lookup x = some .cell) :
    (x, NameKind.cell) ∈ names ∨ (x, NameKind.free) ∈ names := by
  have hm := mem_of_lookup h
  obtain ⟨⟨n, k⟩, hy, e⟩ := List.mem_map.mp hm
  dsimp only at e
  split at e
  · rename_i hc
    cases e
    simp only [Bool.and_eq_true, beq_iff_eq] at hc
    rw [hc.1.1] at hy
    exact .inr hy
  · cases e; exact .inl hy
theorem relabel_memF {env : Env} {names : List (Str × NameKind)} {x : Str} (hk : env.scope.kind = .function) (hfr : ∀ y ∈ names, y.2 = .free → env.kindOf y.1 = some .cell)
    (h : (names.map fun (n, k) => if (k == NameKind.free && env.scope.kind == .function && env.kindOf n == some .cell) then (n, NameKind.cell) else (n, k)).lookup x = some .free) : False := by
  have hm := mem_of_lookup h
  obtain ⟨⟨n, k⟩, hy, e⟩ := List.mem_map.mp hm
  dsimp only at e
  split at e
  · cases e
  · rename_i hc
    cases e
    have := hfr _ hy rfl
    exact hc (by rw [this, hk]; rfl)
theorem blk_start {fp : List Addr} (I : Inv X pins σ H s) (hb : blkOk scope X.env.scope N src X.N = true) (f2 : ∀ b ∈ fp, FpOk X pins H b) (fo : ∀ b ∈ fp, ∃ o, s.heap.get? b = some o) {t : Nat} :
    Inv (X.blk scope N (cellsFrom (s.heap.objs.size + 1) scope.names (clOf X.env scope.names [])) s.heap.objs.size s H fp (X.pn ++ pins)) [] (blkSt src σ) H { s with heap := pushCells (s.heap.push { cls := .type "dict", data := .dict #[] }) scope.names, toks := t } := by
  obtain ⟨hk, hok, hlen, hnd, hfr, hsrc⟩ := blk_facts hb
  have keep : ∀ b o, s.heap.get? b = some o → (pushCells (s.heap.push { cls := .type "dict", data := .dict #[] }) scope.names).get? b = some o := fun b o e => pushCells_keeps _ _ b o (Heap.get?_push_of_some _ e)
  have hfr' : ∀ y ∈ scope.names, y.2 = .free → X.env.kindOf y.1 = some .cell := hfr
  have sz : (s.heap.push { cls := .type "dict", data := .dict #[] }).objs.size = s.heap.objs.size + 1 := Heap.size_push ..
  have cell : ∀ n c, (n, c) ∈ cellsFrom (s.heap.objs.size + 1) scope.names (clOf X.env scope.names []) →
      (X.env.cells.lookup n = some c ∧ (n, NameKind.free) ∈ scope.names) ∨ ((n, NameKind.cell) ∈ scope.names ∧ s.heap.objs.size < c ∧ (pushCells (s.heap.push { cls := .type "dict", data := .dict #[] }) scope.names).IsCell c none) := by
    intro n c h
    rw [← sz] at h
    rcases mem_cellsFrom h with h | ⟨h1, h2, h3⟩
    · rcases mem_clOf h with h | ⟨h1, h2⟩
      · cases h
      · obtain ⟨c', hc'⟩ := I.ok.has n (.inl (hfr' _ h1 rfl))
        rw [hc'] at h2
        exact .inl ⟨by rw [hc', h2]; rfl, h1⟩
    · exact .inr ⟨h1, by rw [sz] at h2; exact h2, h3⟩
  have oldc : ∀ n c, X.env.cells.lookup n = some c → c < s.heap.objs.size := fun n c e => by
    obtain ⟨v, o, ho, _⟩ := I.cell n c e
    exact Heap.lt_size ho
  have hH : H s.heap.objs.size = none := I.hok.fresh (Nat.le_refl _)
  have ok : (X.blk scope N (cellsFrom (s.heap.objs.size + 1) scope.names (clOf X.env scope.names [])) s.heap.objs.size s H fp (X.pn ++ pins)).Ok := {
    mod := I.ok.mod
    kind := hk
    glob := I.ok.glob
    blt := I.ok.blt
    above := Nat.le_refl _
    inj := fun x y c a b => by
      refine cellsFrom_inj (k := s.heap.objs.size + 1) (acc := clOf X.env scope.names []) ?_ ?_ x y c (mem_of_lookup a) (mem_of_lookup b)
      · intro n c h
        rcases mem_clOf h with h | ⟨h1, h2⟩
        · cases h
        · obtain ⟨c', hc'⟩ := I.ok.has n (.inl (hfr' _ h1 rfl))
          rw [hc'] at h2
          rw [h2]
          exact Nat.lt_succ_of_lt (oldc n c' hc')
      · intro n m c h h'
        rcases mem_clOf h with h | ⟨h1, h2⟩
        · cases h
        · rcases mem_clOf h' with h' | ⟨h1', h2'⟩
          · cases h'
          · obtain ⟨c1, hc1⟩ := I.ok.has n (.inl (hfr' _ h1 rfl))
            obtain ⟨c2, hc2⟩ := I.ok.has m (.inl (hfr' _ h1' rfl))
            rw [hc1] at h2
            rw [hc2] at h2'
            have e1 : c = c1 := h2
            have e2 : c = c2 := h2'
            exact I.ok.inj n m c (by rw [e1]; exact hc1) (by rw [e2]; exact hc2)
    has := fun x h => by
      have hm : (x, NameKind.cell) ∈ scope.names ∨ (x, NameKind.free) ∈ scope.names := by
        rcases h with h | h
        · exact relabel_mem (env := X.env) h
        · exact (relabel_memF (env := X.env) hok hfr' h).elim
      have : ∃ c, (x, c) ∈ cellsFrom (s.heap.objs.size + 1) scope.names (clOf X.env scope.names []) := by
        rcases hm with hm | hm
        · exact cellsFrom_mem (.inl hm)
        · exact cellsFrom_mem (.inr (clOf_mem (.inl hm)))
      exact lookup_some_of_mem this
    cab := fun x c hf e => by
      have hf' : scope.names.lookup x = some .cell := of_decide_eq_true hf
      rcases cell x c (mem_of_lookup e) with ⟨_, h⟩ | ⟨_, h, _⟩
      · have := hnd _ h
        rw [hf'] at this
        cases this
      · exact Nat.le_of_lt h
    hd := I.ok.hd
    frames := I.ok.frames
    stk := .inl rfl
    exf := fun b hb => by
      obtain ⟨o, ho⟩ := fo b hb
      have hlt := Heap.lt_size ho
      refine ⟨Nat.ne_of_lt hlt, fun x c e => ?_⟩
      rcases cell x c (mem_of_lookup e) with ⟨h, _⟩ | ⟨_, h, _⟩
      · exact (f2 b hb).2.2.2.2.1 x c h
      · exact Nat.ne_of_gt (Nat.lt_trans hlt h)
    bs := I.bs
    bsz := Nat.le_trans I.ok.bsz I.sz
    noex := fun b o e hb => by
      rcases (f2 b hb).2.2.2.1 with h | h
      · exact I.ok.noex b o e h
      · exact absurd (Nat.lt_of_lt_of_le (Heap.lt_size e) (Nat.le_trans I.ok.bsz h)) (Nat.lt_irrefl _)
    exfs := fun b hb hm => by
      rcases List.mem_cons.mp (I.stkSub b hm) with h | h
      · exact (f2 b hb).2.1 h
      · exact (f2 b hb).2.2.1 h
    funs := I.stack
    frf := I.stkFree
    tt := I.ok.tt.mono I.base.tbls }
  refine ⟨ok, rfl, I.bare, Un.kept keep, ⟨fun _ => none, (Heap.Ns.new s.heap (.type "dict")).keeps (pushCells_keeps _ _), fun i x v e1 e2 e3 => ?_⟩, fun x c e => ?_, hH, fun x c e => ?_, fun p hp => ?_, I.hok.kept keep, ?_⟩
  · -- a captured name
    have e2' : (src.map fun o => match o with | none => none | some j => (σ[j]?).join)[i]? = some (some v) := e2
    rw [List.getElem?_map] at e2'
    cases hs : src[i]? with
    | none => rw [hs] at e2'; cases e2'
    | some o =>
      rw [hs] at e2'
      cases o with
      | none => cases e2'
      | some j =>
        have ej : (σ[j]?).join = some v := by simpa using e2'
        have ej' : σ[j]? = some (some v) := by
          cases hq : σ[j]? with
          | none => rw [hq] at ej; cases ej
          | some z => rw [hq] at ej; simpa using ej
        obtain ⟨n1, n2⟩ := hsrc i x j e1 hs
        have hfree : X.env.kindOf x = some .cell := hfr' (x, .free) (mem_of_lookup n2) rfl
        obtain ⟨m, hn, hl⟩ := I.loc
        obtain ⟨u, r, l⟩ := hl j x v n1 ej' (.inr (.inl hfree))
        refine ⟨u, r, .inr ⟨.inl ?_, ?_⟩⟩
        · have := relabel_lookup (env := X.env) hok n2 (fun _ => hfree)
          exact this
        · rcases l with ⟨h, _⟩ | ⟨_, c, hc, hcell⟩
          · rw [hfree] at h; cases h
          · have : ∃ c', (x, c') ∈ cellsFrom (s.heap.objs.size + 1) scope.names (clOf X.env scope.names []) := cellsFrom_mem (.inr (clOf_mem (.inl (mem_of_lookup n2))))
            obtain ⟨c', hc'⟩ := lookup_some_of_mem this
            refine ⟨c', hc', ?_⟩
            rcases cell x c' (mem_of_lookup hc') with ⟨h, _⟩ | ⟨h, _, _⟩
            · rw [hc] at h
              cases h
              obtain ⟨oc, ho, hd⟩ := hcell
              exact ⟨oc, keep _ _ ho, hd⟩
            · have := hnd _ h
              rw [n2] at this
              cases this
  · rcases cell x c (mem_of_lookup e) with ⟨h, _⟩ | ⟨_, _, h⟩
    · obtain ⟨v, o, ho, hd⟩ := I.cell x c h
      exact ⟨v, o, keep _ _ ho, hd⟩
    · exact ⟨_, h⟩
  · rcases cell x c (mem_of_lookup e) with ⟨h, _⟩ | ⟨_, h, _⟩
    · exact I.freeC x c h
    · exact I.hok.fresh (Nat.le_of_lt h)
  · rw [List.append_nil] at hp
    obtain ⟨e, n, ne, nf, d⟩ := I.pin p hp
    refine ⟨keep _ _ e, n, Nat.ne_of_lt (Heap.lt_size e), fun hm => ?_, d⟩
    rcases List.mem_cons.mp (I.stkSub _ hm) with h | h
    · exact ne h
    · exact nf h
  · show (src.map _).length = N.length
    rw [List.length_map]
    exact hlen
theorem blk_end {fp : List Addr} {cs : List (Str × Addr)} {C : Addr} {σ' : St} {H' : Hp} {s' : Shared} {pins' : List (Addr × Obj)} (I : Inv X pins σ H s) (f2 : ∀ b ∈ fp, FpOk X pins H b)
    (I' : Inv (X.blk scope N cs C s H fp (X.pn ++ pins)) pins' σ' H' s') : Inv X pins σ H' s' :=
  I.call' (ch := fp) I'.os I'.base I'.hok I'.bare fun b hb => ⟨(f2 b hb).2.2.2.1, (f2 b hb).2.1, (f2 b hb).2.2.2.2.1, (f2 b hb).2.2.2.2.2⟩
theorem blk_gone {C : Addr} {h' : Heap} (I : Inv X pins σ H s) (hC : H C = none) (hL : C ≠ X.env.locals) (h1 : X.s₀.heap.objs.size ≤ C) (h2 : ∀ x c, X.env.cells.lookup x = some c → c ≠ C) (h3 : ∀ p ∈ X.pn ++ pins, p.1 ≠ C)
    (hs : Heap.SameBut C s.heap h') : Inv X pins σ H { s with heap := h' } :=
  I.turned (t' := s.toks) (fun b o hb e => (hs.2 b hb).trans e) hC hL (.inr h1) h2 h3
end
end L2
set_option Elab.async false
set_option linter.all false
set_option maxRecDepth 100000
set_option maxHeartbeats 1000000
namespace L2
open PySem PySem.Spec PyProof.Rows
section
variable {M : Model} {A : Around} {E : Value → Shared → Prop} {s : Shared}
theorem wp_newBlock {scope : Scope} {globals : Addr} {cl : List (Str × Addr)} {qual : Str} {env : Env} {Q : Env → Shared → Prop}
    (hQ : Q (newEnv scope s.heap.objs.size globals (cellsFrom (s.heap.objs.size + 1) scope.names cl) qual none .none (some env) builtinsNs) { s with heap := pushCells (s.heap.push { cls := .type "dict", data := .dict #[] }) scope.names }) :
    wpAny M A (newFunctionEnv scope globals cl [] qual none .none (some env)) Q E s := by
  simp only [newFunctionEnv, Option.isSome_some, if_true]
  refine wpAny_bind (wpAny_alloc ?_)
  refine wpAny_bind (wpAny_layCells _ (fun name kind cells => by cases hkc : kind == NameKind.cell <;> simp [hkc]) _ _ _ _ ?_)
  rw [show ({ s with heap := s.heap.push { cls := .type "dict", data := .dict #[] } } : Shared).heap.objs.size = s.heap.objs.size + 1 from Heap.size_push ..]
  simp only [List.forIn_nil]
  exact wpAny_bind (wpAny_pure (wpAny_pure hQ))
end
section
variable {X : Cx} {elt tg iter : Expr} {ifs : List Expr} {rest : List Comprehension} {scope : Scope} {pos : Pos} {N : List Str} {src : List (Option Nat)} {wi : TI} {g : TG} {tc : TT} {l : TL}
def tComp (src : List (Option Nat)) (wi : TI) (g : TG) (tc : TT) (l : TL) : TE := fun σ H Q => wi σ H fun J H1 => ∀ acc, H1 acc = none → lLoop J g tc l acc (blkSt src σ) (upd H1 acc (.lst [])) fun _ H' => Q (.ref acc) H'
theorem comp_run {use : Option (Value → Sem Unit)} {pins : List (Addr × Obj)} {s : Shared} {σ : St} {H : Hp} {Q : Value → Shared → Prop} {Q' : VK} (hc : X.calm = true) (hb : blkOk scope X.env.scope N src X.N = true) (ha : ∀ g', rest[0]? = some g' → g'.is_async = 0)
    (hi : PI X tg iter wi)
    (hg : ∀ cs C s H ex pn, PG (X.blk scope N cs C s H ex pn) tg g) (ht : ∀ cs C s H ex pn, PTs (X.blk scope N cs C s H ex pn) ifs tc)
    (hl : ∀ cs C s H ex pn, PL (X.blk scope N cs C s H ex pn) elt (⟨tg, iter, ifs, 0⟩ :: rest) scope pos 0 l)
    (hs : ∀ x, foldedSetIterable iter X.env x = pure x) (I : Inv X pins σ H s) (h : tComp src wi g tc l σ H Q')
    (hQ : ∀ (acc C : Addr) (H' : Hp) (s' : Shared) (m : Str → Option Value), Inv X pins σ H' s' → Q' (.ref acc) H' → s'.heap.Ns C m → H' C = none → C ≠ X.env.locals → X.s₀.heap.objs.size ≤ C → (∀ x c, X.env.cells.lookup x = some c → c ≠ C) → (∀ p ∈ X.pn ++ pins, p.1 ≠ C) →
      compPost (model X.prog X.w) X.A X.xe use Q (.ref acc) C (.ok .next) s') :
    wpAny (model X.prog X.w) X.A (comprehension (.ListComp elt (⟨tg, iter, ifs, 0⟩ :: rest) scope pos) scope X.env (firstIterPos (⟨tg, iter, ifs, 0⟩ :: rest) pos) (newList []) false (firstIter (⟨tg, iter, ifs, 0⟩ :: rest) X.env) use) Q X.xe s := by
  obtain ⟨hk, hok, hlen, hnd, hfr, hsrc⟩ := blk_facts hb
  refine wpAny_comprehension_free (g := ⟨tg, iter, ifs, 0⟩) (gs := rest) rfl hs (closure_eq fun y hy e => I.ok.has y.1 (.inl (hfr y hy e))) hk (fun y hy e => by have := hnd y hy; rw [e] at this; exact this) ?_
  refine thn (hi pins s σ H _ I h) fun v s1 h1 => thn h1 fun itv s2 h2 => ?_
  obtain ⟨it, fp, tn, J, H2, e, I2, T, st2, f2, q⟩ := h2
  subst e
  have hfresh : H2 s2.heap.objs.size = none := I2.hok.fresh (Nat.le_refl _)
  refine wpAny_newObj_type (wp_newBlock ?_)
  dsimp only
  have old : ∀ b o, s2.heap.get? b = some o → (s2.heap.push { cls := .type "list", dict := none, data := .seq ([] : List Value).toArray }).get? b = some o := fun b o e => Heap.get?_push_of_some _ e
  have I3 : Inv X pins σ (upd H2 s2.heap.objs.size (.lst [])) { s2 with heap := s2.heap.push { cls := .type "list", dict := none, data := .seq ([] : List Value).toArray } } :=
    I2.lnew (its := []) (t' := s2.toks) .nil (by decide)
  have f3 : ∀ b ∈ fp, FpOk X pins (upd H2 s2.heap.objs.size (.lst [])) b := fun b hb => by
    obtain ⟨o, ho, _⟩ := T.obj _ _ st2 b hb
    exact ⟨by rw [upd_ne (Nat.ne_of_lt (Heap.lt_size ho))]; exact (f2 b hb).1, (f2 b hb).2⟩
  have fo3 : ∀ b ∈ fp, ∃ o, ({ s2 with heap := s2.heap.push { cls := .type "list", dict := none, data := .seq ([] : List Value).toArray } } : Shared).heap.get? b = some o := fun b hb => by
    obtain ⟨o, ho, _⟩ := T.obj _ _ st2 b hb
    exact ⟨o, old b o ho⟩
  generalize hs3 : ({ s2 with heap := s2.heap.push { cls := .type "list", dict := none, data := .seq ([] : List Value).toArray } } : Shared) = s3 at I3 fo3 ⊢
  have st3 : tn 0 s3.heap := by
    rw [← hs3]
    exact T.keep _ _ _ st2 fun b _ o e => old b o e
  have IB := blk_start (t := s3.toks) I3 hb f3 fo3
  have stB : tn 0 (pushCells (s3.heap.push { cls := .type "dict", data := .dict #[] }) scope.names) := T.keep _ _ _ st3 fun b _ o e => pushCells_keeps _ _ b o (Heap.get?_push_of_some _ e)
  have fB : ∀ b ∈ fp, FpOk (X.blk scope N (cellsFrom (s3.heap.objs.size + 1) scope.names (clOf X.env scope.names [])) s3.heap.objs.size s3 (upd H2 s2.heap.objs.size (.lst [])) fp (X.pn ++ pins)) [] (upd H2 s2.heap.objs.size (.lst [])) b := fun b hb => by
    obtain ⟨n0, n1, n2, n3, n4, n5⟩ := f3 b hb
    refine ⟨n0, (IB.ok.exf b hb).1, IB.ok.exfs b hb, .inl hb, (IB.ok.exf b hb).2, fun p hp => ?_⟩
    rw [List.append_nil] at hp
    exact n5 p hp
  have loop : codeAny (model X.prog X.w) X.A (.compLoop (.ListComp elt (⟨tg, iter, ifs, 0⟩ :: rest) scope pos) 0 (.ref it) (.ref s2.heap.objs.size) (compEnvC scope (cellsFrom (s3.heap.objs.size + 1) scope.names (clOf X.env scope.names [])) s3.heap.objs.size X.env))
      (compPost (model X.prog X.w) X.A X.xe use Q (.ref s2.heap.objs.size) s3.heap.objs.size) { s3 with heap := pushCells (s3.heap.push { cls := .type "dict", data := .dict #[] }) scope.names } := by
    refine comp_loop (X := X.blk scope N (cellsFrom (s3.heap.objs.size + 1) scope.names (clOf X.env scope.names [])) s3.heap.objs.size s3 (upd H2 s2.heap.objs.size (.lst [])) fp (X.pn ++ pins)) rfl hc rfl (by simpa using ha) (hg _ _ _ _ _ _) (ht _ _ _ _ _ _) (hl _ _ _ _ _ _) IB T stB fB (q _ hfresh) fun σ' H' s' I' k' => ?_
    obtain ⟨m, hn, _⟩ := I'.loc
    refine hQ _ _ H' s' m (blk_end I3 f3 I') k' hn I'.free ?_ I3.sz ?_ ?_
    · exact Nat.ne_of_gt I3.lt
    · intro x c e
      obtain ⟨v, o, ho, _⟩ := I3.cell x c e
      exact Nat.ne_of_lt (Heap.lt_size ho)
    · intro p hp
      exact Nat.ne_of_lt (Heap.lt_size (I3.pin p hp).1)
  subst hs3
  exact compStart_gen (d := 0) rfl loop (T.self X.A 0 _ _ _ stB loop)
theorem pe_comp (hc : X.calm = true) (hb : blkOk scope X.env.scope N src X.N = true) (ha : ∀ g', rest[0]? = some g' → g'.is_async = 0)
    (hi : PI X tg iter wi)
    (hg : ∀ cs C s H ex pn, PG (X.blk scope N cs C s H ex pn) tg g) (ht : ∀ cs C s H ex pn, PTs (X.blk scope N cs C s H ex pn) ifs tc)
    (hl : ∀ cs C s H ex pn, PL (X.blk scope N cs C s H ex pn) elt (⟨tg, iter, ifs, 0⟩ :: rest) scope pos 0 l)
    (hs : ∀ x, foldedSetIterable iter X.env x = pure x := by intro _; rfl) : PE X (.ListComp elt (⟨tg, iter, ifs, 0⟩ :: rest) scope pos) (tComp src wi g tc l) := .mk <| by
  intro pins s σ H Q I h
  rw [eval_ListComp]
  refine comp_run (use := none) hc hb ha hi hg ht hl hs I h fun acc C H' s' m I' q' hn hC hL h1 h2 h3 => ?_
  exact ⟨m, hn, fun h' hs' => ⟨.ref acc, H', blk_gone I' hC hL h1 h2 h3 hs', rfl, q'⟩⟩
end
end L2
set_option Elab.async false
set_option linter.all false
set_option maxRecDepth 100000
set_option maxHeartbeats 1000000
namespace L2
open PySem PySem.Spec PyProof.Rows
section
variable {X : Cx}
def tyName (H : Hp) : V → Option String
  | .non => some "NoneType"
  | .bl _ => some "bool"
  | .int _ => some "int"
  | .str _ => some "str"
  | .ref a => match H a with
    | some (.lst _) => some "list"
    | some (.tup _) => some "tuple"
    | some (.dK _) => some "dict"
    | some (.frz _ (.lst _)) => some "list"
    | _ => none
  | _ => none
def isA (H : Hp) (x : V) (T : String) : Bool := match tyName H x with
  | some t => t == T || (t == "bool" && T == "int")
  | none => false
theorem tyName_of {K : PySem.W.Frag} {H : Hp} {x : V} {t : String} (h : tyName H x = some t) : TyOf K H x (.type t) := by
  cases x with
  | non => cases h; exact .non
  | bl b => cases h; exact .bl b
  | int i => cases h; exact .int i
  | str z => cases h; exact .str z
  | byt b => cases h
  | flt b => cases h
  | ty n => cases h
  | ref a =>
    unfold tyName at h
    dsimp only at h
    split at h
    · rename_i e; cases h; exact .lst e
    · rename_i e; cases h; exact .tup e
    · rename_i e; cases h; exact .dK e
    · rename_i e; cases h; exact .frz e
    · cases h
def kinds : List String := ["NoneType", "bool", "int", "str", "list", "tuple", "dict"]
theorem tyName_kind {H : Hp} {x : V} {t : String} (h : tyName H x = some t) : t ∈ kinds := by
  cases x with
  | non => cases h; decide
  | bl b => cases h; decide
  | int i => cases h; decide
  | str z => cases h; decide
  | byt b => cases h
  | flt b => cases h
  | ty n => cases h
  | ref a =>
    unfold tyName at h
    dsimp only at h
    split at h <;> first | (cases h; decide) | cases h
theorem kit_ty (K : PySem.W.Frag) {t T : String} (ht : t ∈ kinds) (hT : T ∈ kinds) : PySem.W.kitOne K (.type t) (.type T) = some (t == T || (t == "bool" && T == "int")) := by
  simp only [kinds, List.mem_cons, List.not_mem_nil, or_false] at ht hT
  rcases ht with rfl | rfl | rfl | rfl | rfl | rfl | rfl <;> rcases hT with rfl | rfl | rfl | rfl | rfl | rfl | rfl <;> with_unfolding_all rfl
theorem call_isA : CallR X (.builtin "isinstance") (fun xs H Q => ∃ x T, xs = [x, .ty T] ∧ T ∈ kinds ∧ (tyName H x).isSome = true ∧ Q (.bl (isA H x T)) H) := by
  intro pins s σ H xs us Q I r h
  obtain ⟨x, T, rfl, hT, hs, q⟩ := h
  obtain ⟨u, w', rfl, rx, rT⟩ := vals2 r
  cases (show w' = Value.type T from rT)
  obtain ⟨t, ht⟩ := Option.isSome_iff_exists.mp hs
  refine isinst_ok I rx (tyName_of ht) (kit_ty X.K (tyName_kind ht) hT) fun tk => ⟨.bl (isA H x T), H, I.tok tk, ?_, q⟩
  show _ = Value.bool (isA H x T)
  unfold isA
  rw [ht]
theorem vals_bl : ∀ {bs : List Bool} {its : List Value}, Vals (bs.map V.bl) its → its = bs.map Value.bool
  | [], _, .nil => rfl
  | _ :: _, _, .cons r t => by
    have e : _ = Value.bool _ := r
    rw [e, vals_bl t]; rfl
theorem all_range (bs : List Bool) : (List.range bs.length).all (fun i => bs.getD i false) = bs.all id := by
  rw [Bool.eq_iff_iff]
  simp only [List.all_eq_true, List.mem_range, id]
  constructor
  · intro h b hb
    obtain ⟨i, hi, e⟩ := List.getElem_of_mem hb
    have := h i hi
    rw [List.getD_eq_getElem?_getD, List.getElem?_eq_getElem hi] at this
    rw [← e]; exact this
  · intro h i hi
    rw [List.getD_eq_getElem?_getD, List.getElem?_eq_getElem hi]
    exact h _ (List.getElem_mem hi)
theorem call_all (hc : X.calm = true) : CallR X (.builtin "all") (fun xs H Q => ∃ (a : Addr) (bs : List Bool), xs = [.ref a] ∧ SqL X.K H a (bs.map V.bl) ∧ Q (.bl (bs.all id)) H) := by
  intro pins s σ H xs us Q I r h
  obtain ⟨a, bs, rfl, hq, q⟩ := h
  obtain ⟨u, rfl, rx⟩ := vals1 r
  cases rx
  obtain ⟨its, rv, p, hz⟩ := I.list hq
  have e := vals_bl rv
  subst e
  have hlt : a < s.heap.objs.size := by
    obtain ⟨o, ho, _⟩ := p.isList
    exact Heap.lt_size ho
  refine call_all_walk (wpAny_pyIter_list p.isList ?_)
  refine ⟨s.heap.objs.size, _, _, _, _, _, fun i => bs.getD i false, rfl, Walks.list (A := X.A.in1) (I.ok.hd hc) _ a (Nat.ne_of_lt hlt) _, ⟨⟨_, Heap.get?_push_size _ rfl, rfl, rfl⟩, p.isList.push _⟩, ?_, fun h' tk hk => ?_⟩
  · intro i v s' Q' E' hP hQ'
    have : (bs.map Value.bool)[i]? = some v := by simpa using hP
    rw [List.getElem?_map] at this
    cases e : bs[i]? with
    | none => rw [e] at this; cases this
    | some b =>
      rw [e] at this
      cases this
      refine wpAny_truthy_bool ?_
      dsimp only at hQ'
      rw [List.getD_eq_getElem?_getD, e] at hQ'
      exact hQ'
  · refine ⟨.bl (bs.all id), H, I.kept (t' := tk) fun b o e => hk b o (fun hm => ?_) (Heap.get?_push_of_some _ e), ?_, q⟩
    · have : b = s.heap.objs.size := by simpa using hm
      exact absurd (this ▸ Heap.lt_size e) (Nat.lt_irrefl _)
    · show _ = Value.bool _
      rw [← all_range]
      simp
end
end L2
set_option Elab.async false
set_option linter.all false
set_option autoImplicit false
set_option maxRecDepth 100000
set_option maxHeartbeats 1000000
namespace L2
open PySem PySem.Spec PyProof.Rows
inductive D where
  | non | bl (b : Bool) | int (i : Int) | str (x : Str) | tup (ds : List D) | lst (ds : List D)
mutual
def Dat (H : Hp) : D → V → Prop
  | .non, v => v = .non
  | .bl b, v => v = .bl b
  | .int i, v => v = .int i
  | .str x, v => v = .str x
  | .tup ds, v => ∃ a xs, v = .ref a ∧ H a = some (.tup xs) ∧ Dats H ds xs
  | .lst ds, v => ∃ a xs, v = .ref a ∧ H a = some (.lst xs) ∧ Dats H ds xs
def Dats (H : Hp) : List D → List V → Prop
  | [], xs => xs = []
  | d :: ds, xs => ∃ x r, xs = x :: r ∧ Dat H d x ∧ Dats H ds r
end
mutual
def dep : D → Nat
  | .tup ds => deps ds + 1
  | .lst ds => deps ds + 1
  | _ => 0
def deps : List D → Nat
  | [] => 0
  | d :: ds => max (dep d) (deps ds)
end
mutual
def eqD : D → D → Bool
  | .non, .non => true
  | .bl a, .bl b => a == b
  | .bl a, .int b => (if a then 1 else 0) == b
  | .int a, .bl b => a == (if b then 1 else 0)
  | .int a, .int b => a == b
  | .str a, .str b => a == b
  | .tup a, .tup b => eqDs a b
  | .lst a, .lst b => eqDs a b
  | _, _ => false
def eqDs : List D → List D → Bool
  | [], [] => true
  | x :: xs, y :: ys => eqD x y && eqDs xs ys
  | _, _ => false
end
theorem deps_mem : ∀ {ds : List D} {d : D}, d ∈ ds → dep d ≤ deps ds
  | d :: ds, e, h => by
    unfold deps
    rcases List.mem_cons.mp h with rfl | h
    · exact Nat.le_max_left _ _
    · exact Nat.le_trans (deps_mem h) (Nat.le_max_right _ _)
theorem Dats.length : ∀ {H : Hp} {ds : List D} {xs : List V}, Dats H ds xs → xs.length = ds.length
  | H, [], xs, h => by
    have e : xs = [] := by simpa [Dats] using h
    rw [e]; rfl
  | H, d :: ds, xs, h => by
    obtain ⟨x, r, rfl, _, t⟩ : ∃ x r, xs = x :: r ∧ Dat H d x ∧ Dats H ds r := by simpa only [Dats] using h
    rw [List.length_cons, List.length_cons, Dats.length t]
theorem Dats.get : ∀ {H : Hp} {ds : List D} {xs : List V} {i : Nat} {d : D}, Dats H ds xs → ds[i]? = some d → ∃ x, xs[i]? = some x ∧ Dat H d x
  | H, [], xs, i, d, h, e => by simp at e
  | H, d' :: ds, xs, i, d, h, e => by
    obtain ⟨x, r, rfl, hx, t⟩ : ∃ x r, xs = x :: r ∧ Dat H d' x ∧ Dats H ds r := by simpa only [Dats] using h
    cases i with
    | zero => simp at e; subst e; exact ⟨x, rfl, hx⟩
    | succ i => simpa using Dats.get t (i := i) (by simpa using e)
theorem Dats.of_get : ∀ {H : Hp} {ds : List D} {xs : List V}, xs.length = ds.length → (∀ (i : Nat) (d : D) (x : V), ds[i]? = some d → xs[i]? = some x → Dat H d x) → Dats H ds xs
  | H, [], [], _, _ => by simp [Dats]
  | H, d :: ds, x :: xs, hl, h => by
    simp only [Dats]
    exact ⟨x, xs, rfl, h 0 d x rfl rfl, Dats.of_get (by simpa using hl) fun i d x e1 e2 => h (i + 1) d x (by simpa using e1) (by simpa using e2)⟩
  | H, [], _ :: _, hl, _ => by simp at hl
  | H, _ :: _, [], hl, _ => by simp at hl
theorem Dats.append : ∀ {H : Hp} {ds es : List D} {xs ys : List V}, Dats H ds xs → Dats H es ys → Dats H (ds ++ es) (xs ++ ys)
  | H, [], es, xs, ys, h, h' => by
    have e : xs = [] := by simpa [Dats] using h
    rw [e]; exact h'
  | H, d :: ds, es, xs, ys, h, h' => by
    obtain ⟨x, r, rfl, hx, t⟩ : ∃ x r, xs = x :: r ∧ Dat H d x ∧ Dats H ds r := by simpa only [Dats] using h
    show Dats H (d :: (ds ++ es)) (x :: (r ++ ys))
    simp only [Dats]
    exact ⟨x, r ++ ys, rfl, hx, Dats.append t h'⟩
theorem Dats.one {H : Hp} {d : D} {x : V} (h : Dat H d x) : Dats H [d] [x] := by
  simp only [Dats]
  exact ⟨x, [], rfl, h, rfl⟩
mutual
theorem Dat.same {H H' : Hp} (e : Same H H') : ∀ {d : D} {v : V}, Dat H d v → Dat H' d v
  | .non, v, h => by simpa only [Dat] using h
  | .bl b, v, h => by simpa only [Dat] using h
  | .int i, v, h => by simpa only [Dat] using h
  | .str x, v, h => by simpa only [Dat] using h
  | .tup ds, v, h => by
    simp only [Dat] at h ⊢
    obtain ⟨a, xs, rfl, h1, h2⟩ := h
    exact ⟨a, xs, rfl, e a _ h1, Dats.same e h2⟩
  | .lst ds, v, h => by
    simp only [Dat] at h ⊢
    obtain ⟨a, xs, rfl, h1, h2⟩ := h
    exact ⟨a, xs, rfl, e a _ h1, Dats.same e h2⟩
theorem Dats.same {H H' : Hp} (e : Same H H') : ∀ {ds : List D} {xs : List V}, Dats H ds xs → Dats H' ds xs
  | [], xs, h => by simpa only [Dats] using h
  | d :: ds, xs, h => by
    simp only [Dats] at h ⊢
    obtain ⟨x, r, rfl, h1, h2⟩ := h
    exact ⟨x, r, rfl, Dat.same e h1, Dats.same e h2⟩
end
mutual
theorem Dat.inj {H : Hp} : ∀ {d e : D} {v : V}, Dat H d v → Dat H e v → d = e
  | .non, e, v, h, h' => by
    simp only [Dat] at h; subst h
    cases e <;> simp only [Dat] at h' <;> first | rfl | (obtain ⟨_, _, h', _⟩ := h'; cases h'; done) | (cases h'; done)
  | .bl b, e, v, h, h' => by
    simp only [Dat] at h; subst h
    cases e <;> simp only [Dat] at h' <;> first | (obtain ⟨_, _, h', _⟩ := h'; cases h'; done) | (cases h'; rfl) | (cases h'; done)
  | .int i, e, v, h, h' => by
    simp only [Dat] at h; subst h
    cases e <;> simp only [Dat] at h' <;> first | (obtain ⟨_, _, h', _⟩ := h'; cases h'; done) | (cases h'; rfl) | (cases h'; done)
  | .str x, e, v, h, h' => by
    simp only [Dat] at h; subst h
    cases e <;> simp only [Dat] at h' <;> first | (obtain ⟨_, _, h', _⟩ := h'; cases h'; done) | (cases h'; rfl) | (cases h'; done)
  | .tup ds, e, v, h, h' => by
    simp only [Dat] at h
    obtain ⟨a, xs, rfl, h1, h2⟩ := h
    cases e with
    | tup es =>
      simp only [Dat] at h'
      obtain ⟨b, ys, e1, h3, h4⟩ := h'
      cases e1
      rw [h1] at h3; cases h3
      rw [Dats.inj h2 h4]
    | lst es =>
      simp only [Dat] at h'
      obtain ⟨b, ys, e1, h3, h4⟩ := h'
      cases e1
      rw [h1] at h3; cases h3
    | _ => simp only [Dat] at h'; cases h'
  | .lst ds, e, v, h, h' => by
    simp only [Dat] at h
    obtain ⟨a, xs, rfl, h1, h2⟩ := h
    cases e with
    | lst es =>
      simp only [Dat] at h'
      obtain ⟨b, ys, e1, h3, h4⟩ := h'
      cases e1
      rw [h1] at h3; cases h3
      rw [Dats.inj h2 h4]
    | tup es =>
      simp only [Dat] at h'
      obtain ⟨b, ys, e1, h3, h4⟩ := h'
      cases e1
      rw [h1] at h3; cases h3
    | _ => simp only [Dat] at h'; cases h'
theorem Dats.inj {H : Hp} : ∀ {ds es : List D} {xs : List V}, Dats H ds xs → Dats H es xs → ds = es
  | [], [], _, _, _ => rfl
  | [], e :: es, xs, h, h' => by
    simp only [Dats] at h h'
    obtain ⟨x, r, rfl, _⟩ := h'
    cases h
  | d :: ds, [], xs, h, h' => by
    simp only [Dats] at h h'
    obtain ⟨x, r, rfl, _⟩ := h
    cases h'
  | d :: ds, e :: es, xs, h, h' => by
    simp only [Dats] at h h'
    obtain ⟨x, r, rfl, h1, h2⟩ := h
    obtain ⟨x', r', e1, h3, h4⟩ := h'
    cases e1
    rw [Dat.inj h1 h3, Dats.inj h2 h4]
end
mutual
theorem eqD_refl : ∀ d : D, eqD d d = true
  | .non => by simp [eqD]
  | .bl b => by simp [eqD]
  | .int i => by simp [eqD]
  | .str x => by simp [eqD]
  | .tup ds => by simp only [eqD]; exact eqDs_refl ds
  | .lst ds => by simp only [eqD]; exact eqDs_refl ds
theorem eqDs_refl : ∀ ds : List D, eqDs ds ds = true
  | [] => by simp [eqDs]
  | d :: ds => by simp only [eqDs, eqD_refl d, eqDs_refl ds, Bool.and_self]
end
theorem eqDs_len : ∀ {ds es : List D}, ds.length ≠ es.length → eqDs ds es = false
  | [], [], h => absurd rfl h
  | [], _ :: _, _ => by simp [eqDs]
  | _ :: _, [], _ => by simp [eqDs]
  | d :: ds, e :: es, h => by
    simp only [eqDs, eqDs_len (ds := ds) (es := es) (by simpa using h), Bool.and_false]
theorem eqDs_range : ∀ {ds es : List D}, ds.length = es.length → (List.range ds.length).all (fun j => eqD (ds.getD j .non) (es.getD j .non)) = eqDs ds es
  | [], [], _ => by simp [eqDs]
  | [], _ :: _, h => by simp at h
  | _ :: _, [], h => by simp at h
  | d :: ds, e :: es, h => by
    have ih := eqDs_range (ds := ds) (es := es) (by simpa using h)
    rw [List.length_cons, List.range_succ_eq_map, List.all_cons, List.all_map]
    simp only [eqDs, ← ih]
    rfl
end L2
set_option Elab.async false
set_option linter.all false
set_option autoImplicit false
set_option maxRecDepth 100000
set_option maxHeartbeats 1000000
namespace L2
open PySem PySem.Spec PyProof.Rows
section
variable {X : Cx} {pins : List (Addr × Obj)} {σ : St} {H : Hp} {s : Shared}
theorem vals_at : ∀ {xs : List V} {us : List Value} {j : Nat} {x : V}, Vals xs us → xs[j]? = some x → ∀ (h : j < us.toArray.size), RelV x us.toArray[j] := fun {xs us j x} r e h => by
  obtain ⟨u, h1, h2⟩ := r.get e
  have : us[j]? = some us.toArray[j] := by
    rw [List.getElem?_eq_getElem (by simpa using h)]
    simp
  rw [h1] at this
  cases this
  exact h2
theorem tup_at (I : Inv X pins σ H s) {a : Addr} {xs : List V} (h : H a = some (.tup xs)) : ∃ its : List Value, Vals xs its ∧ s.heap.IsTuple a its.toArray := by
  obtain ⟨its, r, p, _⟩ := I.tuple (SqT.of (K := X.K) h)
  exact ⟨its, r, p⟩
theorem lst_at (I : Inv X pins σ H s) {a : Addr} {xs : List V} (h : H a = some (.lst xs)) : ∃ its : List Value, Vals xs its ∧ s.heap.IsList a its.toArray := by
  obtain ⟨its, r, p, _⟩ := I.list (SqL.of (K := X.K) h)
  exact ⟨its, r, p.isList⟩
theorem eqDs_min {ds es : List D} : ((List.range (min ds.length es.length)).all (fun j => eqD (ds.getD j .non) (es.getD j .non)) && ds.length == es.length) = eqDs ds es := by
  by_cases h : ds.length = es.length
  · rw [← eqDs_range h]
    have : min ds.length es.length = ds.length := by omega
    rw [this]
    simp [h]
  · rw [eqDs_len h]
    have : (ds.length == es.length) = false := by simpa using h
    rw [this, Bool.and_false]
theorem eqAt_D (I : Inv X pins σ H s) (n : Nat) : ∀ (d e : D) (x y : V) (v u : Value) (A : Around), dep d ≤ n → A.units + n < cLine → Dat H d x → Dat H e y → RelV x v → RelV y u →
    SeqAt.RcAt A s v u (eqD d e) ∧ SeqAt.EqAt A s v u (eqD d e) ∧ SeqAt.RcNeAt A s v u (!eqD d e) := by
  induction n with
  | zero =>
    intro d e x y v u A hd hu hx hy rx ry
    have hu' : A.units < cLine := by omega
    cases d with
    | tup ds => simp only [dep] at hd; omega
    | lst ds => simp only [dep] at hd; omega
    | non =>
      simp only [Dat] at hx; subst hx; cases rx
      cases e with
      | non => simp only [Dat] at hy; subst hy; cases ry; exact ⟨SeqAt.RcAt.none_none, SeqAt.EqAt.same _, SeqAt.RcNeAt.none_none⟩
      | bl b => simp only [Dat] at hy; subst hy; cases ry; exact ⟨SeqAt.RcAt.none_bool b, SeqAt.EqAt.none_bool b, SeqAt.RcNeAt.none_bool b⟩
      | int b => simp only [Dat] at hy; subst hy; obtain ⟨t, rfl⟩ := ry; exact ⟨SeqAt.RcAt.none_int b t, SeqAt.EqAt.none_int b t, SeqAt.RcNeAt.none_int b t⟩
      | str b => simp only [Dat] at hy; subst hy; obtain ⟨t, rfl⟩ := ry; exact ⟨SeqAt.RcAt.none_str b t, SeqAt.EqAt.none_str b t, SeqAt.RcNeAt.none_str b t⟩
      | tup es =>
        simp only [Dat] at hy; obtain ⟨b, ys, rfl, hb, _⟩ := hy; cases ry
        obtain ⟨its, _, p⟩ := tup_at I hb
        exact ⟨SeqAt.RcAt.none_tuple p hu', SeqAt.EqAt.none_tuple p hu', SeqAt.RcNeAt.none_tuple p hu'⟩
      | lst es =>
        simp only [Dat] at hy; obtain ⟨b, ys, rfl, hb, _⟩ := hy; cases ry
        obtain ⟨its, _, p⟩ := lst_at I hb
        exact ⟨SeqAt.RcAt.none_list p hu', SeqAt.EqAt.none_list p hu', SeqAt.RcNeAt.none_list p hu'⟩
    | bl a =>
      simp only [Dat] at hx; subst hx; cases rx
      cases e with
      | non => simp only [Dat] at hy; subst hy; cases ry; exact ⟨SeqAt.RcAt.bool_none a, SeqAt.EqAt.bool_none a, SeqAt.RcNeAt.bool_none a⟩
      | bl b => simp only [Dat] at hy; subst hy; cases ry; exact ⟨SeqAt.RcAt.bool_bool a b, SeqAt.EqAt.bool_bool a b, SeqAt.RcNeAt.bool_bool a b⟩
      | int b => simp only [Dat] at hy; subst hy; obtain ⟨t, rfl⟩ := ry; exact ⟨SeqAt.RcAt.bool_int a b t, SeqAt.EqAt.bool_int a b t, SeqAt.RcNeAt.bool_int a b t⟩
      | str b => simp only [Dat] at hy; subst hy; obtain ⟨t, rfl⟩ := ry; exact ⟨SeqAt.RcAt.bool_str a b t, SeqAt.EqAt.bool_str a b t, SeqAt.RcNeAt.bool_str a b t⟩
      | tup es =>
        simp only [Dat] at hy; obtain ⟨b, ys, rfl, hb, _⟩ := hy; cases ry
        obtain ⟨its, _, p⟩ := tup_at I hb
        exact ⟨SeqAt.RcAt.bool_tuple a p hu', SeqAt.EqAt.bool_tuple a p hu', SeqAt.RcNeAt.bool_tuple a p hu'⟩
      | lst es =>
        simp only [Dat] at hy; obtain ⟨b, ys, rfl, hb, _⟩ := hy; cases ry
        obtain ⟨its, _, p⟩ := lst_at I hb
        exact ⟨SeqAt.RcAt.bool_list a p hu', SeqAt.EqAt.bool_list a p hu', SeqAt.RcNeAt.bool_list a p hu'⟩
    | int a =>
      simp only [Dat] at hx; subst hx; obtain ⟨t', rfl⟩ := rx
      cases e with
      | non => simp only [Dat] at hy; subst hy; cases ry; exact ⟨SeqAt.RcAt.int_none a t', SeqAt.EqAt.int_none a t', SeqAt.RcNeAt.int_none a t'⟩
      | bl b => simp only [Dat] at hy; subst hy; cases ry; exact ⟨SeqAt.RcAt.int_bool a t' b, SeqAt.EqAt.int_bool a t' b, SeqAt.RcNeAt.int_bool a t' b⟩
      | int b => simp only [Dat] at hy; subst hy; obtain ⟨t, rfl⟩ := ry; exact ⟨SeqAt.RcAt.int_int a t' b t, SeqAt.EqAt.int_int a t' b t, SeqAt.RcNeAt.int_int a t' b t⟩
      | str b => simp only [Dat] at hy; subst hy; obtain ⟨t, rfl⟩ := ry; exact ⟨SeqAt.RcAt.int_str a t' b t, SeqAt.EqAt.int_str a t' b t, SeqAt.RcNeAt.int_str a t' b t⟩
      | tup es =>
        simp only [Dat] at hy; obtain ⟨b, ys, rfl, hb, _⟩ := hy; cases ry
        obtain ⟨its, _, p⟩ := tup_at I hb
        exact ⟨SeqAt.RcAt.int_tuple a t' p hu', SeqAt.EqAt.int_tuple a t' p hu', SeqAt.RcNeAt.int_tuple a t' p hu'⟩
      | lst es =>
        simp only [Dat] at hy; obtain ⟨b, ys, rfl, hb, _⟩ := hy; cases ry
        obtain ⟨its, _, p⟩ := lst_at I hb
        exact ⟨SeqAt.RcAt.int_list a t' p hu', SeqAt.EqAt.int_list a t' p hu', SeqAt.RcNeAt.int_list a t' p hu'⟩
    | str a =>
      simp only [Dat] at hx; subst hx; obtain ⟨t', rfl⟩ := rx
      cases e with
      | non => simp only [Dat] at hy; subst hy; cases ry; exact ⟨SeqAt.RcAt.str_none a t', SeqAt.EqAt.str_none a t', SeqAt.RcNeAt.str_none a t'⟩
      | bl b => simp only [Dat] at hy; subst hy; cases ry; exact ⟨SeqAt.RcAt.str_bool a t' b, SeqAt.EqAt.str_bool a t' b, SeqAt.RcNeAt.str_bool a t' b⟩
      | int b => simp only [Dat] at hy; subst hy; obtain ⟨t, rfl⟩ := ry; exact ⟨SeqAt.RcAt.str_int a t' b t, SeqAt.EqAt.str_int a t' b t, SeqAt.RcNeAt.str_int a t' b t⟩
      | str b => simp only [Dat] at hy; subst hy; obtain ⟨t, rfl⟩ := ry; exact ⟨SeqAt.RcAt.str_str a t' b t, SeqAt.EqAt.str_str a t' b t, SeqAt.RcNeAt.str_str a t' b t⟩
      | tup es =>
        simp only [Dat] at hy; obtain ⟨b, ys, rfl, hb, _⟩ := hy; cases ry
        obtain ⟨its, _, p⟩ := tup_at I hb
        exact ⟨SeqAt.RcAt.str_tuple a t' p hu', SeqAt.EqAt.str_tuple a t' p hu', SeqAt.RcNeAt.str_tuple a t' p hu'⟩
      | lst es =>
        simp only [Dat] at hy; obtain ⟨b, ys, rfl, hb, _⟩ := hy; cases ry
        obtain ⟨its, _, p⟩ := lst_at I hb
        exact ⟨SeqAt.RcAt.str_list a t' p hu', SeqAt.EqAt.str_list a t' p hu', SeqAt.RcNeAt.str_list a t' p hu'⟩
  | succ n ih =>
    intro d e x y v u A hd hu hx hy rx ry
    have hu' : A.units < cLine := by omega
    by_cases h0 : dep d ≤ n
    · exact ih d e x y v u A h0 (by omega) hx hy rx ry
    have hin : A.in1.units + n < cLine := by show A.units + 1 + n < cLine; omega
    have items : ∀ (ds es : List D) (xs ys : List V) (its its2 : List Value), deps ds ≤ n → Dats H ds xs → Dats H es ys → Vals xs its → Vals ys its2 →
        ∀ j (h1 : j < its.toArray.size) (h2 : j < its2.toArray.size), SeqAt.EqAt A.in1 s its.toArray[j] its2.toArray[j] (eqD (ds.getD j .non) (es.getD j .non)) := by
      intro ds es xs ys its its2 hdp hxs hys r1 r2 j h1 h2
      have l1 : j < ds.length := by rw [← hxs.length, r1.length]; simpa using h1
      have l2 : j < es.length := by rw [← hys.length, r2.length]; simpa using h2
      obtain ⟨x', ex, hx'⟩ := hxs.get (List.getElem?_eq_getElem l1)
      obtain ⟨y', ey, hy'⟩ := hys.get (List.getElem?_eq_getElem l2)
      have g1 : ds.getD j .non = ds[j] := by rw [List.getD_eq_getElem?_getD, List.getElem?_eq_getElem l1]; rfl
      have g2 : es.getD j .non = es[j] := by rw [List.getD_eq_getElem?_getD, List.getElem?_eq_getElem l2]; rfl
      rw [g1, g2]
      exact (ih ds[j] es[j] x' y' _ _ A.in1 (Nat.le_trans (deps_mem (List.getElem_mem l1)) hdp) hin hx' hy' (vals_at r1 ex h1) (vals_at r2 ey h2)).2.1
    cases d with
    | non => simp only [dep] at h0; omega
    | bl a => simp only [dep] at h0; omega
    | int a => simp only [dep] at h0; omega
    | str a => simp only [dep] at h0; omega
    | tup ds =>
      simp only [dep] at hd
      have hx0 := hx
      simp only [Dat] at hx; obtain ⟨a, xs, rfl, ha, hxs⟩ := hx; cases rx
      obtain ⟨its, r1, p⟩ := tup_at I ha
      cases e with
      | non => simp only [Dat] at hy; subst hy; cases ry; exact ⟨SeqAt.RcAt.tuple_none p hu', SeqAt.EqAt.tuple_none p hu', SeqAt.RcNeAt.tuple_none p hu'⟩
      | bl b => simp only [Dat] at hy; subst hy; cases ry; exact ⟨SeqAt.RcAt.tuple_bool b p hu', SeqAt.EqAt.tuple_bool b p hu', SeqAt.RcNeAt.tuple_bool b p hu'⟩
      | int b => simp only [Dat] at hy; subst hy; obtain ⟨t, rfl⟩ := ry; exact ⟨SeqAt.RcAt.tuple_int b t p hu', SeqAt.EqAt.tuple_int b t p hu', SeqAt.RcNeAt.tuple_int b t p hu'⟩
      | str b => simp only [Dat] at hy; subst hy; obtain ⟨t, rfl⟩ := ry; exact ⟨SeqAt.RcAt.tuple_str b t p hu', SeqAt.EqAt.tuple_str b t p hu', SeqAt.RcNeAt.tuple_str b t p hu'⟩
      | lst es =>
        simp only [Dat] at hy; obtain ⟨b, ys, rfl, hb, _⟩ := hy; cases ry
        obtain ⟨its2, _, p2⟩ := lst_at I hb
        exact ⟨SeqAt.RcAt.tuple_list p p2 hu', SeqAt.EqAt.tuple_list p p2 hu', SeqAt.RcNeAt.tuple_list p p2 hu'⟩
      | tup es =>
        have hy0 := hy
        simp only [Dat] at hy; obtain ⟨b, ys, rfl, hb, hys⟩ := hy; cases ry
        obtain ⟨its2, r2, p2⟩ := tup_at I hb
        have it := items ds es xs ys its its2 (by omega) hxs hys r1 r2
        have z1 : its.toArray.size = ds.length := by rw [← hxs.length, r1.length]; simp
        have z2 : its2.toArray.size = es.length := by rw [← hys.length, r2.length]; simp
        have e0 := eqDs_min (ds := ds) (es := es)
        have rc : SeqAt.RcAt A s (.ref a) (.ref b) (eqDs ds es) := by
          have := SeqAt.RcAt.tuples p p2 hu' it
          rw [z1, z2, e0] at this
          exact this
        have rn : SeqAt.RcNeAt A s (.ref a) (.ref b) (!eqDs ds es) := by
          have := SeqAt.RcNeAt.tuples p p2 hu' it
          rw [z1, z2, e0] at this
          exact this
        simp only [eqD]
        refine ⟨rc, ?_, rn⟩
        by_cases hab : a = b
        · subst hab
          have : D.tup ds = D.tup es := hx0.inj hy0
          cases this
          rw [eqDs_refl]
          exact SeqAt.EqAt.same _
        · exact .of_refs hab rc
    | lst ds =>
      simp only [dep] at hd
      have hx0 := hx
      simp only [Dat] at hx; obtain ⟨a, xs, rfl, ha, hxs⟩ := hx; cases rx
      obtain ⟨its, r1, p⟩ := lst_at I ha
      cases e with
      | non => simp only [Dat] at hy; subst hy; cases ry; exact ⟨SeqAt.RcAt.list_none p hu', SeqAt.EqAt.list_none p hu', SeqAt.RcNeAt.list_none p hu'⟩
      | bl b => simp only [Dat] at hy; subst hy; cases ry; exact ⟨SeqAt.RcAt.list_bool b p hu', SeqAt.EqAt.list_bool b p hu', SeqAt.RcNeAt.list_bool b p hu'⟩
      | int b => simp only [Dat] at hy; subst hy; obtain ⟨t, rfl⟩ := ry; exact ⟨SeqAt.RcAt.list_int b t p hu', SeqAt.EqAt.list_int b t p hu', SeqAt.RcNeAt.list_int b t p hu'⟩
      | str b => simp only [Dat] at hy; subst hy; obtain ⟨t, rfl⟩ := ry; exact ⟨SeqAt.RcAt.list_str b t p hu', SeqAt.EqAt.list_str b t p hu', SeqAt.RcNeAt.list_str b t p hu'⟩
      | tup es =>
        simp only [Dat] at hy; obtain ⟨b, ys, rfl, hb, _⟩ := hy; cases ry
        obtain ⟨its2, _, p2⟩ := tup_at I hb
        exact ⟨SeqAt.RcAt.list_tuple p p2 hu', SeqAt.EqAt.list_tuple p p2 hu', SeqAt.RcNeAt.list_tuple p p2 hu'⟩
      | lst es =>
        have hy0 := hy
        simp only [Dat] at hy; obtain ⟨b, ys, rfl, hb, hys⟩ := hy; cases ry
        obtain ⟨its2, r2, p2⟩ := lst_at I hb
        have it := items ds es xs ys its its2 (by omega) hxs hys r1 r2
        have z1 : its.toArray.size = ds.length := by rw [← hxs.length, r1.length]; simp
        have z2 : its2.toArray.size = es.length := by rw [← hys.length, r2.length]; simp
        have both : SeqAt.RcAt A s (.ref a) (.ref b) (eqDs ds es) ∧ SeqAt.RcNeAt A s (.ref a) (.ref b) (!eqDs ds es) := by
          by_cases hl : ds.length = es.length
          · have r := SeqAt.RcAt.lists p p2 (by rw [z1, z2]; exact hl) hu' it
            have q := SeqAt.RcNeAt.lists p p2 (by rw [z1, z2]; exact hl) hu' it
            rw [z1, eqDs_range hl] at r q
            exact ⟨r, q⟩
          · have hne : (its.toArray.size != its2.toArray.size) = true := by rw [z1, z2]; simpa using hl
            rw [eqDs_len hl]
            exact ⟨SeqAt.RcAt.lists_lengths p p2 hne hu', SeqAt.RcNeAt.lists_lengths p p2 hne hu'⟩
        simp only [eqD]
        refine ⟨both.1, ?_, both.2⟩
        by_cases hab : a = b
        · subst hab
          have : D.lst ds = D.lst es := hx0.inj hy0
          cases this
          rw [eqDs_refl]
          exact SeqAt.EqAt.same _
        · exact .of_refs hab both.1
def rEqD (neg : Bool) : R2 := fun x y H Q => ∃ d e, Dat H d x ∧ Dat H e y ∧ dep d ≤ 100 ∧ Q (.bl (if neg then !eqD d e else eqD d e)) H
theorem op_eqD (hu : X.A.units + 100 < cLine) : OpR X (compareOp .Eq) (rEqD false) := by
  intro pins s σ H x y v u Q I rx ry h
  obtain ⟨d, e, hx, hy, hd, q⟩ := h
  exact (eqAt_D I 100 d e x y v u X.A hd hu hx hy rx ry).1 X.prog X.w _ _ ⟨.bl _, H, I, rfl, q⟩
theorem op_neD (hu : X.A.units + 100 < cLine) : OpR X (compareOp .NotEq) (rEqD true) := by
  intro pins s σ H x y v u Q I rx ry h
  obtain ⟨d, e, hx, hy, hd, q⟩ := h
  exact (eqAt_D I 100 d e x y v u X.A hd hu hx hy rx ry).2.2 X.prog X.w _ _ ⟨.bl _, H, I, rfl, q⟩
end
end L2
set_option Elab.async false
set_option linter.all false
set_option autoImplicit false
set_option maxRecDepth 100000
set_option maxHeartbeats 1000000
namespace L2
open PySem PySem.Spec PyProof.Rows
theorem same_upd {H : Hp} {p : Addr} {o : HO} (h : H p = none) : Same H (upd H p o) := fun b u e => by
  rw [upd_ne (ne_of_none e h)]; exact e
section
variable {X : Cx}
end
end L2
set_option Elab.async false
set_option linter.all false
set_option autoImplicit false
set_option maxRecDepth 100000
set_option maxHeartbeats 1000000
namespace L2
open PySem PySem.Spec PyProof.Rows
section
variable {K : PySem.W.Frag} {g : TG} {tc : TT} {l : TL} {acc : Addr} {σ : St} {H : Hp} {R : St → Hp → Prop}
end
def But (p : Addr) (H H' : Hp) : Prop := ∀ b, b ≠ p → H' b = H b
theorem But.refl (p : Addr) (H : Hp) : But p H H := fun _ _ => rfl
theorem But.trans {p : Addr} {H H1 H2 : Hp} (a : But p H H1) (b : But p H1 H2) : But p H H2 := fun c hc => (b c hc).trans (a c hc)
theorem But.same {p : Addr} {H0 H H' : Hp} (hp : H0 p = none) (e : Same H0 H) (b : But p H H') : Same H0 H' := fun c o h => by
  rw [b c (ne_of_none h hp)]; exact e c o h
end L2
set_option Elab.async false
set_option linter.all false
set_option autoImplicit false
set_option maxRecDepth 100000
set_option maxHeartbeats 1000000
namespace L2
open PySem PySem.Spec PyProof.Rows
theorem cmul_mod {e k y : Int} (h : 0 < k) (h2 : k ≤ 2 ^ 64) : CMul (e % k) y := by
  have h1 := Int.emod_nonneg e (Int.ne_of_gt h)
  have h3 := Int.emod_lt_of_pos e h
  exact .inl ⟨by omega, by omega⟩
theorem cmul_l {x y : Int} (h : -(2 ^ 64) < x ∧ x < 2 ^ 64) : CMul x y := .inl h
theorem cmul_r {x y : Int} (h : -(2 ^ 64) < y ∧ y < 2 ^ 64) : CMul x y := .inr h
theorem len_lst {K : PySem.W.Frag} {H : Hp} {a : Addr} {xs : List V} (h : SqL K H a xs) : LenV K (.ref a) H xs.length := .inl ⟨xs, h, rfl⟩
end L2
set_option Elab.async false
set_option linter.all false
set_option autoImplicit false
set_option maxRecDepth 100000
set_option maxHeartbeats 1000000
namespace L2
open PySem PySem.Spec PyProof.Rows
section
variable {X : Cx} {tg a b l : Expr} {ta tb tl : TE} {pos : Pos}
theorem ix_seqK (K : PySem.W.Frag) (h : X.K = K) : IxR X (rIx K) := h ▸ ix_seq
theorem call_lenK (K : PySem.W.Frag) (h : X.K = K) : CallR X (.builtin "len") (fun xs H Q => ∃ x n, xs = [x] ∧ LenV K x H n ∧ Q (.int n) H) := h ▸ call_len
theorem call_allK (K : PySem.W.Frag) (h : X.K = K) (hc : X.calm = true) : CallR X (.builtin "all") (fun xs H Q => ∃ (a : Addr) (bs : List Bool), xs = [.ref a] ∧ SqL K H a (bs.map V.bl) ∧ Q (.bl (bs.all id)) H) := h ▸ call_all hc
theorem pt_truthK (K : PySem.W.Frag) (h : X.K = K) (ha : PE X a ta) (he : ∀ whole, isTrue a X.env whole = (do let v ← whole; standAt a.pos; holding [v] (truthy v))) :
    PT X a (fun σ H Q => ta σ H fun x H' => ∃ k, TruV K x H' k ∧ Q k H') := h ▸ pt_truth ha he
theorem call_list_ofK (K : PySem.W.Frag) (h : X.K = K) : CallR X (.type "list") (fun xs H Q => ∃ p ys, xs = [.ref p] ∧ (SqL K H p ys ∨ SqT K H p ys) ∧ ∀ l, H l = none → Q (.ref l) (upd H l (.lst ys))) := h ▸ call_list_of
theorem call_tuple_ofK (K : PySem.W.Frag) (h : X.K = K) : CallR X (.type "tuple") (fun xs H Q => ∃ p ys, xs = [.ref p] ∧ ((SqL K H p ys ∧ ∀ l, H l = none → Q (.ref l) (upd H l (.tup ys))) ∨ (SqT K H p ys ∧ Q (.ref p) H))) := h ▸ call_tuple_of
end
end L2
set_option Elab.async false
set_option linter.all false
set_option autoImplicit false
set_option maxRecDepth 100000
set_option maxHeartbeats 1000000
namespace L2
open PySem PySem.Spec PyProof.Rows
def forW (J : It) (g : TG) (tb : TS) (D : Ends) (σ : St) (H : Hp) : Prop := ∃ W : Nat → Nat → St → Hp → Prop, (∃ m, W 0 m σ H) ∧ ∀ i m σ H, W i m σ H →
  (J.stop i H ∧ D.nx σ H) ∨ (J.go i H ∧ ∃ N : St → Hp → Prop, (∀ σ' H', N σ' H' → ∃ m', m' < m ∧ W (i + 1) m' σ' H') ∧ ∀ x H', J.yld i H x H' → g x σ H' fun σ2 H2 => tb { D with nx := N, ct := N, bk := D.nx } σ2 H2)
theorem tFor_eq (wi : TI) (g : TG) (tb : TS) (D : Ends) (σ : St) (H : Hp) : tFor wi g tb D σ H = wi σ H fun J H1 => forW J g tb D σ H1 := rfl
section
variable {K : PySem.W.Frag} {a : Addr} {xs : List V} {g : TG} {tb : TS} {D : Ends} {σ : St} {H : Hp}
end
end L2
set_option Elab.async false
set_option linter.all false
set_option autoImplicit false
set_option maxRecDepth 100000
set_option maxHeartbeats 1000000
namespace L2
open PySem PySem.Spec PyProof.Rows
def TSame (H H' : Hp) : Prop := ∀ b xs, H b = some (.tup xs) → H' b = some (.tup xs)
theorem TSame.refl (H : Hp) : TSame H H := fun _ _ h => h
theorem TSame.trans {H H1 H2 : Hp} (a : TSame H H1) (b : TSame H1 H2) : TSame H H2 := fun c xs h => b c xs (a c xs h)
theorem Same.t {H H' : Hp} (e : Same H H') : TSame H H' := fun b xs h => e b _ h
theorem tsame_upd {H : Hp} {a : Addr} {o : HO} {xs : List V} (h : H a = some (.lst xs)) : TSame H (upd H a o) := fun b ys e => by
  rw [upd_ne (by rintro rfl; rw [h] at e; cases e)]; exact e
mutual
def noL : D → Bool
  | .lst _ => false
  | .tup ds => noLs ds
  | _ => true
def noLs : List D → Bool
  | [] => true
  | d :: ds => noL d && noLs ds
end
mutual
theorem Dat.t {H H' : Hp} (e : TSame H H') : ∀ {d : D} {v : V}, noL d = true → Dat H d v → Dat H' d v
  | .non, v, _, h => by simpa only [Dat] using h
  | .bl b, v, _, h => by simpa only [Dat] using h
  | .int i, v, _, h => by simpa only [Dat] using h
  | .str x, v, _, h => by simpa only [Dat] using h
  | .tup ds, v, n, h => by
    simp only [Dat] at h ⊢
    simp only [noL] at n
    obtain ⟨a, xs, rfl, h1, h2⟩ := h
    exact ⟨a, xs, rfl, e a _ h1, Dats.t e n h2⟩
  | .lst ds, v, n, h => by simp [noL] at n
theorem Dats.t {H H' : Hp} (e : TSame H H') : ∀ {ds : List D} {xs : List V}, noLs ds = true → Dats H ds xs → Dats H' ds xs
  | [], xs, _, h => by simpa only [Dats] using h
  | d :: ds, xs, n, h => by
    simp only [Dats] at h ⊢
    simp only [noLs, Bool.and_eq_true] at n
    obtain ⟨x, r, rfl, h1, h2⟩ := h
    exact ⟨x, r, rfl, Dat.t e n.1 h1, Dats.t e n.2 h2⟩
end
theorem noLs_all : ∀ {ds : List D}, (∀ d ∈ ds, noL d = true) → noLs ds = true
  | [], _ => by simp [noLs]
  | d :: ds, h => by
    simp only [noLs, Bool.and_eq_true]
    exact ⟨h d (List.mem_cons_self ..), noLs_all fun e he => h e (List.mem_cons_of_mem _ he)⟩
end L2
namespace L2
end L2
namespace L2
open PySem
def Keep (p : Addr) (H H' : Hp) : Prop := ∀ b o, b ≠ p → H b = some o → H' b = some o
theorem Keep.refl (p : Addr) (H : Hp) : Keep p H H := fun _ _ _ h => h
theorem Keep.trans {p : Addr} {H H1 H2 : Hp} (a : Keep p H H1) (b : Keep p H1 H2) : Keep p H H2 := fun c o hc h => b c o hc (a c o hc h)
theorem But.keep {p : Addr} {H H' : Hp} (b : But p H H') : Keep p H H' := fun c o hc h => by rw [b c hc]; exact h
theorem Same.keep {p : Addr} {H H' : Hp} (b : Same H H') : Keep p H H' := fun c o _ h => b c o h
theorem Keep.same {p : Addr} {H0 H H' : Hp} (hp : H0 p = none) (e : Same H0 H) (b : Keep p H H') : Same H0 H' := fun c o h => b c o (ne_of_none h hp) (e c o h)
end L2
namespace L2
open PySem
theorem Room.u100 {k : Nat} {A : Around} (r : Room k A) : A.units + 100 < cLine := by have := r.un; omega
end L2
namespace L2
open PySem
theorem deps_le : ∀ {ds : List D} {n : Nat}, (∀ d ∈ ds, dep d ≤ n) → deps ds ≤ n
  | [], n, _ => by simp [deps]
  | d :: ds, n, h => by
    simp only [deps]
    exact Nat.max_le.mpr ⟨h d (List.mem_cons_self ..), deps_le fun e he => h e (List.mem_cons_of_mem _ he)⟩
theorem deps_ints (ns : List Int) : deps (ns.map D.int) = 0 := by
  have : deps (ns.map D.int) ≤ 0 := deps_le fun d hd => by
    obtain ⟨n, _, rfl⟩ := List.mem_map.mp hd
    simp [dep]
  omega
end L2
set_option Elab.async false
set_option linter.all false
set_option autoImplicit false
set_option maxRecDepth 100000
set_option maxHeartbeats 1000000
namespace L2
open PySem PySem.Spec PyProof.Rows
section
variable {X : Cx}
end
end L2
namespace L2
open PySem
theorem SqL.keep {K : PySem.W.Frag} {H H' : Hp} {p a : Addr} {kvs : List (Key × V)} {xs : List V} (hp : H p = some (.dK kvs)) (h : SqL K H a xs) (k : Keep p H H') : SqL K H' a xs := by
  rcases h with (h | ⟨o, h⟩) | h
  · exact .inl (.inl (k _ _ (ne_of h hp (by intro z; cases z)) h))
  · exact .inl (.inr ⟨o, k _ _ (ne_of h hp (by intro z; cases z)) h⟩)
  · exact .inr h
end L2
namespace L2
open PySem
theorem Dats.take {H : Hp} : ∀ {ds : List D} {xs : List V} (n : Nat), Dats H ds xs → Dats H (ds.take n) (xs.take n) := fun {ds xs} n h => by
  refine Dats.of_get (by rw [List.length_take, List.length_take, h.length]) fun i d x e1 e2 => ?_
  rw [List.getElem?_take] at e1 e2
  split at e1
  · rename_i hi
    rw [if_pos hi] at e2
    obtain ⟨x', h1, h2⟩ := h.get e1
    rw [e2] at h1; cases h1; exact h2
  · cases e1
theorem Dats.drop {H : Hp} : ∀ {ds : List D} {xs : List V} (n : Nat), Dats H ds xs → Dats H (ds.drop n) (xs.drop n) := fun {ds xs} n h => by
  refine Dats.of_get (by rw [List.length_drop, List.length_drop, h.length]) fun i d x e1 e2 => ?_
  rw [List.getElem?_drop] at e1 e2
  obtain ⟨x', h1, h2⟩ := h.get e1
  rw [e2] at h1; cases h1; exact h2
end L2
namespace L2
open PySem
theorem Dats.set {H : Hp} {ds : List D} {xs : List V} {d : D} {x : V} (i : Nat) (h : Dats H ds xs) (hd : Dat H d x) : Dats H (ds.set i d) (xs.set i x) := by
  refine Dats.of_get (by rw [List.length_set, List.length_set, h.length]) fun j d' x' e1 e2 => ?_
  rw [List.getElem?_set] at e1 e2
  by_cases hij : i = j
  · rw [if_pos hij] at e1 e2
    split at e1
    · rename_i hl
      rw [if_pos (by rw [h.length]; exact hl)] at e2
      cases e1; cases e2; exact hd
    · cases e1
  · rw [if_neg hij] at e1 e2
    obtain ⟨y, h1, h2⟩ := h.get e1
    rw [e2] at h1; cases h1; exact h2
end L2
set_option Elab.async false
set_option linter.all false
set_option autoImplicit false
set_option maxRecDepth 100000
set_option maxHeartbeats 1000000
namespace L2
open PySem PySem.Spec PyProof.Rows
section
variable {X : Cx} {e st : Expr} {te ts : TE} {pos p2 : Pos}
end
end L2
set_option Elab.async false
set_option linter.all false
set_option autoImplicit false
set_option maxRecDepth 100000
set_option maxHeartbeats 1000000
namespace L2
open PySem PySem.Spec PyProof.Rows
def LD (H : Hp) (l : Addr) (ds : List D) : Prop := noLs ds = true ∧ ∃ xs, H l = some (.lst xs) ∧ Dats H ds xs
theorem noLs_append {ds es : List D} : noLs (ds ++ es) = (noLs ds && noLs es) := by
  induction ds with
  | nil => simp [noLs]
  | cons d ds ih => simp [noLs, ih, Bool.and_assoc]
theorem LD.new {H : Hp} {q : Addr} : LD (upd H q (.lst [])) q [] := ⟨by simp [noLs], [], upd_same, by simp [Dats]⟩
theorem LD.one {H : Hp} {q : Addr} {d : D} {v : V} (hq : H q = none) (hn : noL d = true) (h : Dat H d v) : LD (upd H q (.lst [v])) q [d] := ⟨by simp [noLs, hn], [v], upd_same, Dats.one (h.same (same_upd hq))⟩
theorem LD.same {H H' : Hp} {l : Addr} {ds : List D} (h : LD H l ds) (s : Same H H') : LD H' l ds := by
  obtain ⟨n, xs, h1, h2⟩ := h
  exact ⟨n, xs, s _ _ h1, h2.same s⟩
theorem LD.t {H H' : Hp} {l : Addr} {ds : List D} (h : LD H l ds) (s : TSame H H') (e : H' l = H l) : LD H' l ds := by
  obtain ⟨n, xs, h1, h2⟩ := h
  exact ⟨n, xs, by rw [e]; exact h1, Dats.t s n h2⟩
theorem LD.over {H : Hp} {l m : Addr} {ds : List D} {o : HO} {ys : List V} (h : LD H l ds) (hm : H m = some (.lst ys)) (e : l ≠ m) : LD (upd H m o) l ds := h.t (tsame_upd hm) (upd_ne e)
theorem Dats.split {H : Hp} {ds es : List D} {xs : List V} (h : Dats H (ds ++ es) xs) : ∃ ys zs, xs = ys ++ zs ∧ Dats H ds ys ∧ Dats H es zs :=
  ⟨xs.take ds.length, xs.drop ds.length, (List.take_append_drop ..).symm, by simpa using Dats.take ds.length h, by simpa using Dats.drop ds.length h⟩
theorem LD.push {H : Hp} {l : Addr} {ds : List D} {d : D} {v : V} (h : LD H l ds) (hn : noL d = true) (hd : Dat H d v) (hl : ds.length ≤ 1000000) :
    ∃ xs, H l = some (.lst xs) ∧ xs.length < sizeLine ∧ LD (upd H l (.lst (xs ++ [v]))) l (ds ++ [d]) ∧ TSame H (upd H l (.lst (xs ++ [v]))) := by
  obtain ⟨n, xs, h1, h2⟩ := h
  have tS : TSame H (upd H l (.lst (xs ++ [v]))) := tsame_upd h1
  refine ⟨xs, h1, ?_, ⟨by rw [noLs_append]; simp [n, noLs, hn], _, upd_same, (Dats.t tS n h2).append (Dats.one (Dat.t tS hn hd))⟩, tS⟩
  have := h2.length
  exact Nat.lt_of_le_of_lt (by omega : xs.length ≤ 1000000) (by decide)
theorem LD.pop {H : Hp} {l : Addr} {ds : List D} {d : D} (h : LD H l (ds ++ [d])) :
    ∃ xs y, H l = some (.lst xs) ∧ xs[xs.length - 1]? = some y ∧ noL d = true ∧ Dat (upd H l (.lst xs.dropLast)) d y ∧ LD (upd H l (.lst xs.dropLast)) l ds ∧ TSame H (upd H l (.lst xs.dropLast)) := by
  obtain ⟨n, xs, h1, h2⟩ := h
  rw [noLs_append, Bool.and_eq_true] at n
  have nd : noL d = true := by simpa [noLs] using n.2
  have hxl : xs.length = ds.length + 1 := by rw [h2.length]; simp
  obtain ⟨y, hy, hdy⟩ := h2.get (i := ds.length) (d := d) (by simp)
  have tS : TSame H (upd H l (.lst xs.dropLast)) := tsame_upd h1
  have hdl : Dats H ds xs.dropLast := by
    have := Dats.take ds.length h2
    rw [List.dropLast_eq_take, hxl]
    simpa using this
  exact ⟨xs, y, h1, by rw [hxl]; exact hy, nd, Dat.t tS nd hdy, ⟨n.1, _, upd_same, Dats.t tS n.1 hdl⟩, tS⟩
theorem Dats.reverse {H : Hp} {ds : List D} {xs : List V} (h : Dats H ds xs) : Dats H ds.reverse xs.reverse := by
  refine Dats.of_get (by rw [List.length_reverse, List.length_reverse, h.length]) fun i d x e1 e2 => ?_
  have hl := h.length
  have hi : i < ds.length := by
    have := (List.getElem?_eq_some_iff.mp e1).1
    rwa [List.length_reverse] at this
  rw [List.getElem?_reverse hi] at e1
  rw [List.getElem?_reverse (by omega), hl] at e2
  obtain ⟨x', h1, h2⟩ := h.get e1
  rw [e2] at h1; cases h1; exact h2
inductive Tr where
  | lf (x : List D)
  | nd (x : List D) (l r : Tr)
namespace Tr
def d : Tr → D
  | .lf x => .tup x
  | .nd x l r => .tup (x ++ [l.d, r.d])
def size : Tr → Nat
  | .lf _ => 1
  | .nd _ l r => l.size + r.size + 1
def dp : Tr → Nat
  | .lf _ => 0
  | .nd _ l r => 1 + max l.dp r.dp
def post : Tr → List Tr
  | .lf x => [.lf x]
  | .nd x l r => l.post ++ r.post ++ [.nd x l r]
def pre : Tr → List Tr
  | .lf x => [.lf x]
  | .nd x l r => .nd x l r :: (r.pre ++ l.pre)
def ok (lw : Str) : Tr → Prop
  | .lf x => x[0]? = some (.str lw) ∧ noLs x = true
  | .nd x l r => (∃ w, x[0]? = some (.str w) ∧ w ≠ lw) ∧ noLs x = true ∧ l.ok lw ∧ r.ok lw
theorem ok.noL {lw : Str} : ∀ {t : Tr}, t.ok lw → noL t.d = true
  | .lf x, h => by simp only [d, L2.noL]; exact h.2
  | .nd x l r, h => by
    obtain ⟨_, h1, h2, h3⟩ := h
    simp only [d, L2.noL, noLs_append, Bool.and_eq_true]
    exact ⟨h1, by simp [noLs, ok.noL h2, ok.noL h3]⟩
theorem ok.post {lw : Str} : ∀ {t : Tr}, t.ok lw → ∀ u ∈ t.post, u.ok lw
  | .lf x, h, u, hu => by simp only [Tr.post, List.mem_singleton] at hu; subst hu; exact h
  | .nd x l r, h, u, hu => by
    simp only [Tr.post, List.mem_append, List.mem_singleton] at hu
    rcases hu with (hu | hu) | hu
    · exact ok.post h.2.2.1 u hu
    · exact ok.post h.2.2.2 u hu
    · subst hu; exact h
theorem ok.noLs {lw : Str} {ts : List Tr} (h : ∀ t ∈ ts, t.ok lw) : noLs (ts.map d) = true := noLs_all fun e he => by
  obtain ⟨t, ht, rfl⟩ := List.mem_map.mp he
  exact (h t ht).noL
end Tr
end L2
set_option Elab.async false
set_option linter.all false
set_option autoImplicit false
set_option maxRecDepth 100000
set_option maxHeartbeats 1000000
namespace L2
open PySem PySem.Spec PyProof.Rows
theorem Keep.t {p : Addr} {H H' : Hp} {zs : List V} (k : Keep p H H') (hp : H p = some (.lst zs)) : TSame H H' := fun b xs h => k b _ (ne_of h hp (by intro z; cases z)) h
theorem LD.keep {H H' : Hp} {l p : Addr} {ds : List D} {zs : List V} (h : LD H l ds) (k : Keep p H H') (hp : H p = some (.lst zs)) (ne : l ≠ p) : LD H' l ds := by
  obtain ⟨n, xs, h1, h2⟩ := h
  exact ⟨n, xs, k _ _ ne h1, Dats.t (k.t hp) n h2⟩
theorem LD.get {H : Hp} {l : Addr} {ds : List D} {i : Nat} {d : D} (h : LD H l ds) (e : ds[i]? = some d) : ∃ xs x, H l = some (.lst xs) ∧ xs[i]? = some x ∧ xs.length = ds.length ∧ noL d = true ∧ Dat H d x := by
  obtain ⟨n, xs, h1, h2⟩ := h
  obtain ⟨x, hx, hd⟩ := h2.get e
  refine ⟨xs, x, h1, hx, h2.length, ?_, hd⟩
  have m := List.mem_of_getElem? e
  clear h2 hx e
  induction ds with
  | nil => cases m
  | cons a ds ih =>
    simp only [noLs, Bool.and_eq_true] at n
    rcases List.mem_cons.mp m with rfl | m
    · exact n.1
    · exact ih n.2 m
theorem LD.len {K : PySem.W.Frag} {H : Hp} {l : Addr} {ds : List D} (h : LD H l ds) : LenV K (.ref l) H ds.length := by
  obtain ⟨n, xs, h1, h2⟩ := h
  rw [← h2.length]
  exact len_lst (SqL.of h1)
theorem LD.ne {H : Hp} {l p : Addr} {ds : List D} (h : LD H l ds) (hp : H p = none) : l ≠ p := by
  obtain ⟨_, xs, h1, _⟩ := h
  rintro rfl
  rw [h1] at hp; cases hp
section
variable {K : PySem.W.Frag} {a p : Addr} {ds : List D} {zs : List V} {g : TG} {tb : TS} {Dn : Ends} {σ : St} {H : Hp}
end
section
variable {K : PySem.W.Frag} {a acc : Addr} {ds : List D} {g : TG} {tc : TT} {l : TL} {σ : St} {H : Hp} {R : St → Hp → Prop} {zs : List V}
end
theorem LD.ext {H : Hp} {l : Addr} {ds es : List D} {zs : List V} (h : LD H l ds) (hn : noLs es = true) (hd : Dats H es zs) (hl : ds.length + es.length ≤ 1000000) :
    ∃ xs, H l = some (.lst xs) ∧ xs.length + zs.length ≤ sizeLine ∧ LD (upd H l (.lst (xs ++ zs))) l (ds ++ es) := by
  obtain ⟨n, xs, h1, h2⟩ := h
  have tS : TSame H (upd H l (.lst (xs ++ zs))) := tsame_upd h1
  refine ⟨xs, h1, ?_, by rw [noLs_append, n, hn]; rfl, _, upd_same, (Dats.t tS n h2).append (Dats.t tS hn hd)⟩
  have := h2.length
  have := hd.length
  exact Nat.le_trans (by omega : xs.length + zs.length ≤ 1000000) (by decide)
end L2
set_option Elab.async false
set_option linter.all false
set_option autoImplicit false
set_option maxRecDepth 100000
set_option maxHeartbeats 1000000
namespace L2
open PySem PySem.Spec PyProof.Rows
section
variable {X : Cx}
theorem getItem_tuple_whole {prog : Program} {w : World} {A : Around} {E : Value → Shared → Prop} {s : Shared} {t sl : Addr} {items : Array Value} {vl vu : Value} {lo hi : Option Int} {Q : Value → Shared → Prop} (ht : IsTup s.heap t items) (hs : s.heap.IsSliceOf sl vl vu .none) (pl : IsPart vl lo) (pu : IsPart vu hi)
    (hw : HT.sIx items.size 0 lo = 0 ∧ HT.sIx items.size items.size hi = items.size) (h : Q (.ref t) s) : wpAny (model prog w) A (getItem (.ref t) (.ref sl)) Q E s := by
  obtain ⟨os, hos, hcs, hds⟩ := id hs
  have hTs : s.TypeIs (.ref sl) "slice" := ⟨os, hos, hcs⟩
  unfold getItem
  try with_reducible refine wpAny_holding ?_
  first | refine wpAny_bind (wpAny_pure ?_) | skip
  refine wpAny_bind (wpAny_sequenceKey ht.typeIs (by decide) ?_)
  refine wpAny_bind (wpAny_callSpecial?_slot (name := Str.ofString "__getitem__") ht.typeIs PyProof.Rows.slot_tuple_getitem
    (wpAny_call_entry PyProof.Rows.slot_tuple_getitem ht.typeIs PyProof.Rows.entry_tuple_getitem ?_ (PyProof.Rows.args_tuple_getitem _ _)))
  show wpAny _ _ (Builtin.Tuple.tupleItemsOf (.ref t) >>= _) _ _ s
  refine wpAny_bind (tupleItemsOf_ ht ?_)
  refine wpAny_bind (wpAny_typeOf hTs ?_)
  rw [if_pos (by decide)]
  refine wpAny_bind (HT.sliceApplied_gen hs pl pu ?_)
  have hyes : (((HT.sIx items.size 0 lo : Nat) : Int) == 0 && (1 : Int) == 1 && (HT.sIx items.size items.size hi - HT.sIx items.size 0 lo) == items.size) = true := by
    rw [hw.1, hw.2]; simp
  show wpAny _ _ (if (((HT.sIx items.size 0 lo : Nat) : Int) == 0 && (1 : Int) == 1 && (HT.sIx items.size items.size hi - HT.sIx items.size 0 lo) == items.size) = true then _ else _) _ _ s
  rw [if_pos hyes]
  unfold Builtin.Tuple.tupleIsExact
  refine wpAny_bind (wpAny_bind (wpAny_typeOf ht.typeIs (wpAny_pure ?_)))
  rw [if_pos (by decide)]
  exact wpAny_bind (wpAny_rule (wpAny_pure ⟨_, rfl, wpAny_pure h⟩))
def rSlTA (K : PySem.W.Frag) : V → Option Int → Option Int → Hp → VK → Prop := fun x lo hi H Q => ∃ a xs, x = .ref a ∧ SqT K H a xs ∧
  if HT.sIx xs.length 0 lo = 0 ∧ HT.sIx xs.length xs.length hi = xs.length then Q (.ref a) H else ∀ p, H p = none → Q (.ref p) (upd H p (.tup (cutV xs lo hi)))
theorem sl_tupA : SlR X (rSlTA X.K) := by
  intro pins s σ H x v vl vu lo hi sl Q I rx hs pl pu h
  obtain ⟨a, xs, rfl, hx, h⟩ := h
  by_cases hw : HT.sIx xs.length 0 lo = 0 ∧ HT.sIx xs.length xs.length hi = xs.length
  · rw [if_pos hw] at h
    cases rx
    obtain ⟨its, r, ht, hz⟩ := I.tuple hx
    have hlen : its.toArray.size = xs.length := by rw [List.size_toArray]; exact r.length.symm
    exact ⟨"tuple", _, PyProof.Rows.slot_tuple_getitem.lookup, ht.typeIs, getItem_tuple_whole ht hs pl pu (by rw [hlen]; exact hw) ⟨.ref a, H, I, rfl, h⟩⟩
  · rw [if_neg hw] at h
    exact sl_tup pins s σ H (.ref a) v vl vu lo hi sl Q I rx hs pl pu ⟨a, xs, rfl, hx, hw, h⟩
end
end L2
set_option Elab.async false
set_option linter.all false
set_option autoImplicit false
set_option maxRecDepth 100000
set_option maxHeartbeats 1000000
namespace L2
open PySem PySem.Spec PyProof.Rows
section
variable {K : PySem.W.Frag} {a : Addr} {ds : List D} {xs : List V} {g : TG} {tb : TS} {Dn : Ends} {σ : St} {H : Hp}
end
section
variable {K : PySem.W.Frag} {a acc : Addr} {ds : List D} {xs : List V} {g : TG} {tc : TT} {l : TL} {σ : St} {H : Hp} {R : St → Hp → Prop}
end
section
variable {X : Cx}
end
def wdD (w : List Int) : D := .tup (w.map D.int)
def csD (pl : Nat) (ys ns : List (List Int)) : D := .tup [.int pl, .tup (ys.map wdD), .tup (ns.map wdD)]
theorem Dat.cs {H : Hp} {pl : Nat} {ys ns : List (List Int)} {v : V} (h : Dat H (csD pl ys ns) v) : ∃ a ya na yv nv, v = .ref a ∧ H a = some (.tup [.int pl, .ref ya, .ref na]) ∧ H ya = some (.tup yv) ∧ Dats H (ys.map wdD) yv ∧ H na = some (.tup nv) ∧ Dats H (ns.map wdD) nv := by
  simp only [csD, Dat, Dats] at h
  obtain ⟨a, _, rfl, ha, _, _, rfl, rfl, _, _, rfl, ⟨ya, yv, rfl, hya, hyd⟩, _, _, rfl, ⟨na, nv, rfl, hna, hnd⟩, rfl⟩ := h
  exact ⟨a, ya, na, yv, nv, rfl, ha, hya, hyd, hna, hnd⟩
end L2
set_option Elab.async false
set_option linter.all false
set_option autoImplicit false
set_option maxRecDepth 100000
set_option maxHeartbeats 1000000
namespace L2
open PySem PySem.Spec PyProof.Rows
structure SN (n : Nat) (H : Hp) (S : Addr) (ad : Nat → Addr) (fs : Nat → List D) : Prop where
  s : H S = some (.lst ((List.range n).map fun i => .ref (ad i)))
  l : ∀ i, i < n → LD H (ad i) (fs i)
theorem SN.at {n : Nat} {ad : Nat → Addr} {k : Nat} (h : k < n) : atI ((List.range n).map fun i => V.ref (ad i)) (k : Int) = some (.ref (ad k)) := atI_nat (by rw [List.getElem?_map, List.getElem?_range h]; rfl)
theorem SN.same {n : Nat} {H H' : Hp} {S : Addr} {ad : Nat → Addr} {fs : Nat → List D} (h : SN n H S ad fs) (s : Same H H') : SN n H' S ad fs := ⟨s _ _ h.s, fun i hi => (h.l i hi).same s⟩
theorem SN.keep {n : Nat} {H H' : Hp} {S p : Addr} {ad : Nat → Addr} {fs : Nat → List D} (h : SN n H S ad fs) (k : Keep p H H') (t : TSame H H') (hS : S ≠ p) (ha : ∀ i, i < n → ad i ≠ p) : SN n H' S ad fs :=
  ⟨k _ _ hS h.s, fun i hi => by
    obtain ⟨m, xs, h1, h2⟩ := h.l i hi
    exact ⟨m, xs, k _ _ (ha i hi) h1, Dats.t t m h2⟩⟩
theorem SN.upd {n : Nat} {H : Hp} {S : Addr} {ad : Nat → Addr} {fs : Nat → List D} {k : Nat} {o : HO} {ds : List D} (h : SN n H S ad fs) (hk : k < n) (hl : LD (upd H (ad k) o) (ad k) ds) (hS : ∀ i, i < n → ad i ≠ S) (hi : ∀ i j, i < n → j < n → ad i = ad j → i = j) :
    SN n (upd H (ad k) o) S ad (fun i => if i = k then ds else fs i) := by
  refine ⟨by rw [upd_ne (hS k hk).symm]; exact h.s, fun i hin => ?_⟩
  by_cases e : i = k
  · subst e; rw [if_pos rfl]; exact hl
  · rw [if_neg e]
    obtain ⟨_, xs, h1, _⟩ := h.l k hk
    exact (h.l i hin).over h1 (fun z => e (hi i k hin hk z))
end L2
set_option Elab.async false
set_option linter.all false
set_option autoImplicit false
set_option maxRecDepth 100000
set_option maxHeartbeats 1000000
namespace L2
open PySem PySem.Spec PyProof.Rows
def StE (w : World) (e : DictEntry) (p : Str × V) : Prop := e.hash = PyData.keyHash w.params p.1 ∧ (∃ t, e.key = .str p.1 t) ∧ RelV p.2 e.val
def valS (kvs : List (Str × V)) (x : Str) : Option V := (kvs.find? fun p => decide (p.1 = x)).map (·.2)
theorem StE.keys {P : Program} {w : World} : ∀ {es : List DictEntry} {kvs : List (Str × V)}, Paired (StE w) es kvs → ∀ e ∈ es, ∃ k, (mixKind P w).is k e.key = true ∧ e.hash = (mixKind P w).hash k
  | _, _, .nil, e, h => by cases h
  | _, _, .cons (a := e0) (b := p) r t, e, h => by
    rcases List.mem_cons.mp h with rfl | h
    · obtain ⟨h1, ⟨tk, h2⟩, _⟩ := r
      exact ⟨Sum.inr p.1, by rw [h2]; exact mixKind_str _ _ _ _, h1⟩
    · exact StE.keys t e h
section
variable {X : Cx} {o i : Expr} {ty : TE} {pos : Pos} {a : Addr} {kvs : List (Str × V)}
end
end L2
set_option Elab.async false
set_option linter.all false
set_option autoImplicit false
set_option maxRecDepth 100000
set_option maxHeartbeats 1000000
namespace L2
open PySem PySem.Spec PyProof.Rows
open Classical in
def inD (dx : D) (ds : List D) : Bool := ds.any fun d => eqD d dx
section
variable {X : Cx}
end
end L2
set_option Elab.async false
set_option linter.all false
set_option autoImplicit false
set_option maxRecDepth 100000
set_option maxHeartbeats 1000000
namespace L2
open PySem PySem.Spec PyProof.Rows
mutual
def pyD : D → PyData
  | .non => .none
  | .bl b => .bool b
  | .int i => .int i
  | .str x => .str x
  | .tup ds => .tuple (pyDs ds)
  | .lst ds => .list (pyDs ds)
def pyDs : List D → List PyData
  | [] => []
  | d :: ds => pyD d :: pyDs ds
end
def repD (d : D) : Str := (pyD d).shown
section
variable {X : Cx} {pins : List (Addr × Obj)} {σ : St} {H : Hp} {s : Shared}
end
mutual
def wt : D → Nat
  | .non => 4
  | .bl _ => 5
  | .int i => i.natAbs.log2 + 3
  | .str x => (reprText x).length
  | .tup ds => wts ds + 3
  | .lst ds => wts ds + 2
def wts : List D → Nat
  | [] => 0
  | d :: ds => wt d + 2 + wts ds
end
mutual
def fit : D → Bool
  | .int i => decide (i.natAbs.log2 < 1920)
  | .tup ds => fits ds
  | .lst ds => fits ds
  | _ => true
def fits : List D → Bool
  | [] => true
  | d :: ds => fit d && fits ds
end
section
variable {X : Cx}
end
end L2
set_option Elab.async false
set_option linter.all false
set_option autoImplicit false
set_option maxRecDepth 100000
set_option maxHeartbeats 1000000
namespace L2
open PySem PySem.Spec PyProof.Rows
section
variable {prog : Program} {w : World} {A : Around} {E : Value → Shared → Prop}
end
section
variable {X : Cx} {pos : Pos}
end
end L2
set_option Elab.async false
set_option linter.all false
set_option autoImplicit false
set_option maxRecDepth 100000
set_option maxHeartbeats 1000000
namespace L2
open PySem PySem.Spec PyProof.Rows
section
variable {X : Cx}
theorem pa_consT {es fs x1 pos te t} (ha : PE X (.Tuple fs x1 pos) te) (hr : PA X es t) : PA X (.Tuple fs x1 pos :: es) (tCons te t) := pa_cons ha hr (by rfl)
theorem pa_consL {es fs pos te t} (ha : PE X (.List fs pos) te) (hr : PA X es t) : PA X (.List fs pos :: es) (tCons te t) := pa_cons ha hr (by rfl)
theorem pa_consC {es c j pos te t} (ha : PE X (.Constant c j pos) te) (hr : PA X es t) : PA X (.Constant c j pos :: es) (tCons te t) := pa_cons ha hr (by rfl)
end
end L2
set_option Elab.async false
set_option linter.all false
set_option autoImplicit false
set_option maxRecDepth 100000
set_option maxHeartbeats 1000000
namespace L2
open PySem PySem.Spec PySem.Calls PyProof.Rows
def Frz (H H' : Hp) : Prop := ∀ b o u, H b = some (.frz o u) → H' b = some (.frz o u)
theorem Frz.refl (H : Hp) : Frz H H := fun _ _ _ h => h
theorem Frz.trans {H H1 H2 : Hp} (a : Frz H H1) (b : Frz H1 H2) : Frz H H2 := fun c o u h => b c o u (a c o u h)
theorem Same.frz {H H' : Hp} (h : Same H H') : Frz H H' := fun b o u e => h b _ e
def LamAt (H : Hp) (f : Addr) (q : Str) (params : Arguments) (body : Expr) (scope : Scope) (clos : List (Str × Addr)) : Prop :=
  ∃ (pm : Value) (c : Addr) (ctv : Value) (oc : Obj) (vs : Array Value) (t : Tok) (u u' : HO), H f = some (.frz (PySem.W.kla_obj "<lambda>" q params body scope clos pm c ctv) u) ∧ H c = some (.frz oc u') ∧ oc.data = .fields vs ∧ vs[1]? = some (.str q t)
theorem LamAt.frz {H H' : Hp} {f : Addr} {q : Str} {params : Arguments} {body : Expr} {scope : Scope} {clos : List (Str × Addr)} (x : LamAt H f q params body scope clos) (k : Frz H H') : LamAt H' f q params body scope clos :=
  let ⟨pm, c, ctv, oc, vs, t, u, u', h1, h2, r⟩ := x; ⟨pm, c, ctv, oc, vs, t, u, u', k _ _ _ h1, k _ _ _ h2, r⟩
def hdIn (K : PySem.W.Frag) (c P : Addr) : Bool := match K.lookup c with
  | some o => (o.cls == .type "code") && c != P && (match o.data with
    | .fields vs => (vs[11]? == some (.ref P)) && (match vs.getD 18 .none, vs.getD 7 .none, vs.getD 9 .none, vs.getD 10 .none with
      | .str _ _, .int _ _, .bool _, .int _ _ => true
      | _, _, _, _ => false)
    | _ => false)
  | none => false
section
variable {P : Program} {w : World} {H H' : Hp} {h h' : Heap} {p : Addr} {ps : Array Value}
end
section
variable {X : Cx} {args : Arguments} {body : Expr} {scope : Scope} {pos : Pos} {x : Str} {c p : Addr} {clos : List (Str × Addr)}
end
end L2
set_option Elab.async false
set_option linter.all false
set_option autoImplicit false
set_option maxRecDepth 100000
set_option maxHeartbeats 1000000
namespace L2
open PySem PySem.Spec PySem.Calls PyProof.Rows
structure Clo (P : Program) (w : World) (K : PySem.W.Frag) (mg : Str → Option Value) (base : Heap) (H₀ : Hp) (k : Nat) (f : Addr) (n : Nat) (sp : Sp) : Prop where
  fn : (∃ (oc : Value) (od : Option Addr) (fd : FuncData) (sl : Array (Option Value)) (u : HO), H₀ f = some (.frz ⟨oc, od, .func fd, sl⟩ u)) ∨ ∃ (oc : Value) (od : Option Addr) (fd : FuncData) (sl : Array (Option Value)), K.lookup f = some ⟨oc, od, .func fd, sl⟩
  len : ∀ vs H Q E, sp vs H Q E → vs.length = n
  run : ∀ (A : Around) (outer : List Env) (s : Shared) (H : Hp) (us : List Value) (vs : List V) (Q : VK) (E : XK), Room k A → Env0 P w K mg base A outer s H → Frz H₀ H → Vals vs us → sp vs H Q E →
    codeAny (model P w) A (.call (.ref f) ⟨us, []⟩) (CR CX0 outer P w H s Q E) s
theorem Clo.mono {P : Program} {w : World} {K : PySem.W.Frag} {mg : Str → Option Value} {base : Heap} {H₀ H₁ : Hp} {j k : Nat} {f : Addr} {n : Nat} {sp : Sp} (C : Clo P w K mg base H₀ j f n sp) (h : Frz H₀ H₁) (hk : j ≤ k) : Clo P w K mg base H₁ k f n sp :=
  ⟨C.fn.imp (fun ⟨oc, od, fd, sl, u, e⟩ => ⟨oc, od, fd, sl, u, h _ _ _ e⟩) id, C.len, fun A outer s H us vs Q E hr he hf hv hs => C.run A outer s H us vs Q E (hr.mono hk) he (h.trans hf) hv hs⟩
theorem Clo.imp {P : Program} {w : World} {K : PySem.W.Frag} {mg : Str → Option Value} {base : Heap} {H₀ : Hp} {k : Nat} {f : Addr} {n : Nat} {sp sp' : Sp} (C : Clo P w K mg base H₀ k f n sp) (h : ∀ vs H Q E, sp' vs H Q E → sp vs H Q E) : Clo P w K mg base H₀ k f n sp' :=
  ⟨C.fn, fun vs H Q E q => C.len vs H Q E (h _ _ _ _ q), fun A outer s H us vs Q E hr he hf hv hs => C.run A outer s H us vs Q E hr he hf hv (h _ _ _ _ hs)⟩
section
variable {X : Cx} {k n i : Nat} {x : Str} {p pos : Pos} {e : Expr} {es : List Expr} {t : TA}
end
theorem Mod.mono {K : PySem.W.Frag} {mg : Str → Option Value} {b b' : Heap} (m : Mod K mg b) (k : ∀ a o, b.get? a = some o → b'.get? a = some o) : Mod K mg b' :=
  ⟨m.kin.keeps k, m.glob.keeps k, let ⟨mb, h1, h2⟩ := m.blt; ⟨mb, h1.keeps k, h2⟩, m.nolimit.keeps k, let ⟨bm, ob, h1, h2, h3, r⟩ := m.bm; ⟨bm, ob, h1, h2, k _ _ h3, r⟩⟩
def CellB (X : Cx) (σ : St) (b : Heap) : Prop := ∀ (i : Nat) (x : Str) (v : V), X.N[i]? = some x → σ[i]? = some (some v) → X.env.scope.names.lookup x = some .cell → X.fn x = true → ∃ c u, X.env.cells.lookup x = some c ∧ b.IsCell c (some u) ∧ RelV v u
theorem frames_grow {h b b' : Heap} : ∀ {l : List Env}, h.FunFrames b l → (∀ a ∈ frs l, b'.get? a = none) → h.FunFrames b' l
  | [], _, _ => trivial
  | env :: r, x, k => by
    obtain ⟨hk, ⟨L, o, hf, hn, ho, hd⟩, hr⟩ := x
    have hL : L ∈ frs (env :: r) := by unfold frs; rw [List.filterMap_cons, hf]; exact List.mem_cons_self
    refine ⟨hk, ⟨L, o, hf, k L hL, ho, hd⟩, frames_grow hr fun a ha => k a ?_⟩
    unfold frs at ha ⊢
    rw [List.filterMap_cons, hf]
    exact List.mem_cons_of_mem _ ha
theorem Inv.grow {X : Cx} {pins : List (Addr × Obj)} {σ : St} {H : Hp} {s : Shared} (I : Inv X pins σ H s) :
    ∃ b', (∀ a o, X.base.get? a = some o → b'.get? a = some o) ∧ Env0 X.prog X.w X.K X.mg b' X.A X.stack s H ∧ CellB X σ b' := by
  have keep : ∀ a o, s.heap.get? a = some o → H a = none → a ∉ frs X.stack → (PySem.W.hideAll s.heap (trk s.heap H ++ frs X.stack)).get? a = some o := fun a o e n hf => PySem.W.hideAll_get _ e fun hm => by
    rcases List.mem_append.mp hm with z | z
    · have q : (H a).isSome = true := (List.mem_filter.mp z).2
      rw [n] at q; simp at q
    · exact hf z
  have sub : ∀ a o, X.base.get? a = some o → (PySem.W.hideAll s.heap (trk s.heap H ++ frs X.stack)).get? a = some o := fun a o e => keep a o (I.bs a o e).1 (I.bs a o e).2 fun hm => by
    have := (I.stack.mem hm).1
    rw [e] at this; cases this
  have e0 := I.env0
  refine ⟨PySem.W.hideAll s.heap (trk s.heap H ++ frs X.stack), sub, ⟨e0.frames, e0.mod.mono sub, fun a o e => ⟨PySem.W.of_hideAll _ e, ?_⟩, Nat.le_of_eq (PySem.W.hideAll_size _ _), frames_grow e0.funs fun a ha => PySem.W.hideAll_none _ (List.mem_append_right _ ha), e0.frf, e0.tt, e0.hok, e0.bare⟩, ?_⟩
  · cases q : H a with
    | none => rfl
    | some u =>
      have hm : a ∈ trk s.heap H := List.mem_filter.mpr ⟨List.mem_range.mpr (I.hok.lt q), by simp [q]⟩
      rw [PySem.W.hideAll_none _ (List.mem_append_left _ hm)] at e; cases e
  · intro i x v h1 h2 h3 h4
    obtain ⟨m, hn, hl⟩ := I.loc
    obtain ⟨u, r, l⟩ := hl i x v h1 h2 (.inr (.inl h3))
    rcases l with ⟨k, _⟩ | ⟨_, c, hc, o, ho, hd⟩
    · have k' : X.env.scope.names.lookup x = some .local := k
      rw [h3] at k'; cases k'
    · refine ⟨c, u, hc, ⟨o, keep c o ho (I.freeC x c hc) fun hm => ?_, hd⟩, r⟩
      rcases List.mem_cons.mp (I.stkSub c hm) with z | z
      · exact I.cne x c hc z
      · obtain ⟨_, o', ho', _⟩ := I.ok.funs.mem z
        exact absurd (Nat.lt_of_lt_of_le (Heap.lt_size ho') (I.ok.cab x c h4 hc)) (Nat.lt_irrefl _)
section
variable {X : Cx} {k : Nat} {f : Addr} {fd : FuncData} {ps : List Str} {x : Str} {p pos : Pos} {e : Expr} {es : List Expr} {t : TA} {spf : Heap → Sp}
end
structure LamScope (ps cs : List Str) (sc : Scope) : Prop where
  kind : sc.kind = .function
  co : sc.isCoroutine = false
  gen : sc.isGenerator = false
  nd : (ps ++ cs).Nodup
  par : ∀ x ∈ ps, sc.names.lookup x = some .local
  free : ∀ x ∈ cs, sc.names.lookup x = some .free
  has : ∀ y ∈ sc.names, y.2 ≠ .cell ∧ (y.2 = .free → y.1 ∈ cs)
structure FunT (K : PySem.W.Frag) (x qual : Str) (st : Stmt) (f : Addr) (fd : FuncData) (c p : Addr) : Prop where
  ex : ∃ (oc : Value) (od : Option Addr) (kV doc pm : Value) (an : Option Addr) (ct : Value) (osl : Array (Option Value)),
    fd = PySem.W.fnOf x qual (defArgs st) (defBody st) (defScope st) .none kV doc pm an (.ref c) ct ∧ K.lookup f = some ⟨oc, od, .func fd, osl⟩ ∧ PySem.W.codeIn K (.ref c) qual = true
  tab : (x, c, p) ∈ tabL K
  hd : hdIn K c p = true
theorem FunT.ok {P : Program} {w : World} {K : PySem.W.Frag} {mg : Str → Option Value} {base : Heap} {x qual : Str} {st : Stmt} {f c p : Addr} {fd : FuncData} {N ps : List Str} {k : Nat} {sp : Sp} (F : FunT K x qual st f fd c p) (S : FnScope N ps (defScope st)) (len : ∀ vs H Q E, sp vs H Q E → vs.length = ps.length)
    (hbody : ∀ (A : Around) (outer : List Env) (s : Shared) (H : Hp) (vs : List V) (Q : VK) (E : XK), Room k (A.deeper (envOfC qual (defScope st) s.heap.objs.size f (.ref c))) → sp vs H Q E →
      ∃ t, PSs (cxOf CX0 P w K mg base N qual (defScope st) f (.ref c) A outer s H E).nox (defBody st) t ∧ t { nx := fun _ H' => Q .non H', rt := Q } (start N vs) H) : FnOk P w K mg base CX0 (k + 1) f fd ps sp := by
  obtain ⟨oc, od, kV, doc, pm, an, ct, osl, rfl, lk, hcd⟩ := F.ex
  refine fn_of lk hcd S len fun A outer s H vs Q E hr hsp => ?_
  obtain ⟨t, h, q⟩ := hbody A outer s H vs Q E hr hsp
  exact ⟨t, h.nox, q⟩
end L2
set_option Elab.async false
set_option linter.all false
set_option autoImplicit false
set_option maxRecDepth 100000
set_option maxHeartbeats 1000000
namespace L2
open PySem PySem.Spec PySem.Calls PyProof.Rows
def ndB : List Nat → Bool
  | [] => true
  | a :: r => !(r.contains a) && ndB r
theorem find_nd {α : Type} (f : α → Nat) : ∀ {l : List α} {q : α}, ndB (l.map f) = true → q ∈ l → l.find? (fun t => f t == f q) = some q
  | [], _, _, m => nomatch m
  | a :: r, q, h, m => by
    rw [List.map_cons, ndB, Bool.and_eq_true] at h
    obtain ⟨h1, h2⟩ := h
    rcases List.mem_cons.mp m with e | m
    · subst e
      rw [List.find?_cons_of_pos (by simp)]
    · have ne : (f a == f q) = false := by
        cases z : f a == f q with
        | false => rfl
        | true =>
          have z' : f a = f q := eq_of_beq z
          have : (r.map f).contains (f a) = true := by
            rw [z']
            simpa using ⟨q, m, rfl⟩
          rw [this] at h1
          cases h1
      rw [List.find?_cons_of_neg (by rw [ne]; simp)]
      exact find_nd f h2 m
def tabH (K : PySem.W.Frag) (b : Addr) : Option HO := ((tabL K).find? fun t => t.2.2 == b).map fun t => HO.tbl #[.str (t.1 ++ ".<locals>." ++ "<lambda>") 0]
theorem tabH_mem {K : PySem.W.Frag} {b : Addr} {o : HO} (e : tabH K b = some o) : ∃ t ∈ tabL K, t.2.2 = b ∧ o = HO.tbl #[.str (t.1 ++ ".<locals>." ++ "<lambda>") 0] := by
  unfold tabH at e
  cases q : (tabL K).find? (fun t => t.2.2 == b) with
  | none => rw [q] at e; cases e
  | some t =>
    rw [q] at e
    cases e
    have := List.find?_some q
    exact ⟨t, List.mem_of_find?_eq_some q, eq_of_beq this, rfl⟩
def tabsOk (K : PySem.W.Frag) (names : List Str) : Bool := PySem.W.noTabs K && ndB ((tabL K).map fun t => t.2.2) && (tabL K).all fun t => names.contains t.1
theorem tabL_in {K : PySem.W.Frag} {t : Str × Addr × Addr} (h : t ∈ tabL K) : PySem.W.tabIn K t.1 = some t.2 := by
  unfold tabL at h
  split at h
  · obtain ⟨e, _, q⟩ := List.mem_filterMap.mp h
    split at q
    · rename_i x tk hx
      cases z : PySem.W.tabIn K x with
      | none => rw [z] at q; cases q
      | some r => rw [z] at q; cases q; exact z
    · cases q
  · cases h
theorem law_callT {P : Program} {w : World} {K : PySem.W.Frag} {mg mb : Str → Option Value} {CX : CXT} {k : Nat} {fa a : Addr} {fd : FuncData} {x : Str} {sp : Sp} {s₁ : Shared} {vs : List Value} {ns : List Int}
    (KX : K.In s₁.heap) (hns : s₁.heap.Ns mainGlobals mg) (hb : s₁.heap.Ns builtinsNs mb) (hbb : ∀ x : Str, x ≠ "__name__" → mb x = bootBuiltins x) (hlim : s₁.heap.NoLimit) (hg : s₁.gens = #[])
    (hbm : ∃ bm ob, mg "__builtins__" = some (.ref bm) ∧ bm ≠ builtinsNs ∧ s₁.heap.get? bm = some ob ∧ ob.cls = .type "module" ∧ ob.dict = some builtinsNs ∧ ob.data = .plain)
    (hT : ∀ t ∈ tabL K, PySem.W.CodeHd s₁.heap t.2.1 t.2.2 ∧ s₁.heap.get? t.2.2 = some (PySem.W.tabObj #[])) (nt : PySem.W.noTabs K = true) (nd : ndB ((tabL K).map fun t => t.2.2) = true)
    (ha : s₁.heap.get? a = some { cls := .type "list", data := .seq vs.toArray }) (hi : IntsAre vs ns) (hl : ns.length ≤ sizeLine) (hr : Room k callerA)
    (F : ∀ base : Heap, FnOk P w K mg base CX k fa fd [x] sp) (hbind : ∀ (s : Shared) (u : Value), BindsTo s fd ⟨[u], []⟩ [(x, u)])
    (hsp : ∀ H : Hp, SqL K H a (ns.map V.int) → sp [.ref a] H (fun v _ => v = .bl true) fun _ _ _ => False)
    (hCX : ∀ H e s', CX [] H s₁ (fun _ _ _ => False) e s' → False) :
    codeAny (model P w) callerA (.call (.ref fa) ⟨[.ref a], []⟩) (fun r s' => r = .ok (.ret (.bool true)) ∧ OldK s₁.heap s'.heap ∧ s'.os = s₁.os ∧ AllBare s'.gens) s₁ := by
  have rv := vals_ints hi
  have lenV := hi.length
  have tabNot : ∀ b o, K.lookup b = some o → tabH K b = none := fun b o e => by
    cases q : tabH K b with
    | none => rfl
    | some u =>
      obtain ⟨t, ht, rfl, _⟩ := tabH_mem q
      have e1 := (hT t ht).2
      rw [KX _ _ e] at e1
      cases e1
      have h2 := List.all_eq_true.mp nt _ (PySem.W.mem_of_lookupK e)
      exact absurd (show false = true from h2) Bool.false_ne_true
  have tabA : tabH K a = none := by
    cases q : tabH K a with
    | none => rfl
    | some u =>
      obtain ⟨t, ht, e, _⟩ := tabH_mem q
      have e1 := (hT t ht).2
      rw [e, ha] at e1
      cases e1
  have core : ∀ H : Hp, (∀ b, b ≠ a → H b = tabH K b) → (H a = none ∨ (K.lookup a = none ∧ H a = some (.frz { cls := .type "list", data := .seq vs.toArray } (.lst (ns.map V.int))))) → SqL K H a (ns.map V.int) →
      codeAny (model P w) callerA (.call (.ref fa) ⟨[.ref a], []⟩) (fun r s' => r = .ok (.ret (.bool true)) ∧ OldK s₁.heap s'.heap ∧ s'.os = s₁.os ∧ AllBare s'.gens) s₁ := by
    intro H hH hA hS
    have what : ∀ b u, H b = some u → (b = a ∧ K.lookup a = none ∧ u = .frz { cls := .type "list", data := .seq vs.toArray } (.lst (ns.map V.int))) ∨ ∃ t ∈ tabL K, t.2.2 = b ∧ u = HO.tbl #[.str (t.1 ++ ".<locals>." ++ "<lambda>") 0] := fun b u e => by
      by_cases hb : b = a
      · subst hb
        rcases hA with z | ⟨z1, z2⟩
        · rw [z] at e; cases e
        · rw [z2] at e; cases e
          exact .inl ⟨rfl, z1, rfl⟩
      · rw [hH b hb] at e
        exact .inr (tabH_mem e)
    have hok : HOk P w H s₁.heap := fun b u e => by
      rcases what b u e with ⟨rfl, _, rfl⟩ | ⟨t, ht, rfl, rfl⟩
      · exact ⟨ha, by rw [List.length_map]; exact hl, vs, _, rv, ha⟩
      · exact ⟨#[], (hT t ht).2, trivial, fun pos cv q => by cases q⟩
    have tt : TabT K H := fun t ht => by
      refine ⟨#[.str (t.1 ++ ".<locals>." ++ "<lambda>") 0], ?_, rfl⟩
      have ne : t.2.2 ≠ a := fun z => by
        have e1 := (hT t ht).2
        rw [z, ha] at e1
        cases e1
      rw [hH _ ne]
      unfold tabH
      rw [find_nd (fun t : Str × Addr × Addr => t.2.2) nd ht]
      rfl
    have base_of : ∀ {b : Addr} {o : Obj}, s₁.heap.get? b = some o → H b = none → (hidT s₁.heap H).get? b = some o := fun e n => hidT_get e n
    have freeB : ∀ {b : Addr} {o : Obj}, s₁.heap.get? b = some o → o.cls ≠ .none → o.cls ≠ .type "list" → H b = none := fun {b o} e c1 c2 => by
      cases q : H b with
      | none => rfl
      | some u =>
        rcases what b u q with ⟨rfl, _, _⟩ | ⟨t, ht, rfl, _⟩
        · rw [ha] at e; cases e; exact absurd rfl c2
        · rw [(hT t ht).2] at e; cases e; exact absurd rfl c1
    have noD : ∀ {b : Addr} {o : Obj} {es : Array DictEntry} {ep : Nat}, s₁.heap.get? b = some o → o.data = .dict es ep → H b = none := fun {b o es ep} e d => by
      cases q : H b with
      | none => rfl
      | some u =>
        rcases what b u q with ⟨rfl, _, _⟩ | ⟨t, ht, rfl, _⟩
        · rw [ha] at e; cases e; cases d
        · rw [(hT t ht).2] at e; cases e; cases d
    have nsK : ∀ {b : Addr} {m : Str → Option Value}, s₁.heap.Ns b m → (hidT s₁.heap H).Ns b m := fun {b m} ⟨o, es, ep, e, d, r⟩ => ⟨o, es, ep, base_of e (noD e d), d, r⟩
    have hKb : K.In (hidT s₁.heap H) := fun b o e => base_of (KX b o e) (by
      cases q : H b with
      | none => rfl
      | some u =>
        by_cases hb : b = a
        · subst hb
          rcases hA with z | ⟨z1, _⟩
          · rw [z] at q; cases q
          · rw [e] at z1; cases z1
        · rw [hH b hb, tabNot b o e] at q; cases q)
    have hM : Mod K mg (hidT s₁.heap H) := ⟨hKb, nsK hns, ⟨mb, nsK hb, hbb⟩, let ⟨mc, h1, h2⟩ := hlim; ⟨mc, nsK h1, h2⟩,
      let ⟨bm, ob, b1, b2, b3, b4, b5, b6⟩ := hbm; ⟨bm, ob, b1, b2, base_of b3 (freeB b3 (by rw [b4]; nofun) (by rw [b4]; decide)), b4, b5, b6⟩⟩
    have e0 : Env0 P w K mg (hidT s₁.heap H) callerA [] s₁ H := ⟨rfl, hM, fun b o e => of_hidT e, Nat.le_of_eq (hidT_size _ _), trivial, fun b hb => absurd (show b ∈ ([] : List Addr) from hb) (by simp), tt, hok, .of_eq hg⟩
    refine codeAny_mono ((F _).run callerA [] s₁ H ⟨[.ref a], []⟩ [.ref a] [.ref a] _ _ hr e0 (hbind s₁ (.ref a)) (.cons rfl .nil) (hsp H hS)) fun r s' h => ?_
    cases r with
    | error e => exact (hCX H e s' h).elim
    | ok fl =>
      cases fl with
      | next => exact False.elim h
      | brk => exact False.elim h
      | cont => exact False.elim h
      | ret u =>
        obtain ⟨v, H', os, bare, un, hok', r', q⟩ := h
        have q' : v = .bl true := q
        subst q'
        obtain rfl : u = Value.bool true := r'
        refine ⟨rfl, ⟨fun b o e => ?_, fun b o e => un.there b o e (by simp)⟩, os, bare⟩
        cases q : H b with
        | none => exact .inl (un.keep b o e q (by intro z; exact absurd (show b ∈ ([] : List Addr) from z) (by simp)) (by simp))
        | some u =>
          rcases what b u q with ⟨rfl, _, rfl⟩ | ⟨t, ht, rfl, rfl⟩
          · have z2 := un.frzs _ _ _ q
            obtain ⟨e1, _⟩ := hok _ _ q
            obtain ⟨e2, _⟩ := hok' _ _ z2
            rw [e] at e1; cases e1
            exact .inl e2
          · obtain ⟨more, z2⟩ := un.tbls _ _ q
            obtain ⟨qs, e2, _⟩ := hok' _ _ z2
            have e1 := (hT t ht).2
            rw [e] at e1
            obtain rfl := Option.some.inj e1
            exact .inr (.inl ⟨((hT t ht).1.tab (hT t ht).2).isCodeTable, rfl, #[], qs, rfl, by rw [Array.empty_append]; exact e2⟩)
  cases hk : K.lookup a with
  | some o =>
    have e := KX a o hk
    rw [ha] at e
    cases e
    exact core (fun b => tabH K b) (fun _ _ => rfl) (.inl tabA) (.inr ⟨_, vs.toArray, _, hk, rfl, rfl, rfl, by rw [List.size_toArray, lenV]; exact hl, by simpa using rv⟩)
  | none =>
    refine core (fun b => if b = a then some (.frz { cls := .type "list", data := .seq vs.toArray } (.lst (ns.map V.int))) else tabH K b) (fun b hb => if_neg hb) (.inr ⟨hk, if_pos rfl⟩) (.inl (.inr ⟨_, if_pos rfl⟩))
theorem walk_ofT {l : PySem.W.OpenLaw} {n k : Nat} {q : Program} {loose : List Str} {XP : (Str → Option Value) → Heap → Prop} {YP : World → Heap → Prop} {d : DefRec} {K : Params → PySem.W.Frag} {CX : CXT} {sp : PySem.W.Frag → Sp} {x : Str}
    (hn : l.most = some n) (hn2 : n ≤ sizeLine) (hdf : d.params.defaults = []) (hr : Room k callerA)
    (hY : ∀ (w : World) (h : Heap), YP w h → (K w.params).In h)
    (tabs : ∀ w : World, tabsOk (K w.params) ((recsOf q).map (·.name)) = true)
    (F : ∀ (w : World) (mg : Str → Option Value) (fa : Addr) (h : Heap), (K w.params).In h → h.Ns mainGlobals mg → mg d.name = some (.ref fa) →
      ∃ fd : FuncData, (∀ (s : Shared) (u : Value), BindsTo s fd ⟨[u], []⟩ [(x, u)]) ∧ ∀ base : Heap, FnOk l.prog w (K w.params) mg base CX k fa fd [x] (sp (K w.params)))
    (hsp : ∀ (K : PySem.W.Frag) (H : Hp) (a : Addr) (ns : List Int), ns.length ≤ n → Only H → SqL K H a (ns.map V.int) → sp K [.ref a] H (fun v _ => v = .bl true) fun _ _ _ => False)
    (hCX : ∀ (H : Hp) (s : Shared) (e : Value) (s' : Shared), CX [] H s (fun _ _ _ => False) e s' → False) :
    PySem.W.WalkO q loose XP YP l.row.toRowW d [] (fun f vs => PySem.call f vs) := by
  refine Att.attach_call hn hdf fun w s₀ s₁ mg mb fa o pm cd doc a vs ns G Y ho hd hcd hmg hobj hints hlen hg => ?_
  have KX := hY w _ Y
  have tb := tabs w
  unfold tabsOk at tb
  rw [Bool.and_eq_true, Bool.and_eq_true] at tb
  obtain ⟨⟨t1, t2⟩, t3⟩ := tb
  obtain ⟨fd, hb, hF⟩ := F w mg fa _ KX G.T.g hmg
  refine law_callT KX G.T.g G.T.b G.T.builtins G.T.nolimit hg G.T.bmain (fun t ht => ?_) t1 t2 hobj hints (Nat.le_trans hlen hn2) hr hF hb (fun H hS => hsp _ H a ns hlen trivial hS) fun H e s' => hCX H s₁ e s'
  have hc := List.all_eq_true.mp t3 t ht
  have hm : t.1 ∈ (recsOf q).map (·.name) := by simpa using hc
  obtain ⟨r, hr1, hr2⟩ := List.mem_map.mp hm
  cases z : (recsOf q).find? (fun e => e.name == t.1) with
  | none =>
    have := List.find?_eq_none.mp z r hr1
    rw [hr2] at this
    simp at this
  | some d' => exact PySem.W.tab_of G.T KX z (tabL_in ht)
end L2
set_option Elab.async false
set_option linter.all false
set_option autoImplicit false
set_option maxRecDepth 100000
set_option maxHeartbeats 1000000
namespace L2
open PySem PySem.Spec PySem.Calls PyProof.Rows
open AutoSeq1 (wpAny_loadPart')
section
variable {prog : Program} {w : World} {A : Around} {E : Value → Shared → Prop} {S : Shared}
set_option maxHeartbeats 2000000 in
end
end L2
set_option Elab.async false
set_option linter.all false
set_option autoImplicit false
set_option maxRecDepth 100000
set_option maxHeartbeats 1000000
namespace L2
open PySem PySem.Spec PySem.Calls PyProof.Rows
section
variable {X : Cx}
end
section
variable {X : Cx}
end
end L2
set_option Elab.async false
set_option linter.all false
set_option autoImplicit false
set_option maxRecDepth 100000
set_option maxHeartbeats 1000000
namespace L2
open PySem PySem.Spec PySem.Calls PyProof.Rows
structure Src (prog : Program) (w : World) (A : Around) (j q : Addr) (its : Array Value) (It1 : Nat → Heap → Prop) (Sq1 : Heap → Prop) : Prop where
  item : ∀ (n : Nat) (v : Value) (S : Shared) (Q : Value → Shared → Prop) (E : Value → Shared → Prop), It1 n S.heap → Sq1 S.heap → its[n]? = some v → (∀ h1, It1 (n + 1) h1 → Heap.SameBut j S.heap h1 → Q v { S with heap := h1 }) → wpAny (model prog w) A (Builtin.SmallTypes.nextOf (.ref j)) Q E S
  stop : ∀ (n : Nat) (S : Shared) (Q : Value → Shared → Prop) (E : Value → Shared → Prop), It1 n S.heap → Sq1 S.heap → its[n]? = none → (∀ h1 e, Heap.ExtBut j S.heap h1 → (∃ o, h1.get? e = some o ∧ o.cls = .type "StopIteration") → E (.ref e) { S with heap := h1 }) → wpAny (model prog w) A (Builtin.SmallTypes.nextOf (.ref j)) Q E S
  mv : ∀ (n : Nat) (h h1 : Heap), It1 n h → (∀ o, h.get? j = some o → h1.get? j = some o) → It1 n h1
  sv : ∀ (h h1 : Heap), Sq1 h → (∀ o, h.get? q = some o → h1.get? q = some o) → Sq1 h1
  live : ∀ (n : Nat) (h : Heap), It1 n h → ∃ o vs, h.get? j = some o ∧ o.data = .fields vs
section
variable {prog : Program} {w : World} {A : Around} {E : Value → Shared → Prop} {S : Shared} {z u o i j p q : Addr} {m n : Nat} {xs ys : Array Value} {x y a b : Value} {Ii Ij : Nat → Heap → Prop} {Sp Sq : Heap → Prop}
end
structure Kd (cls : String) (Sa : PySem.W.Frag → Hp → Addr → List V → Prop) (Iti : Heap → Addr → Addr → Nat → Prop) (Is : Heap → Addr → Array Value → Prop) : Prop where
  got : ∀ {X : Cx} {pins : List (Addr × Obj)} {σ : St} {H : Hp} {s : Shared} {a : Addr} {xs : List V}, Inv X pins σ H s → Sa X.K H a xs → ∃ its : List Value, Vals xs its ∧ Is s.heap a its.toArray
  inj : ∀ {X : Cx} {pins : List (Addr × Obj)} {σ : St} {H : Hp} {s : Shared} {a : Addr} {xs ys : List V}, Inv X pins σ H s → Sa X.K H a xs → Sa X.K H a ys → xs = ys
  src : ∀ (prog : Program) (w : World) (A : Around) (j q : Addr) (its : Array Value), A.handled = none → Src prog w A j q its (fun n h => Iti h j q n) (fun h => Is h q its)
  seq : ∀ {h : Heap} {a : Addr} {its : Array Value}, Is h a its → ∃ o n, h.get? a = some o ∧ o.data = .seq its n
  ne : ∀ {X : Cx} {pins : List (Addr × Obj)} {σ : St} {H : Hp} {s : Shared} {a b : Addr} {xs : List V}, Inv X pins σ H s → Sa X.K H a xs → FpOk X pins H b → a ≠ b
  itr : ∀ {prog : Program} {w : World} {A : Around} {E : Value → Shared → Prop} {S : Shared} {a : Addr} {its : Array Value} {Q : Value → Shared → Prop}, Is S.heap a its → Q (.ref S.heap.objs.size) { S with heap := S.heap.push { cls := .type cls, data := .fields #[.ref a, .int 0 0] } } → wpAny (model prog w) A (pyIter (.ref a)) Q E S
  sv : ∀ {h h1 : Heap} {a : Addr} {its : Array Value}, Is h a its → (∀ ob, h.get? a = some ob → h1.get? a = some ob) → Is h1 a its
  new : ∀ {h : Heap} {j q : Addr}, h.get? j = some { cls := .type cls, data := .fields #[.ref q, .int 0 0] } → Iti h j q 0
section
variable {c1 c2 : String} {Sa Sb : PySem.W.Frag → Hp → Addr → List V → Prop} {Ia Ib : Heap → Addr → Addr → Nat → Prop} {Isa Isb : Heap → Addr → Array Value → Prop}
end
end L2
set_option Elab.async false
set_option linter.all false
set_option autoImplicit false
set_option maxRecDepth 100000
set_option maxHeartbeats 1000000
namespace L2
open PySem PySem.Spec PySem.Calls PyProof.Rows
section
variable {c1 c2 : String} {Sa Sb : PySem.W.Frag → Hp → Addr → List V → Prop} {Ia Ib : Heap → Addr → Addr → Nat → Prop} {Isa Isb : Heap → Addr → Array Value → Prop}
variable {X : Cx}
end
section
variable {K : PySem.W.Frag} {a b : Addr} {xs ys : List V} {g : TG} {tb : TS} {D : Ends} {σ : St} {H : Hp} {Sa Sb : Hp → Addr → List V → Prop} {acc : Addr} {tc : TT} {l : TL} {R : St → Hp → Prop} {J : It} {n : Nat}
end
end L2
set_option Elab.async false
set_option linter.all false
set_option autoImplicit false
set_option maxRecDepth 100000
set_option maxHeartbeats 1000000
namespace L2
open PySem PySem.Spec PySem.Calls PyProof.Rows
def kEnd {α : Type} (c : Nat → Nat → Bool) : PySem.W.KasT α → α
  | .ret a => a
  | .ask i j k => kEnd c (k (c i j))
def KG {α : Type} (n : Nat) (R : α → Prop) : PySem.W.KasT α → Prop
  | .ret a => R a
  | .ask i j k => i < n ∧ j < n ∧ ∀ b, KG n R (k b)
theorem KG.fin {α : Type} {n : Nat} {R : α → Prop} (c : Nat → Nat → Bool) : ∀ {t : PySem.W.KasT α}, KG n R t → R (kEnd c t)
  | .ret _, h => h
  | .ask i j k, h => KG.fin c (t := k (c i j)) (h.2.2 (c i j))
theorem KG.mono {α : Type} {n : Nat} {R S : α → Prop} (q : ∀ a, R a → S a) : ∀ {t : PySem.W.KasT α}, KG n R t → KG n S t
  | .ret a, h => q a h
  | .ask _ _ k, h => ⟨h.1, h.2.1, fun b => KG.mono q (t := k b) (h.2.2 b)⟩
theorem KG.bind {α β : Type} {n : Nat} {R : β → Prop} {f : α → PySem.W.KasT β} : ∀ {t : PySem.W.KasT α}, KG n (fun a => KG n R (f a)) t → KG n R (t.bind f)
  | .ret _, h => h
  | .ask _ _ k, h => ⟨h.1, h.2.1, fun b => KG.bind (t := k b) (h.2.2 b)⟩
def Ord (n : Nat) (p : Array Nat) : Prop := p.Perm (List.range n).toArray
theorem Ord.lt {n : Nat} {p : Array Nat} (hn : 0 < n) (h : Ord n p) (k : Nat) : p.getD k 0 < n := by
  by_cases hk : k < p.size
  · have hm : p[k] ∈ p := Array.getElem_mem hk
    have h2 := (h.mem_iff (a := p[k])).mp hm
    simp at h2
    simp [Array.getD, hk]
    exact h2
  · simp [Array.getD, hk]
    exact hn
section
variable {n : Nat} (hn : 0 < n)
include hn
end
end L2
set_option Elab.async false
set_option linter.all false
set_option autoImplicit false
set_option maxRecDepth 100000
set_option maxHeartbeats 1000000
namespace L2
open PySem PySem.Spec PySem.Calls PyProof.Rows
def Zs : List Value → List Int → Prop
  | [], [] => True
  | v :: vs, n :: ns => (∃ t, v = .int n t) ∧ Zs vs ns
  | _, _ => False
def ltF (e : Bool) : List Int → List Int → Bool
  | x :: xs, y :: ys => if x = y then ltF e xs ys else decide (x < y)
  | _, _ => e
def ltZ (x y : List Int) : Bool := ltF (decide (x.length < y.length)) x y
theorem Zs.len : ∀ {vs : List Value} {ns : List Int}, Zs vs ns → vs.length = ns.length
  | [], [], _ => rfl
  | _ :: _, _ :: _, h => congrArg (· + 1) (Zs.len h.2)
  | [], _ :: _, h => h.elim
  | _ :: _, [], h => h.elim
section
variable {prog : Program} {w : World} {A : Around} {E : Value → Shared → Prop} {s : Shared}
end
def TW (h : Heap) : List Value → List (List Int) → Prop
  | [], [] => True
  | v :: vs, x :: xs => (∃ a o its n, v = .ref a ∧ h.get? a = some o ∧ o.cls = .type "tuple" ∧ o.data = .seq its n ∧ Zs its.toList x) ∧ TW h vs xs
  | _, _ => False
theorem TW.len {h : Heap} : ∀ {vs : List Value} {W : List (List Int)}, TW h vs W → vs.length = W.length
  | [], [], _ => rfl
  | _ :: _, _ :: _, q => congrArg (· + 1) (TW.len q.2)
  | [], _ :: _, q => q.elim
  | _ :: _, [], q => q.elim
theorem TW.keep {h h' : Heap} (k : ∀ b o, h.get? b = some o → o.cls = .type "tuple" → h'.get? b = some o) : ∀ {vs : List Value} {W : List (List Int)}, TW h vs W → TW h' vs W
  | [], [], _ => trivial
  | _ :: _, _ :: _, ⟨⟨a, o, its, n, e1, e2, e3, e4⟩, q⟩ => ⟨⟨a, o, its, n, e1, k _ _ e2 e3, e3, e4⟩, TW.keep k q⟩
  | [], _ :: _, q => q.elim
  | _ :: _, [], q => q.elim
theorem TW.at {h : Heap} : ∀ {vs : List Value} {W : List (List Int)} {i : Nat}, TW h vs W → i < vs.length → ∃ a o its n, vs.getD i Value.none = .ref a ∧ h.get? a = some o ∧ o.data = .seq its n ∧ Zs its.toList (W.getD i [])
  | _ :: _, _ :: _, 0, ⟨⟨a, o, its, n, e1, e2, e3, e4, e5⟩, _⟩, _ => ⟨a, o, its, n, by simpa using e1, e2, e4, by simpa using e5⟩
  | _ :: _, _ :: _, i + 1, ⟨_, q⟩, hi => by
    obtain ⟨a, o, its, n, e1, e2, e3, e4⟩ := TW.at (i := i) q (by simpa using hi)
    exact ⟨a, o, its, n, by simpa using e1, e2, e3, by simpa using e4⟩
  | [], _, _, _, hi => absurd hi (by simp)
  | _ :: _, [], _, q, _ => q.elim
theorem TW.tups {h : Heap} : ∀ {vs : List Value} {W : List (List Int)}, TW h vs W → (∀ x ∈ W, x ≠ []) → ∃ fs, PySem.W.KatTups h vs fs ∧ fs.length = vs.length ∧ ∀ v ∈ fs, ∃ n t, v = .int n t
  | [], [], _, _ => ⟨[], trivial, rfl, by simp⟩
  | _ :: vs, x :: xs, ⟨⟨a, o, its, n, rfl, e2, e3, e4, e5⟩, q⟩, ne => by
    obtain ⟨fs, g1, g2, g3⟩ := TW.tups q fun y hy => ne y (List.mem_cons_of_mem _ hy)
    have e6 := ne x List.mem_cons_self
    match hi : its.toList, x, e5, e6 with
    | [], [], _, e6 => exact absurd rfl e6
    | [], _ :: _, e5, _ => exact e5.elim
    | _ :: _, [], e5, _ => exact e5.elim
    | f :: r, m :: ms, e5, _ =>
      obtain ⟨t, ht⟩ := e5.1
      refine ⟨f :: fs, PySem.W.KatTups.cons e2 e3 e4 ?_ g1, by simp [g2], ?_⟩
      · rw [← Array.getElem?_toList, hi]; rfl
      · intro v hv
        rcases List.mem_cons.mp hv with rfl | hv
        · exact ⟨m, t, ht⟩
        · exact g3 v hv
  | [], _ :: _, q, _ => q.elim
  | _ :: _, [], q, _ => q.elim
def sortP (W : List (List Int)) : Array Nat := if W.length < 2 then (List.range W.length).toArray else kEnd (fun i j => ltZ (W.getD i []) (W.getD j [])) (PySem.W.kas_sort W.length)
end L2
set_option Elab.async false
set_option linter.all false
set_option autoImplicit false
set_option maxRecDepth 100000
set_option maxHeartbeats 1000000
namespace L2
open PySem PySem.Spec PySem.Calls PyProof.Rows
section
variable {prog : Program} {w : World} {A : Around} {E : Value → Shared → Prop} {s : Shared}
end
def TWv (H : Hp) : List V → List (List Int) → Prop
  | [], [] => True
  | v :: vs, x :: xs => (∃ a, v = .ref a ∧ H a = some (.tup (x.map V.int))) ∧ TWv H vs xs
  | _, _ => False
section
variable {X : Cx}
theorem Zs.of : ∀ {ns : List Int} {its : List Value}, Vals (ns.map V.int) its → Zs its ns
  | [], [], _ => trivial
  | n :: ns, v :: vs, h => by
    cases h with
    | cons r rr =>
      exact ⟨r, Zs.of rr⟩
  | [], _ :: _, h => by cases h
  | _ :: _, [], h => by cases h
theorem Ord.mem {n : Nat} {p : Array Nat} (h : Ord n p) {i : Nat} (hi : i ∈ p.toList) : i < n := by
  have := (h.mem_iff (a := i)).mp (Array.mem_toList_iff.mp hi)
  simpa using this
end
def srtW (W : List (List Int)) : List (List Int) := (sortP W).toList.map fun i => W.getD i []
theorem TWv.len {H : Hp} : ∀ {vs : List V} {W : List (List Int)}, TWv H vs W → vs.length = W.length
  | [], [], _ => rfl
  | _ :: _, _ :: _, q => congrArg (· + 1) (TWv.len q.2)
  | [], _ :: _, q => q.elim
  | _ :: _, [], q => q.elim
end L2
set_option Elab.async false
set_option linter.all false
set_option autoImplicit false
set_option maxRecDepth 100000
set_option maxHeartbeats 1000000
namespace L2
open PySem PySem.Spec PySem.Calls PyProof.Rows
theorem wd_ints {H : Hp} : ∀ {ns : List Int} {xs : List V}, Dats H (ns.map D.int) xs → xs = ns.map V.int
  | [], xs, h => by simpa [Dats] using h
  | n :: ns, xs, h => by
    simp only [List.map_cons, Dats, Dat] at h
    obtain ⟨x, r, rfl, rfl, h2⟩ := h
    rw [wd_ints h2]; rfl
theorem TWv.of {H : Hp} : ∀ {W : List (List Int)} {xs : List V}, Dats H (W.map wdD) xs → TWv H xs W
  | [], xs, h => by
    have : xs = [] := by simpa [Dats] using h
    subst this
    exact trivial
  | x :: W, xs, h => by
    simp only [List.map_cons, Dats] at h
    obtain ⟨v, r, rfl, hv, h2⟩ := h
    simp only [wdD, Dat] at hv
    obtain ⟨a, ys, rfl, ha, hy⟩ := hv
    rw [wd_ints hy] at ha
    exact ⟨⟨a, rfl, ha⟩, TWv.of h2⟩
section
variable {X : Cx}
end
end L2
set_option Elab.async false
set_option linter.all false
set_option autoImplicit false
set_option maxRecDepth 100000
set_option maxHeartbeats 1000000
namespace L2
open PySem PySem.Spec PySem.Calls PyProof.Rows
structure Less (c : Nat → Nat → Bool) : Prop where
  as : ∀ i j, c i j = true → c j i = false
  tr : ∀ i j k, c j i = false → c k j = false → c k i = false
section
variable {c : Nat → Nat → Bool} (L : Less c)
def Dn (c : Nat → Nat → Bool) (p : Array Nat) (k : Nat) : Prop := ∀ i j, i ≤ j → j < k → c (p.getD i 0) (p.getD j 0) = false
include L
end
section
variable {c : Nat → Nat → Bool} (L : Less c)
include L
end
end L2
set_option Elab.async false
set_option linter.all false
set_option autoImplicit false
set_option maxRecDepth 100000
set_option maxHeartbeats 1000000
namespace L2
open PySem PySem.Spec PySem.Calls PyProof.Rows
end L2
set_option Elab.async false
set_option linter.all false
set_option autoImplicit false
set_option maxRecDepth 100000
set_option maxHeartbeats 1000000
namespace L2
open PySem PySem.Spec PyProof.Rows
inductive AV where
  | d (x : D)
  | r (v : V)
  | p (v : V) (P : Hp → Prop)
inductive OC where
  | own (xs : List AV)
  | frz (ds : List D)
  | dic (kvs : List (Str × AV))
abbrev Om := Addr → Option OC
abbrev SA := List (Option AV)
abbrev Fs := Addr → Bool
def Om.put (ω : Om) (l : Addr) (c : OC) : Om := fun b => if b = l then some c else ω b
theorem Om.put_same {ω : Om} {l : Addr} {c : OC} : ω.put l c l = some c := by unfold Om.put; rw [if_pos rfl]
theorem Om.put_ne {ω : Om} {l b : Addr} {c : OC} (h : b ≠ l) : ω.put l c b = ω b := by unfold Om.put; rw [if_neg h]
theorem Om.put_put {ω : Om} {l : Addr} {c e : OC} : (ω.put l c).put l e = ω.put l e := by funext b; unfold Om.put; split <;> rfl
theorem Om.put_comm {ω : Om} {l p : Addr} {c e : OC} (h : p ≠ l) : (ω.put l c).put p e = (ω.put p e).put l c := by
  funext b; unfold Om.put; split <;> split <;> simp_all
def ow : Option OC → Bool
  | some (.own _) => true
  | some (.dic _) => true
  | _ => false
def Fs.add (F : Fs) (l : Addr) : Fs := fun b => decide (b = l) || F b
def cut (F : Fs) (H : Hp) (ω : Om) : Hp := fun b => if (ow (ω b) || F b) = true then none else H b
def RV (G : Hp) : AV → V → Prop
  | .d x, v => Dat G x v
  | .r u, v => v = u
  | .p u P, v => v = u ∧ ∀ G', Same G G' → P G'
def RVs (G : Hp) : List AV → List V → Prop
  | [], vs => vs = []
  | a :: as, vs => ∃ v r, vs = v :: r ∧ RV G a v ∧ RVs G as r
def RS (G : Hp) (ρ : SA) (σ : St) : Prop := ρ.length = σ.length ∧ ∀ (i : Nat) (a : AV), ρ[i]? = some (some a) → ∃ v, σ[i]? = some (some v) ∧ RV G a v
def RKs (G : Hp) : List (Str × AV) → List (Key × V) → Prop
  | [], ks => ks = []
  | p :: r, ks => ∃ v r', ks = ((Sum.inr p.1 : Key), v) :: r' ∧ RV G p.2 v ∧ RKs G r r'
structure Rep (F : Fs) (H : Hp) (ω : Om) : Prop where
  own : ∀ l xs, ω l = some (.own xs) → ∃ vs, H l = some (.lst vs) ∧ RVs (cut F H ω) xs vs
  frz : ∀ l ds, ω l = some (.frz ds) → Dat (cut F H ω) (.lst ds) (.ref l)
  hid : ∀ b, F b = true → ω b = none ∧ ∃ vs, H b = some (.lst vs)
  dic : ∀ l kvs, ω l = some (.dic kvs) → ∃ ks, H l = some (.dK ks) ∧ RKs (cut F H ω) kvs ks
structure Fr (F : Fs) (H : Hp) (ω : Om) (H' : Hp) (ω' : Om) : Prop where
  st : ∀ b o, ow (ω b) = false → F b = false → H b = some o → H' b = some o ∧ ow (ω' b) = false
  hd : ∀ b, F b = true → H' b = H b
section
variable {F : Fs} {H H1 H2 H' : Hp} {ω ω1 ω2 ω' : Om} {G G' : Hp}
theorem Fr.refl : Fr F H ω H ω := ⟨fun _ _ h _ e => ⟨e, h⟩, fun _ _ => rfl⟩
theorem Fr.trans (a : Fr F H ω H1 ω1) (b : Fr F H1 ω1 H2 ω2) : Fr F H ω H2 ω2 :=
  ⟨fun c o h f e => let ⟨x, y⟩ := a.st c o h f e; b.st c o y f x, fun c h => (b.hd c h).trans (a.hd c h)⟩
theorem cut_some {b : Addr} {o : HO} : cut F H ω b = some o ↔ ow (ω b) = false ∧ F b = false ∧ H b = some o := by
  unfold cut
  cases ow (ω b) <;> cases F b <;> simp
theorem Fr.same (a : Fr F H ω H' ω') : Same (cut F H ω) (cut F H' ω') := fun b o e => by
  obtain ⟨h, f, e⟩ := cut_some.mp e
  obtain ⟨x, y⟩ := a.st b o h f e
  exact cut_some.mpr ⟨y, f, x⟩
theorem cut_same : Same (cut F H ω) H := fun b o e => (cut_some.mp e).2.2
theorem RV.same (e : Same G G') : ∀ {a : AV} {v : V}, RV G a v → RV G' a v
  | .d _, _, h => Dat.same e h
  | .r _, _, h => h
  | .p _ _, _, h => ⟨h.1, fun G2 s => h.2 G2 (e.trans s)⟩
theorem RVs.same (e : Same G G') : ∀ {as : List AV} {vs : List V}, RVs G as vs → RVs G' as vs
  | [], _, h => h
  | _ :: _, _, ⟨v, r, h1, h2, h3⟩ => ⟨v, r, h1, h2.same e, h3.same e⟩
theorem RKs.same (e : Same G G') : ∀ {as : List (Str × AV)} {vs : List (Key × V)}, RKs G as vs → RKs G' as vs
  | [], _, h => h
  | _ :: _, _, ⟨v, r, h1, h2, h3⟩ => ⟨v, r, h1, h2.same e, h3.same e⟩
theorem RS.same (e : Same G G') {ρ : SA} {σ : St} (h : RS G ρ σ) : RS G' ρ σ := ⟨h.1, fun i a q => let ⟨v, x, y⟩ := h.2 i a q; ⟨v, x, y.same e⟩⟩
theorem RVs.length : ∀ {as : List AV} {vs : List V}, RVs G as vs → vs.length = as.length
  | [], _, h => by cases h; rfl
  | _ :: _, _, ⟨v, r, h1, _, h3⟩ => by subst h1; simp [h3.length]
theorem RVs.get : ∀ {as : List AV} {vs : List V} {i : Nat} {a : AV}, RVs G as vs → as[i]? = some a → ∃ v, vs[i]? = some v ∧ RV G a v
  | [], _, _, _, _, e => by simp at e
  | _ :: _, _, 0, _, ⟨v, r, h1, h2, _⟩, e => by subst h1; simp at e; subst e; exact ⟨v, rfl, h2⟩
  | _ :: _, _, i + 1, _, ⟨v, r, h1, _, h3⟩, e => by subst h1; simp at e; obtain ⟨v', e1, e2⟩ := h3.get e; exact ⟨v', by simpa using e1, e2⟩
theorem RVs.append : ∀ {as bs : List AV} {vs us : List V}, RVs G as vs → RVs G bs us → RVs G (as ++ bs) (vs ++ us)
  | [], _, _, _, h, k => by cases h; exact k
  | _ :: _, _, _, _, ⟨v, r, h1, h2, h3⟩, k => by subst h1; exact ⟨v, _, rfl, h2, h3.append k⟩
theorem RVs.one {a : AV} {v : V} (h : RV G a v) : RVs G [a] [v] := ⟨v, [], rfl, h, rfl⟩
theorem RVs.dats : ∀ {ds : List D} {vs : List V}, RVs G (ds.map AV.d) vs ↔ Dats G ds vs
  | [], _ => by simp [RVs, Dats]
  | d :: ds, vs => by
    simp only [List.map_cons, RVs, Dats, RV]
    constructor
    · rintro ⟨v, r, h1, h2, h3⟩; exact ⟨v, r, h1, h2, RVs.dats.mp h3⟩
    · rintro ⟨v, r, h1, h2, h3⟩; exact ⟨v, r, h1, h2, RVs.dats.mpr h3⟩
theorem RVs.set {as : List AV} {vs : List V} (i : Nat) {a : AV} {v : V} (h : RVs G as vs) (k : RV G a v) : RVs G (as.set i a) (vs.set i v) := by
  induction as generalizing vs i with
  | nil => cases h; exact rfl
  | cons b as ih =>
    obtain ⟨u, r, rfl, h2, h3⟩ := h
    cases i with
    | zero => exact ⟨v, r, rfl, k, h3⟩
    | succ i => exact ⟨u, _, rfl, h2, ih i h3⟩
theorem RVs.dropLast : ∀ {as : List AV} {vs : List V}, RVs G as vs → RVs G as.dropLast vs.dropLast
  | [], _, h => by cases h; exact rfl
  | [a], _, ⟨v, r, h1, h2, h3⟩ => by cases h3; subst h1; exact rfl
  | a :: b :: as, _, ⟨v, r, h1, h2, h3⟩ => by
    obtain ⟨u, r', rfl, k2, k3⟩ := id h3
    subst h1
    exact ⟨v, _, rfl, h2, h3.dropLast⟩
theorem Rep.free (R : Rep F H ω) {p : Addr} (h : H p = none) : ω p = none ∧ F p = false := by
  constructor
  · cases e : ω p with
    | none => rfl
    | some c => cases c with
      | own xs => obtain ⟨vs, q, _⟩ := R.own p xs e; rw [h] at q; cases q
      | frz ds =>
        have q := R.frz p ds e
        simp only [Dat] at q
        obtain ⟨a, xs, e1, e2, _⟩ := q
        cases e1
        rw [cut_same _ _ e2] at h; cases h
      | dic kvs => obtain ⟨vs, q, _⟩ := R.dic p kvs e; rw [h] at q; cases q
  · cases e : F p with
    | false => rfl
    | true => obtain ⟨_, o, q⟩ := R.hid p e; rw [h] at q; cases q
theorem Rep.lay (R : Rep F H ω) {p : Addr} {o : HO} (h : H p = none) : Rep F (upd H p o) ω ∧ Fr F H ω (upd H p o) ω ∧ cut F (upd H p o) ω p = some o := by
  have hs := same_upd (o := o) h
  have fr : Fr F H ω (upd H p o) ω := ⟨fun b u x f e => ⟨hs _ _ e, x⟩, fun b f => by
    obtain ⟨_, u, q⟩ := R.hid b f
    rw [upd_ne (ne_of_none q h)]⟩
  obtain ⟨f1, f2⟩ := R.free h
  refine ⟨⟨fun l xs e => ?_, fun l ds e => (R.frz l ds e).same fr.same, fun b f => ?_, fun l ks e => (by obtain ⟨vs, e1, e2⟩ := R.dic l ks e; exact ⟨vs, hs _ _ e1, e2.same fr.same⟩)⟩, fr, cut_some.mpr ⟨by rw [f1]; rfl, f2, upd_same⟩⟩
  · obtain ⟨vs, e1, e2⟩ := R.own l xs e
    exact ⟨vs, hs _ _ e1, e2.same fr.same⟩
  · obtain ⟨x, u, q⟩ := R.hid b f
    exact ⟨x, u, hs _ _ q⟩
theorem cut_write {l : Addr} {xs ys : List AV} {o : HO} (h : ω l = some (.own xs)) : cut F (upd H l o) (ω.put l (.own ys)) = cut F H ω := by
  funext b
  unfold cut Om.put
  by_cases hb : b = l
  · subst hb; rw [if_pos rfl, h]; simp [ow]
  · rw [if_neg hb, upd_ne hb]
theorem Rep.write (R : Rep F H ω) {l : Addr} {xs ys : List AV} {vs : List V} (h : ω l = some (.own xs)) (hv : RVs (cut F H ω) ys vs) :
    Rep F (upd H l (.lst vs)) (ω.put l (.own ys)) ∧ Fr F H ω (upd H l (.lst vs)) (ω.put l (.own ys)) := by
  have c := cut_write (F := F) (H := H) (ys := ys) (o := .lst vs) h
  refine ⟨⟨fun k zs e => ?_, fun k ds e => ?_, fun b f => ?_, fun k ks e => (by
    have hk : k ≠ l := fun z => (by subst z; rw [Om.put_same] at e; cases e)
    rw [Om.put_ne hk] at e; rw [c, upd_ne hk]; exact R.dic k ks e)⟩, fun b o x f e => ?_, fun b f => ?_⟩
  · rw [c]
    by_cases hk : k = l
    · subst hk; rw [Om.put_same] at e; cases e; exact ⟨vs, upd_same, hv⟩
    · rw [Om.put_ne hk] at e; rw [upd_ne hk]; exact R.own k zs e
  · rw [c]
    by_cases hk : k = l
    · subst hk; rw [Om.put_same] at e; cases e
    · rw [Om.put_ne hk] at e; exact R.frz k ds e
  · obtain ⟨x, o, q⟩ := R.hid b f
    have hb : b ≠ l := fun z => by subst z; rw [h] at x; cases x
    exact ⟨by rw [Om.put_ne hb]; exact x, o, by rw [upd_ne hb]; exact q⟩
  · have hb : b ≠ l := fun z => by subst z; rw [h] at x; cases x
    rw [Om.put_ne hb, upd_ne hb]; exact ⟨e, x⟩
  · obtain ⟨x, o, q⟩ := R.hid b f
    have hb : b ≠ l := fun z => by subst z; rw [h] at x; cases x
    exact upd_ne hb
theorem Rep.mk' (R : Rep F H ω) {l : Addr} {xs : List AV} {vs : List V} (h : H l = none) (hv : RVs (cut F H ω) xs vs) :
    Rep F (upd H l (.lst vs)) (ω.put l (.own xs)) ∧ Fr F H ω (upd H l (.lst vs)) (ω.put l (.own xs)) := by
  obtain ⟨f1, f2⟩ := R.free h
  have c : cut F (upd H l (.lst vs)) (ω.put l (.own xs)) = cut F H ω := by
    funext b
    unfold cut Om.put
    by_cases hb : b = l
    · subst hb; rw [if_pos rfl, f1, f2, h]; simp [ow]
    · rw [if_neg hb, upd_ne hb]
  refine ⟨⟨fun k zs e => ?_, fun k ds e => ?_, fun b f => ?_, fun k ks e => (by
    have hk : k ≠ l := fun z => (by subst z; rw [Om.put_same] at e; cases e)
    rw [Om.put_ne hk] at e; rw [c, upd_ne hk]; exact R.dic k ks e)⟩, fun b o x f e => ?_, fun b f => ?_⟩
  · rw [c]
    by_cases hk : k = l
    · subst hk; rw [Om.put_same] at e; cases e; exact ⟨vs, upd_same, hv⟩
    · rw [Om.put_ne hk] at e; rw [upd_ne hk]; exact R.own k zs e
  · rw [c]
    by_cases hk : k = l
    · subst hk; rw [Om.put_same] at e; cases e
    · rw [Om.put_ne hk] at e; exact R.frz k ds e
  · obtain ⟨x, o, q⟩ := R.hid b f
    have hb : b ≠ l := ne_of_none q h
    exact ⟨by rw [Om.put_ne hb]; exact x, o, by rw [upd_ne hb]; exact q⟩
  · have hb : b ≠ l := ne_of_none e h
    rw [Om.put_ne hb, upd_ne hb]; exact ⟨e, x⟩
  · obtain ⟨x, o, q⟩ := R.hid b f
    exact upd_ne (ne_of_none q h)
theorem Rep.freeze (R : Rep F H ω) {l : Addr} {ds : List D} (h : ω l = some (.own (ds.map AV.d))) :
    Rep F H (ω.put l (.frz ds)) ∧ Fr F H ω H (ω.put l (.frz ds)) ∧ Dat (cut F H (ω.put l (.frz ds))) (.lst ds) (.ref l) := by
  have fr : Fr F H ω H (ω.put l (.frz ds)) := ⟨fun b o x f e => ⟨e, by
    by_cases hb : b = l
    · subst hb; rw [h] at x; cases x
    · rw [Om.put_ne hb]; exact x⟩, fun _ _ => rfl⟩
  obtain ⟨vs, e1, e2⟩ := R.own l _ h
  have hF : F l = false := by
    cases e : F l with
    | false => rfl
    | true => have := (R.hid l e).1; rw [h] at this; cases this
  have dl : Dat (cut F H (ω.put l (.frz ds))) (.lst ds) (.ref l) := by
    simp only [Dat]
    exact ⟨l, vs, rfl, cut_some.mpr ⟨by rw [Om.put_same]; rfl, hF, e1⟩, (RVs.dats.mp e2).same fr.same⟩
  refine ⟨⟨fun k zs e => ?_, fun k es e => ?_, fun b f => ?_, fun k ks e => (by
    have hk : k ≠ l := fun z => (by subst z; rw [Om.put_same] at e; cases e)
    rw [Om.put_ne hk] at e; obtain ⟨us, q1, q2⟩ := R.dic k ks e; exact ⟨us, q1, q2.same fr.same⟩)⟩, fr, dl⟩
  · by_cases hk : k = l
    · subst hk; rw [Om.put_same] at e; cases e
    · rw [Om.put_ne hk] at e
      obtain ⟨us, q1, q2⟩ := R.own k zs e
      exact ⟨us, q1, q2.same fr.same⟩
  · by_cases hk : k = l
    · subst hk; rw [Om.put_same] at e; cases e; exact dl
    · rw [Om.put_ne hk] at e; exact (R.frz k es e).same fr.same
  · obtain ⟨x, o, q⟩ := R.hid b f
    have hb : b ≠ l := fun z => by subst z; rw [h] at x; cases x
    exact ⟨by rw [Om.put_ne hb]; exact x, o, q⟩
theorem Rep.hide (R : Rep F H ω) {l : Addr} {vs : List V} (h : H l = none) : Rep (F.add l) (upd H l (.lst vs)) ω ∧ cut (F.add l) (upd H l (.lst vs)) ω = cut F H ω := by
  obtain ⟨f1, f2⟩ := R.free h
  have c : cut (F.add l) (upd H l (.lst vs)) ω = cut F H ω := by
    funext b
    unfold cut Fs.add
    by_cases hb : b = l
    · subst hb; simp [h]
    · rw [upd_ne hb]; simp [hb]
  refine ⟨⟨fun k zs e => ?_, fun k ds e => ?_, fun b f => ?_, fun k ks e => (by rw [c]; obtain ⟨us, q1, q2⟩ := R.dic k ks e; exact ⟨us, by rw [upd_ne (ne_of_none q1 h)]; exact q1, q2⟩)⟩, c⟩
  · rw [c]
    obtain ⟨us, q1, q2⟩ := R.own k zs e
    exact ⟨us, by rw [upd_ne (ne_of_none q1 h)]; exact q1, q2⟩
  · rw [c]; exact R.frz k ds e
  · by_cases hb : b = l
    · subst hb; exact ⟨f1, _, upd_same⟩
    · have f' : F b = true := by simpa [Fs.add, hb] using f
      obtain ⟨x, o, q⟩ := R.hid b f'
      exact ⟨x, o, by rw [upd_ne hb]; exact q⟩
theorem Rep.hwrite (R : Rep F H ω) {l : Addr} {vs : List V} (h : F l = true) : Rep F (upd H l (.lst vs)) ω ∧ cut F (upd H l (.lst vs)) ω = cut F H ω := by
  have c : cut F (upd H l (.lst vs)) ω = cut F H ω := by
    funext b
    unfold cut
    by_cases hb : b = l
    · subst hb; simp [h]
    · rw [upd_ne hb]
  refine ⟨⟨fun k zs e => ?_, fun k ds e => ?_, fun b f => ?_, fun k ks e => (by
    have hk : k ≠ l := fun z => (by subst z; rw [(R.hid _ h).1] at e; cases e)
    rw [c, upd_ne hk]; exact R.dic k ks e)⟩, c⟩
  · rw [c]
    obtain ⟨us, q1, q2⟩ := R.own k zs e
    have hk : k ≠ l := fun z => by subst z; rw [(R.hid _ h).1] at e; cases e
    exact ⟨us, by rw [upd_ne hk]; exact q1, q2⟩
  · rw [c]; exact R.frz k ds e
  · by_cases hb : b = l
    · subst hb; exact ⟨(R.hid _ h).1, _, upd_same⟩
    · obtain ⟨x, o, q⟩ := R.hid b f
      exact ⟨x, o, by rw [upd_ne hb]; exact q⟩
theorem Rep.unhide {l : Addr} {vs : List V} (R : Rep (F.add l) H ω) (hF : F l = false) (h : H l = some (.lst vs)) :
    Rep F H ω ∧ Same (cut (F.add l) H ω) (cut F H ω) ∧ cut F H ω l = some (.lst vs) := by
  have hl : ω l = none := (R.hid l (by simp [Fs.add])).1
  have sm : Same (cut (F.add l) H ω) (cut F H ω) := fun b o e => by
    obtain ⟨x, f, e⟩ := cut_some.mp e
    refine cut_some.mpr ⟨x, ?_, e⟩
    unfold Fs.add at f
    cases q : F b with
    | false => rfl
    | true => rw [q] at f; simp at f
  refine ⟨⟨fun k zs e => ?_, fun k ds e => (R.frz k ds e).same sm, fun b f => R.hid b (by simp [Fs.add, f]), fun k ks e => (by obtain ⟨us, q1, q2⟩ := R.dic k ks e; exact ⟨us, q1, q2.same sm⟩)⟩, sm, cut_some.mpr ⟨by rw [hl]; rfl, hF, h⟩⟩
  obtain ⟨us, q1, q2⟩ := R.own k zs e
  exact ⟨us, q1, q2.same sm⟩
end
end L2
set_option Elab.async false
set_option linter.all false
set_option autoImplicit false
set_option maxRecDepth 100000
set_option maxHeartbeats 1000000
namespace L2
open PySem PySem.Spec PyProof.Rows
def LP {α β : Type} (R : Hp → α → β → Prop) (F : Fs) (H : Hp) (ω : Om) (Q' : α → Om → Prop) (Q : β → Hp → Prop) : Prop :=
  ∀ a ω' v H', Rep F H' ω' → Fr F H ω H' ω' → R (cut F H' ω') a v → Q' a ω' → Q v H'
theorem LP.fr {α β : Type} {R : Hp → α → β → Prop} {F : Fs} {H H1 : Hp} {ω ω1 : Om} {Q' : α → Om → Prop} {Q : β → Hp → Prop} (k : LP R F H ω Q' Q) (f : Fr F H ω H1 ω1) : LP R F H1 ω1 Q' Q :=
  fun a ω' v H' rp fr rv q => k a ω' v H' rp (f.trans fr) rv q
structure Ref {α β : Type} (R : Hp → α → β → Prop) (t : St → Hp → (β → Hp → Prop) → Prop) (t' : SA → Om → (α → Om → Prop) → Prop) : Prop where
  run : ∀ (F : Fs) (H : Hp) (ω : Om) (σ : St) (ρ : SA) (Q : β → Hp → Prop) (Q' : α → Om → Prop), Rep F H ω → RS (cut F H ω) ρ σ → t' ρ ω Q' → LP R F H ω Q' Q → t σ H Q
theorem Ref.go {α β : Type} {R : Hp → α → β → Prop} {t : St → Hp → (β → Hp → Prop) → Prop} {t' : SA → Om → (α → Om → Prop) → Prop} (h : Ref R t t') {F : Fs} {H : Hp} {ω : Om} {σ : St} {ρ : SA} {Q : β → Hp → Prop} {Q' : α → Om → Prop}
    (rp : Rep F H ω) (rs : RS (cut F H ω) ρ σ) (w : t' ρ ω Q') (k : ∀ a ω1 v H1, Rep F H1 ω1 → Fr F H ω H1 ω1 → RS (cut F H1 ω1) ρ σ → R (cut F H1 ω1) a v → Q' a ω1 → Q v H1) : t σ H Q :=
  h.run F H ω σ ρ Q Q' rp rs w fun a ω1 v H1 rp1 fr1 rv q => k a ω1 v H1 rp1 fr1 (rs.same fr1.same) rv q
abbrev AE := SA → Om → (AV → Om → Prop) → Prop
abbrev AT := SA → Om → (Bool → Om → Prop) → Prop
abbrev AA := SA → Om → (List AV → Om → Prop) → Prop
def REq {α : Type} (_ : Hp) (a b : α) : Prop := a = b
abbrev RefE (t : TE) (t' : AE) : Prop := Ref RV t t'
abbrev RefT (t : TT) (t' : AT) : Prop := Ref REq t t'
abbrev RefA (t : TA) (t' : AA) : Prop := Ref RVs t t'
structure AEnds where
  nx : SA → Om → Prop
  rt : AV → Om → Prop
  bk : SA → Om → Prop := fun _ _ => False
  ct : SA → Om → Prop := fun _ _ => False
abbrev AS := AEnds → SA → Om → Prop
structure LE (F : Fs) (H : Hp) (ω : Om) (D' : AEnds) (D : Ends) : Prop where
  nx : LP RS F H ω D'.nx D.nx
  rt : LP RV F H ω D'.rt D.rt
  bk : LP RS F H ω D'.bk D.bk
  ct : LP RS F H ω D'.ct D.ct
theorem LE.fr {F : Fs} {H H1 : Hp} {ω ω1 : Om} {D' : AEnds} {D : Ends} (k : LE F H ω D' D) (f : Fr F H ω H1 ω1) : LE F H1 ω1 D' D := ⟨k.nx.fr f, k.rt.fr f, k.bk.fr f, k.ct.fr f⟩
structure RefS (t : TS) (t' : AS) : Prop where
  run : ∀ (F : Fs) (H : Hp) (ω : Om) (σ : St) (ρ : SA) (D : Ends) (D' : AEnds), Rep F H ω → RS (cut F H ω) ρ σ → t' D' ρ ω → LE F H ω D' D → t D σ H
abbrev AG := AV → SA → Om → (SA → Om → Prop) → Prop
abbrev AGs := List AV → SA → Om → (SA → Om → Prop) → Prop
structure RefG (g : TG) (g' : AG) : Prop where
  run : ∀ (F : Fs) (H : Hp) (ω : Om) (σ : St) (ρ : SA) (v : V) (a : AV) (Q : St → Hp → Prop) (Q' : SA → Om → Prop), Rep F H ω → RS (cut F H ω) ρ σ → RV (cut F H ω) a v → g' a ρ ω Q' → LP RS F H ω Q' Q → g v σ H Q
structure RefGs (g : TGs) (g' : AGs) : Prop where
  run : ∀ (F : Fs) (H : Hp) (ω : Om) (σ : St) (ρ : SA) (v : List V) (a : List AV) (Q : St → Hp → Prop) (Q' : SA → Om → Prop), Rep F H ω → RS (cut F H ω) ρ σ → RVs (cut F H ω) a v → g' a ρ ω Q' → LP RS F H ω Q' Q → g v σ H Q
abbrev ASp := List AV → Om → (AV → Om → Prop) → Prop
def lift (sp : ASp) : Sp := fun vs H Q _ => ∃ (F : Fs) (xs : List AV) (ω : Om) (Q' : AV → Om → Prop), Rep F H ω ∧ RVs (cut F H ω) xs vs ∧ sp xs ω Q' ∧ LP RV F H ω Q' Q
def aNext : AS := fun D ρ ω => D.nx ρ ω
def aSeq (t u : AS) : AS := fun D ρ ω => t { D with nx := u D } ρ ω
def aBreak : AS := fun D ρ ω => D.bk ρ ω
def aCont : AS := fun D ρ ω => D.ct ρ ω
def aDrop (te : AE) : AS := fun D ρ ω => te ρ ω fun _ ω1 => D.nx ρ ω1
def aRet (te : AE) : AS := fun D ρ ω => te ρ ω D.rt
def aRetN : AS := fun D _ ω => D.rt (.d .non) ω
def aIfS (c : AT) (t u : AS) : AS := fun D ρ ω => c ρ ω fun b ω1 => if b = true then t D ρ ω1 else u D ρ ω1
def aAsg (te : AE) (g : AG) : AS := fun D ρ ω => te ρ ω fun x ω1 => g x ρ ω1 D.nx
def agName (i : Nat) : AG := fun v ρ ω Q => Q (ρ.set i (some v)) ω
def agNil : AGs := fun vs ρ ω Q => vs = [] ∧ Q ρ ω
def agCons (t : AG) (u : AGs) : AGs := fun vs ρ ω Q => ∃ v r, vs = v :: r ∧ t v ρ ω fun ρ' ω' => u r ρ' ω' Q
section
variable {t u : TS} {t' u' : AS} {te : TE} {te' : AE} {tc : TT} {tc' : AT} {g : TG} {g' : AG} {gs : TGs} {gs' : AGs}
theorem RS.set {G : Hp} {ρ : SA} {σ : St} {i : Nat} {a : AV} {v : V} (h : RS G ρ σ) (r : RV G a v) : RS G (ρ.set i (some a)) (σ.set i (some v)) := by
  refine ⟨by simp [h.1], fun j b e => ?_⟩
  by_cases hj : j = i
  · subst hj
    rw [List.getElem?_set] at e
    rw [List.getElem?_set]
    simp only [if_true] at e ⊢
    split at e
    · rename_i hl
      cases e
      rw [if_pos (h.1 ▸ hl)]
      exact ⟨v, rfl, r⟩
    · cases e
  · rw [List.getElem?_set_ne (Ne.symm hj)] at e
    rw [List.getElem?_set_ne (Ne.symm hj)]
    exact h.2 j b e
theorem s_next : RefS tNext aNext := ⟨fun F H ω σ ρ D D' rp rs h k => k.nx ρ ω σ H rp .refl rs h⟩
theorem s_seq (h1 : RefS t t') (h2 : RefS u u') : RefS (tSeq t u) (aSeq t' u') := ⟨fun F H ω σ ρ D D' rp rs h k =>
  h1.run F H ω σ ρ _ _ rp rs h ⟨fun ρ1 ω1 σ1 H1 rp1 fr1 rs1 q => h2.run F H1 ω1 σ1 ρ1 D D' rp1 rs1 q (k.fr fr1), k.rt, k.bk, k.ct⟩⟩
theorem s_drop (h : RefE te te') : RefS (tDrop te) (aDrop te') := ⟨fun F H ω σ ρ D D' rp rs w k => h.go rp rs w fun a ω1 v H1 rp1 fr1 rs1 rv q => k.nx ρ ω1 σ H1 rp1 fr1 rs1 q⟩
theorem s_ret (h : RefE te te') : RefS (tRet te) (aRet te') := ⟨fun F H ω σ ρ D D' rp rs w k => h.run F H ω σ ρ _ _ rp rs w k.rt⟩
theorem s_if (hc : RefT tc tc') (h1 : RefS t t') (h2 : RefS u u') : RefS (tIfS tc t u) (aIfS tc' t' u') := ⟨fun F H ω σ ρ D D' rp rs w k =>
  hc.go rp rs w fun a ω1 v H1 rp1 fr1 rs1 rv q => by
    cases (show a = v from rv)
    cases a with
    | true => rw [if_pos rfl] at q ⊢; exact h1.run F H1 ω1 σ ρ D D' rp1 rs1 q (k.fr fr1)
    | false => rw [if_neg Bool.false_ne_true] at q ⊢; exact h2.run F H1 ω1 σ ρ D D' rp1 rs1 q (k.fr fr1)⟩
theorem s_asg (h : RefE te te') (hg : RefG g g') : RefS (tAsg te g) (aAsg te' g') := ⟨fun F H ω σ ρ D D' rp rs w k => h.go rp rs w fun a ω1 v H1 rp1 fr1 rs1 rv q =>
  hg.run F H1 ω1 σ ρ v a _ _ rp1 rs1 rv q (k.nx.fr fr1)⟩
theorem g_name {i : Nat} : RefG (gName i) (agName i) := ⟨fun F H ω σ ρ v a Q Q' rp rs rv w k => k _ ω _ H rp .refl (rs.set rv) w⟩
end
def ItOk (G : Hp) (as : List AV) (J : It) : Prop := ∀ (F : Fs) (H : Hp) (ω : Om), Rep F H ω → Same G (cut F H ω) → J.stop as.length H ∧
  ∀ (i : Nat) (a : AV), as[i]? = some a → J.go i H ∧ ∀ x H', J.yld i H x H' → Rep F H' ω ∧ Fr F H ω H' ω ∧ RV (cut F H' ω) a x
abbrev AI := SA → Om → (List AV → Om → Prop) → Prop
abbrev RefI (t : TI) (t' : AI) : Prop := Ref ItOk t t'
def aForL (g : AG) (tb : AS) (D : AEnds) : List AV → SA → Om → Prop
  | [], ρ, ω => D.nx ρ ω
  | a :: as, ρ, ω => g a ρ ω fun ρ1 ω1 => tb { nx := aForL g tb D as, ct := aForL g tb D as, bk := D.nx, rt := D.rt } ρ1 ω1
def aFor (wi : AI) (g : AG) (tb : AS) : AS := fun D ρ ω => wi ρ ω fun as ω1 => aForL g tb D as ρ ω1
theorem drop_cons {α : Type} {as : List α} {i : Nat} (h : i < as.length) : ∃ a, as[i]? = some a ∧ as.drop i = a :: as.drop (i + 1) :=
  ⟨as[i], List.getElem?_eq_getElem h, List.drop_eq_getElem_cons h⟩
theorem s_for {wi : TI} {wi' : AI} {g : TG} {g' : AG} {t : TS} {t' : AS} (hi : RefI wi wi') (hg : RefG g g') (hb : RefS t t') : RefS (tFor wi g t) (aFor wi' g' t') := ⟨fun F H ω σ ρ D D' rp rs w k => by
  rw [tFor_eq]
  refine hi.go rp rs w fun as ω1 J H1 rp1 fr1 rs1 it q => ?_
  refine ⟨fun i m σ2 H2 => m + i = as.length ∧ ∃ ρ2 ω2, Rep F H2 ω2 ∧ RS (cut F H2 ω2) ρ2 σ2 ∧ Fr F H1 ω1 H2 ω2 ∧ aForL g' t' D' (as.drop i) ρ2 ω2, ⟨as.length, rfl, ρ, ω1, rp1, rs1, .refl, q⟩, ?_⟩
  rintro i m σ2 H2 ⟨hm, ρ2, ω2, rp2, rs2, fr2, q2⟩
  obtain ⟨stop, go⟩ := it F H2 ω2 rp2 fr2.same
  by_cases hl : i < as.length
  · obtain ⟨a, ha, hd⟩ := drop_cons hl
    rw [hd] at q2
    obtain ⟨g1, y1⟩ := go i a ha
    refine .inr ⟨g1, fun σ' H' => m - 1 + (i + 1) = as.length ∧ ∃ ρ' ω', Rep F H' ω' ∧ RS (cut F H' ω') ρ' σ' ∧ Fr F H1 ω1 H' ω' ∧ aForL g' t' D' (as.drop (i + 1)) ρ' ω', fun σ' H' z => ⟨m - 1, by omega, z⟩, fun x H' hy => ?_⟩
    obtain ⟨rp3, fr3, rv3⟩ := y1 x H' hy
    have fr13 := (fr2.trans fr3)
    refine hg.run F H' ω2 σ2 ρ2 x a _ _ rp3 (rs2.same fr3.same) rv3 q2 fun ρ4 ω4 σ4 H4 rp4 fr4 rs4 q4 => ?_
    have k4 := k.fr ((fr1.trans fr13).trans fr4)
    refine hb.run F H4 ω4 σ4 ρ4 _ _ rp4 rs4 q4 ⟨?_, k4.rt, k4.nx, ?_⟩
    · exact fun ρ' ω' σ' H'' e1 e2 e3 e4 => ⟨by omega, ρ', ω', e1, e3, (fr13.trans fr4).trans e2, e4⟩
    · exact fun ρ' ω' σ' H'' e1 e2 e3 e4 => ⟨by omega, ρ', ω', e1, e3, (fr13.trans fr4).trans e2, e4⟩
  · have hi : i = as.length := by omega
    subst hi
    rw [List.drop_length] at q2
    exact .inl ⟨stop, k.nx ρ2 ω2 σ2 H2 rp2 (fr1.trans fr2) rs2 q2⟩⟩
abbrev AL := List AV → SA → Om → (List AV → SA → Om → Prop) → Prop
structure Fa (l : Addr) (F : Fs) (H : Hp) (ω : Om) (H' : Hp) (ω' : Om) : Prop where
  st : ∀ b o, ow (ω b) = false → F b = false → H b = some o → H' b = some o ∧ ow (ω' b) = false
  hd : ∀ b, F b = true → b ≠ l → H' b = H b
theorem Fr.fa {l : Addr} {F : Fs} {H H' : Hp} {ω ω' : Om} (h : Fr F H ω H' ω') : Fa l F H ω H' ω' := ⟨h.st, fun b f _ => h.hd b f⟩
theorem Fa.trans {l : Addr} {F : Fs} {H H1 H2 : Hp} {ω ω1 ω2 : Om} (a : Fa l F H ω H1 ω1) (b : Fa l F H1 ω1 H2 ω2) : Fa l F H ω H2 ω2 :=
  ⟨fun c o h f e => let ⟨x, y⟩ := a.st c o h f e; b.st c o y f x, fun c h n => (b.hd c h n).trans (a.hd c h n)⟩
theorem Fa.same {l : Addr} {F : Fs} {H H' : Hp} {ω ω' : Om} (a : Fa l F H ω H' ω') : Same (cut F H ω) (cut F H' ω') := fun b o e => by
  obtain ⟨h, f, e⟩ := cut_some.mp e
  obtain ⟨x, y⟩ := a.st b o h f e
  exact cut_some.mpr ⟨y, f, x⟩
def LL (l : Addr) (F : Fs) (H : Hp) (ω : Om) (K' : List AV → SA → Om → Prop) (K : St → Hp → Prop) : Prop :=
  ∀ xs vs ρ ω' σ H', Rep F H' ω' → Fa l F H ω H' ω' → RS (cut F H' ω') ρ σ → H' l = some (.lst vs) → RVs (cut F H' ω') xs vs → K' xs ρ ω' → K σ H'
theorem LL.fa {l : Addr} {F : Fs} {H H1 : Hp} {ω ω1 : Om} {K' : List AV → SA → Om → Prop} {K : St → Hp → Prop} (k : LL l F H ω K' K) (f : Fa l F H ω H1 ω1) : LL l F H1 ω1 K' K :=
  fun xs vs ρ ω' σ H' e1 e2 e3 e4 e5 e6 => k xs vs ρ ω' σ H' e1 (f.trans e2) e3 e4 e5 e6
structure RefL (l : TL) (l' : AL) : Prop where
  run : ∀ (F : Fs) (H : Hp) (ω : Om) (σ : St) (ρ : SA) (acc : Addr) (vs : List V) (xs : List AV) (K : St → Hp → Prop) (K' : List AV → SA → Om → Prop), Rep F H ω → RS (cut F H ω) ρ σ → F acc = true → H acc = some (.lst vs) → RVs (cut F H ω) xs vs →
    l' xs ρ ω K' → LL acc F H ω K' K → l acc σ H K
def aNoTest : AT := fun _ ω Q => Q true ω
def aLast (te : AE) : AL := fun xs ρ ω K => te ρ ω fun y ω1 => xs.length < sizeLine ∧ K (xs ++ [y]) ρ ω1
def aLoop (g : AG) (tc : AT) (l : AL) : List AV → AL
  | [], xs, ρ, ω, K => K xs ρ ω
  | a :: as, xs, ρ, ω, K => g a ρ ω fun ρ1 ω1 => tc ρ1 ω1 fun b ω2 => if b = true then l xs ρ1 ω2 (fun xs' ρ' ω' => aLoop g tc l as xs' ρ' ω' K) else aLoop g tc l as xs ρ1 ω2 K
def aLFor (wi : AI) (g : AG) (tc : AT) (l : AL) : AL := fun xs ρ ω K => wi ρ ω fun as ω1 => aLoop g tc l as xs ρ ω1 K
def blkA (src : List (Option Nat)) (ρ : SA) : SA := src.map fun o => match o with | none => none | some j => (ρ[j]?).join
def und : List AV → Option (List D)
  | [] => some []
  | .d x :: r => (und r).map (x :: ·)
  | _ => none
theorem und_map : ∀ ds : List D, und (ds.map AV.d) = some ds
  | [] => rfl
  | d :: ds => by simp [und, und_map ds]
theorem und_some : ∀ {xs : List AV} {ds : List D}, und xs = some ds → xs = ds.map AV.d
  | [], ds, h => by cases h; rfl
  | .d x :: r, ds, h => by
    simp only [und, Option.map_eq_some_iff] at h
    obtain ⟨es, e1, rfl⟩ := h
    rw [und_some e1]; rfl
  | .r _ :: _, _, h => by simp [und] at h
  | .p _ _ :: _, _, h => by simp [und] at h
def aComp (src : List (Option Nat)) (wi : AI) (g : AG) (tc : AT) (l : AL) : AE := fun ρ ω Q => wi ρ ω fun as ω1 => aLoop g tc l as [] (blkA src ρ) ω1 fun xs _ ω' => ∃ ds, und xs = some ds ∧ Q (.d (.lst ds)) ω'
def aCompO (src : List (Option Nat)) (wi : AI) (g : AG) (tc : AT) (l : AL) : AE := fun ρ ω Q => wi ρ ω fun as ω1 => aLoop g tc l as [] (blkA src ρ) ω1 fun xs _ ω' => ∀ p, ω' p = none → Q (.r (.ref p)) (ω'.put p (.own xs))
section
variable {te : TE} {te' : AE} {tc : TT} {tc' : AT} {g : TG} {g' : AG} {wi : TI} {wi' : AI} {l : TL} {l' : AL} {src : List (Option Nat)}
theorem t_no : RefT tNoTest aNoTest := ⟨fun F H ω σ ρ Q Q' rp rs w k => k true ω true H rp .refl rfl w⟩
theorem l_last (h : RefE te te') : RefL (lLast te) (aLast te') := ⟨fun F H ω σ ρ acc vs xs K K' rp rs fa ha rx w k => by
  refine h.go rp rs w fun y ω1 v H1 rp1 fr1 rs1 rv q => ?_
  obtain ⟨q1, q2⟩ := q
  have ha1 : H1 acc = some (.lst vs) := (fr1.hd acc fa).trans ha
  obtain ⟨rp2, c2⟩ := rp1.hwrite (vs := vs ++ [v]) fa
  refine ⟨vs, ha1, by rw [rx.length]; exact q1, k (xs ++ [y]) (vs ++ [v]) ρ ω1 σ _ rp2 ?_ ?_ upd_same ?_ q2⟩
  · refine fr1.fa.trans ⟨fun b o e1 e2 e3 => ⟨?_, e1⟩, fun b f n => upd_ne n⟩
    have hb : b ≠ acc := fun z => by subst z; rw [fa] at e2; cases e2
    rw [upd_ne hb]; exact e3
  · rw [c2]; exact rs1
  · rw [c2]; exact (rx.same fr1.same).append (.one rv)⟩
theorem l_loop (hg : RefG g g') (hc : RefT tc tc') (hl : RefL l l') {G : Hp} {as : List AV} {J : It} (it : ItOk G as J) {F : Fs} {H : Hp} {ω : Om} {σ : St} {ρ : SA} {acc : Addr} {vs : List V} {xs : List AV} {K : St → Hp → Prop} {K' : List AV → SA → Om → Prop}
    (rp : Rep F H ω) (rs : RS (cut F H ω) ρ σ) (fa : F acc = true) (ha : H acc = some (.lst vs)) (rx : RVs (cut F H ω) xs vs) (sG : Same G (cut F H ω)) (w : aLoop g' tc' l' as xs ρ ω K') (k : LL acc F H ω K' K) : lLoop J g tc l acc σ H K := by
  refine ⟨fun i m σ2 H2 => m + i = as.length ∧ ∃ ρ2 ω2 vs2 xs2, Rep F H2 ω2 ∧ RS (cut F H2 ω2) ρ2 σ2 ∧ Fa acc F H ω H2 ω2 ∧ H2 acc = some (.lst vs2) ∧ RVs (cut F H2 ω2) xs2 vs2 ∧ aLoop g' tc' l' (as.drop i) xs2 ρ2 ω2 K',
    ⟨as.length, rfl, ρ, ω, vs, xs, rp, rs, Fr.refl.fa, ha, rx, w⟩, ?_⟩
  rintro i m σ2 H2 ⟨hm, ρ2, ω2, vs2, xs2, rp2, rs2, fr2, ha2, rx2, q2⟩
  obtain ⟨stop, go⟩ := it F H2 ω2 rp2 (sG.trans fr2.same)
  by_cases hl' : i < as.length
  · obtain ⟨a, hai, hd⟩ := drop_cons hl'
    rw [hd] at q2
    obtain ⟨g1, y1⟩ := go i a hai
    refine .inr ⟨g1, fun x H' hy => ?_⟩
    obtain ⟨rp3, fr3, rv3⟩ := y1 x H' hy
    refine hg.run F H' ω2 σ2 ρ2 x a _ _ rp3 (rs2.same fr3.same) rv3 q2 fun ρ4 ω4 σ4 H4 rp4 fr4 rs4 q4 => ?_
    refine hc.go rp4 rs4 q4 fun b ω5 b' H5 rp5 fr5 rs5 rb q5 => ?_
    cases (show b = b' from rb)
    have fr25 : Fr F H2 ω2 H5 ω5 := (fr3.trans fr4).trans fr5
    have ha5 : H5 acc = some (.lst vs2) := (fr25.hd acc fa).trans ha2
    have rx5 := rx2.same fr25.same
    cases b with
    | true =>
      rw [if_pos rfl] at q5 ⊢
      refine hl.run F H5 ω5 σ4 ρ4 acc vs2 xs2 _ _ rp5 rs5 fa ha5 rx5 q5 fun xs6 vs6 ρ6 ω6 σ6 H6 e1 e2 e3 e4 e5 e6 => ?_
      exact ⟨m - 1, by omega, by omega, ρ6, ω6, vs6, xs6, e1, e3, (fr2.trans fr25.fa).trans e2, e4, e5, e6⟩
    | false =>
      rw [if_neg Bool.false_ne_true] at q5 ⊢
      exact ⟨m - 1, by omega, by omega, ρ4, ω5, vs2, xs2, rp5, rs5, fr2.trans fr25.fa, ha5, rx5, q5⟩
  · have hi : i = as.length := by omega
    subst hi
    rw [List.drop_length] at q2
    exact .inl ⟨stop, k xs2 vs2 ρ2 ω2 σ2 H2 rp2 fr2 rs2 ha2 rx2 q2⟩
theorem RS.blk {G : Hp} {ρ : SA} {σ : St} (h : RS G ρ σ) : RS G (blkA src ρ) (blkSt src σ) := by
  refine ⟨by simp [blkA, blkSt], fun i a e => ?_⟩
  unfold blkA at e
  unfold blkSt
  rw [List.getElem?_map] at e ⊢
  cases q : src[i]? with
  | none => rw [q] at e; simp at e
  | some o =>
    rw [q] at e
    cases o with
    | none => simp at e
    | some j =>
      simp only [Option.map_some, Option.some.injEq] at e ⊢
      have e' : ρ[j]? = some (some a) := by
        cases z : ρ[j]? with
        | none => rw [z] at e; simp at e
        | some y => rw [z] at e; simp at e; rw [e]
      obtain ⟨v, e1, e2⟩ := h.2 j a e'
      exact ⟨v, by rw [e1]; rfl, e2⟩
theorem comp_at (hi : RefI wi wi') (hg : RefG g g') (hc : RefT tc tc') (hl : RefL l l') {F : Fs} {H : Hp} {ω : Om} {σ : St} {ρ : SA} {Q : VK} {K' : List AV → SA → Om → Prop} (rp : Rep F H ω) (rs : RS (cut F H ω) ρ σ)
    (w : wi' ρ ω fun as ω1 => aLoop g' tc' l' as [] (blkA src ρ) ω1 K')
    (k : ∀ p xs vs ρ' ω' H', F p = false → (∀ b o, ow (ω b) = false → F b = false → H b = some o → b ≠ p) → Rep (F.add p) H' ω' → Fr F H ω H' ω' → H' p = some (.lst vs) → RVs (cut (F.add p) H' ω') xs vs → K' xs ρ' ω' → Q (.ref p) H') : tComp src wi g tc l σ H Q := by
  refine hi.go rp rs w fun as ω1 J H1 rp1 fr1 rs1 it q => fun acc hacc => ?_
  obtain ⟨rp2, c2⟩ := rp1.hide (vs := []) hacc
  obtain ⟨f1, f2⟩ := rp1.free hacc
  have hb1 : ∀ b, b ≠ acc → F b = false → (F.add acc) b = false := fun b h f => by simp [Fs.add, h, f]
  have hne : ∀ b o, ow (ω b) = false → F b = false → H b = some o → b ≠ acc := fun b o h f e => ne_of_none (fr1.st b o h f e).1 hacc
  refine l_loop (xs := []) hg hc hl it rp2 (by rw [c2]; exact rs1.blk) (by simp [Fs.add]) upd_same rfl (by rw [c2]; exact Same.refl _) q fun xs vs ρ' ω' σ' H' e1 e2 e3 e4 e5 e6 => ?_
  refine k acc xs vs ρ' ω' H' f2 hne e1 ⟨fun b o h f e => ?_, fun b f => ?_⟩ e4 e5 e6
  · obtain ⟨x, y⟩ := fr1.st b o h f e
    have hb := hne b o h f e
    exact e2.st b o y (hb1 b hb f) (by rw [upd_ne hb]; exact x)
  · have hb : b ≠ acc := fun z => by subst z; rw [f] at f2; cases f2
    rw [e2.hd b (by simp [Fs.add, f]) hb, upd_ne hb, fr1.hd b f]
theorem e_comp (hi : RefI wi wi') (hg : RefG g g') (hc : RefT tc tc') (hl : RefL l l') : RefE (tComp src wi g tc l) (aComp src wi' g' tc' l') := ⟨fun F H ω σ ρ Q Q' rp rs w k => by
  refine comp_at hi hg hc hl rp rs w fun p xs vs ρ' ω' H' f hne rp1 fr1 e1 e2 q => ?_
  obtain ⟨ds, hu, q⟩ := q
  cases und_some hu
  obtain ⟨rp2, sm, hp⟩ := rp1.unhide f e1
  refine k (.d (.lst ds)) ω' _ H' rp2 fr1 ?_ q
  simp only [RV, Dat]
  exact ⟨p, vs, rfl, hp, RVs.dats.mp (e2.same sm)⟩⟩
end
end L2
set_option Elab.async false
set_option linter.all false
set_option autoImplicit false
set_option maxRecDepth 100000
set_option maxHeartbeats 1000000
namespace L2
open PySem PySem.Spec PyProof.Rows
def datA (ω : Om) : AV → Option D
  | .d x => some x
  | .r (.ref l) => match ω l with
    | some (.own xs) => (und xs).map D.lst
    | some (.frz ds) => some (.lst ds)
    | _ => none
  | _ => none
def lstA (ω : Om) : AV → Option (List AV)
  | .d (.lst ds) => some (ds.map AV.d)
  | .r (.ref l) => match ω l with
    | some (.own xs) => some xs
    | some (.frz ds) => some (ds.map AV.d)
    | _ => none
  | _ => none
def tupA : AV → Option (List AV)
  | .d (.tup ds) => some (ds.map AV.d)
  | _ => none
def frzA (ω : Om) (x : AV) (K : D → Om → Prop) : Prop := match x with
  | .d x => K x ω
  | .r (.ref l) => match ω l with
    | some (.own xs) => ∃ ds, und xs = some ds ∧ K (.lst ds) (ω.put l (.frz ds))
    | some (.frz ds) => K (.lst ds) ω
    | _ => False
  | _ => False
section
variable {F : Fs} {H : Hp} {ω : Om} {x : AV} {v : V}
theorem lst_of (rp : Rep F H ω) (rv : RV (cut F H ω) x v) {xs : List AV} (h : lstA ω x = some xs) : ∃ a vs, v = .ref a ∧ H a = some (.lst vs) ∧ RVs (cut F H ω) xs vs := by
  cases x with
  | d x => cases x with
    | lst ds =>
      simp only [lstA, Option.some.injEq] at h
      subst h
      simp only [RV, Dat] at rv
      obtain ⟨a, vs, rfl, e1, e2⟩ := rv
      exact ⟨a, vs, rfl, cut_same _ _ e1, RVs.dats.mpr e2⟩
    | _ => simp [lstA] at h
  | p u P => simp [lstA] at h
  | r u =>
    cases (show v = u from rv)
    cases v with
    | ref l =>
      simp only [lstA] at h
      cases e : ω l with
      | none => rw [e] at h; simp at h
      | some c =>
        rw [e] at h
        cases c with
        | own ys =>
          simp only [Option.some.injEq] at h
          subst h
          obtain ⟨vs, e1, e2⟩ := rp.own l _ e
          exact ⟨l, vs, rfl, e1, e2⟩
        | frz ds =>
          simp only [Option.some.injEq] at h
          subst h
          have q := rp.frz l ds e
          simp only [Dat] at q
          obtain ⟨a, vs, e1, e2, e3⟩ := q
          cases e1
          exact ⟨l, vs, rfl, cut_same _ _ e2, RVs.dats.mpr e3⟩
        | dic ks => simp at h
    | _ => simp [lstA] at h
theorem tup_of (rv : RV (cut F H ω) x v) {xs : List AV} (h : tupA x = some xs) : ∃ a vs, v = .ref a ∧ cut F H ω a = some (.tup vs) ∧ RVs (cut F H ω) xs vs := by
  cases x with
  | d x => cases x with
    | tup ds =>
      simp only [tupA, Option.some.injEq] at h
      subst h
      simp only [RV, Dat] at rv
      obtain ⟨a, vs, rfl, e1, e2⟩ := rv
      exact ⟨a, vs, rfl, e1, RVs.dats.mpr e2⟩
    | _ => simp [tupA] at h
  | p u P => simp [tupA] at h
  | r u => simp [tupA] at h
theorem dat_of (rp : Rep F H ω) (rv : RV (cut F H ω) x v) {d : D} (h : datA ω x = some d) : Dat H d v := by
  cases x with
  | d x =>
    simp only [datA, Option.some.injEq] at h
    subst h
    exact Dat.same cut_same rv
  | p u P => simp [datA] at h
  | r u =>
    cases (show v = u from rv)
    cases v with
    | ref l =>
      simp only [datA] at h
      cases e : ω l with
      | none => rw [e] at h; simp at h
      | some c =>
        rw [e] at h
        cases c with
        | own ys =>
          simp only [Option.map_eq_some_iff] at h
          obtain ⟨ds, h1, rfl⟩ := h
          cases und_some h1
          obtain ⟨vs, e1, e2⟩ := rp.own l _ e
          simp only [Dat]
          exact ⟨l, vs, rfl, e1, (RVs.dats.mp e2).same cut_same⟩
        | frz ds =>
          simp only [Option.some.injEq] at h
          subst h
          exact (rp.frz l ds e).same cut_same
        | dic ks => simp at h
    | _ => simp [datA] at h
theorem dats_of (rp : Rep F H ω) (rv : RV (cut F H ω) x v) {ds : List D} (h : datA ω x = some (.lst ds)) : ∃ a vs, v = .ref a ∧ H a = some (.lst vs) ∧ Dats (cut F H ω) ds vs := by
  have : lstA ω x = some (ds.map AV.d) := by
    cases x with
    | d x => simp only [datA, Option.some.injEq] at h; subst h; rfl
    | p u P => simp [datA] at h
    | r u => cases u with
      | ref l =>
        simp only [datA] at h
        simp only [lstA]
        cases e : ω l with
        | none => rw [e] at h; simp at h
        | some c =>
          rw [e] at h
          cases c with
          | own ys =>
            simp only [Option.map_eq_some_iff] at h
            obtain ⟨es, h1, h2⟩ := h
            cases h2
            rw [und_some h1]
          | frz es => simp only [Option.some.injEq] at h; cases h; rfl
          | dic ks => simp at h
      | _ => simp [datA] at h
  obtain ⟨a, vs, e1, e2, e3⟩ := lst_of rp rv this
  exact ⟨a, vs, e1, e2, RVs.dats.mp e3⟩
theorem frz_of (rp : Rep F H ω) (rv : RV (cut F H ω) x v) {K : D → Om → Prop} (h : frzA ω x K) : ∃ d ω', Rep F H ω' ∧ Fr F H ω H ω' ∧ Dat (cut F H ω') d v ∧ K d ω' := by
  cases x with
  | d x => exact ⟨x, ω, rp, .refl, rv, h⟩
  | p u P => exact h.elim
  | r u =>
    cases (show v = u from rv)
    cases v with
    | ref l =>
      simp only [frzA] at h
      cases e : ω l with
      | none => rw [e] at h; exact h.elim
      | some c =>
        rw [e] at h
        cases c with
        | own ys =>
          obtain ⟨ds, h1, h2⟩ := h
          cases und_some h1
          obtain ⟨q1, q2, q3⟩ := rp.freeze e
          exact ⟨_, _, q1, q2, q3, h2⟩
        | frz ds => exact ⟨_, _, rp, .refl, rp.frz l ds e, h⟩
        | dic ks => exact h.elim
    | _ => exact h.elim
end
abbrev A2 := AV → AV → Om → (AV → Om → Prop) → Prop
structure Ref2 (r : R2) (r' : A2) : Prop where
  run : ∀ (F : Fs) (H : Hp) (ω : Om) (v u : V) (x y : AV) (Q : VK) (Q' : AV → Om → Prop), Rep F H ω → RV (cut F H ω) x v → RV (cut F H ω) y u → r' x y ω Q' → LP RV F H ω Q' Q → r v u H Q
structure Ref1 (r : V → Hp → VK → Prop) (r' : AV → Om → (AV → Om → Prop) → Prop) : Prop where
  run : ∀ (F : Fs) (H : Hp) (ω : Om) (v : V) (x : AV) (Q : VK) (Q' : AV → Om → Prop), Rep F H ω → RV (cut F H ω) x v → r' x ω Q' → LP RV F H ω Q' Q → r v H Q
structure RefC (r : List V → Hp → VK → Prop) (r' : List AV → Om → (AV → Om → Prop) → Prop) : Prop where
  run : ∀ (F : Fs) (H : Hp) (ω : Om) (vs : List V) (xs : List AV) (Q : VK) (Q' : AV → Om → Prop), Rep F H ω → RVs (cut F H ω) xs vs → r' xs ω Q' → LP RV F H ω Q' Q → r vs H Q
def aVar (i : Nat) : AE := fun ρ ω Q => ∃ a, ρ[i]? = some (some a) ∧ Q a ω
def aVarF (i : Nat) : AE := fun ρ ω Q => ∃ a, ρ[i]? = some (some a) ∧ frzA ω a fun d ω' => Q (.d d) ω'
def aC (d : D) : AE := fun _ ω Q => Q (.d d) ω
def aOp (r : A2) (ta tb : AE) : AE := fun ρ ω Q => ta ρ ω fun x ω1 => tb ρ ω1 fun y ω2 => r x y ω2 Q
def aUn (r : AV → Om → (AV → Om → Prop) → Prop) (ta : AE) : AE := fun ρ ω Q => ta ρ ω fun x ω1 => r x ω1 Q
def aNil : AA := fun _ ω Q => Q [] ω
def aCons (ta : AE) (tr : AA) : AA := fun ρ ω Q => ta ρ ω fun x ω1 => tr ρ ω1 fun xs ω2 => Q (x :: xs) ω2
def aTup (t : AA) : AE := fun ρ ω Q => t ρ ω fun xs ω1 => xs.length ≤ sizeLine ∧ ∃ ds, und xs = some ds ∧ Q (.d (.tup ds)) ω1
def aLst (t : AA) : AE := fun ρ ω Q => t ρ ω fun xs ω1 => xs.length ≤ sizeLine ∧ ∃ ds, und xs = some ds ∧ Q (.d (.lst ds)) ω1
def aLstO (t : AA) : AE := fun ρ ω Q => t ρ ω fun xs ω1 => xs.length ≤ sizeLine ∧ ∀ p, ω1 p = none → Q (.r (.ref p)) (ω1.put p (.own xs))
def aCall (sp : ASp) (t : AA) : AE := fun ρ ω Q => t ρ ω fun xs ω1 => sp xs ω1 Q
def aCB (r : List AV → Om → (AV → Om → Prop) → Prop) (t : AA) : AE := fun ρ ω Q => t ρ ω fun xs ω1 => r xs ω1 Q
def aTest (t : AE) : AT := fun ρ ω Q => t ρ ω fun x ω1 => ∃ k, x = .d (.bl k) ∧ Q k ω1
def aAnd (t u : AT) : AT := fun ρ ω Q => t ρ ω fun c ω1 => if c = true then u ρ ω1 Q else Q false ω1
def aOr (t u : AT) : AT := fun ρ ω Q => t ρ ω fun c ω1 => if c = true then Q true ω1 else u ρ ω1 Q
def aNot (t : AT) : AT := fun ρ ω Q => t ρ ω fun c ω1 => Q (!c) ω1
def aAndV (ta tb : AE) : AE := fun ρ ω Q => ta ρ ω fun x ω1 => ∃ c, x = .d (.bl c) ∧ if c = true then tb ρ ω1 Q else Q (.d (.bl false)) ω1
def aOrV (ta tb : AE) : AE := fun ρ ω Q => ta ρ ω fun x ω1 => ∃ c, x = .d (.bl c) ∧ if c = true then Q (.d (.bl true)) ω1 else tb ρ ω1 Q
def aNotV (ta : AE) : AE := fun ρ ω Q => ta ρ ω fun x ω1 => ∃ c, x = .d (.bl c) ∧ Q (.d (.bl (!c))) ω1
def aIf (t : AT) (ta tb : AE) : AE := fun ρ ω Q => t ρ ω fun c ω1 => if c = true then ta ρ ω1 Q else tb ρ ω1 Q
section
variable {ta tb tc : TE} {ta' tb' tc' : AE} {t u : TT} {t' u' : AT} {r r2 : R2} {r' r2' : A2} {s : TA} {s' : AA}
theorem e_var {i : Nat} : RefE (tVar i) (aVar i) := ⟨fun F H ω σ ρ Q Q' rp rs h k => by
  obtain ⟨a, e, q⟩ := h
  obtain ⟨v, e1, e2⟩ := rs.2 i a e
  exact ⟨v, e1, k a ω v H rp .refl e2 q⟩⟩
theorem e_int {i : Int} : RefE (tC (.int i)) (aC (.int i)) := ⟨fun F H ω σ ρ Q Q' rp rs h k => k _ ω _ H rp .refl (by simp [RV, Dat]) h⟩
theorem e_str {x : Str} : RefE (tC (.str x)) (aC (.str x)) := ⟨fun F H ω σ ρ Q Q' rp rs h k => k _ ω _ H rp .refl (by simp [RV, Dat]) h⟩
theorem e_bl {b : Bool} : RefE (tC (.bl b)) (aC (.bl b)) := ⟨fun F H ω σ ρ Q Q' rp rs h k => k _ ω _ H rp .refl (by simp [RV, Dat]) h⟩
theorem e_non : RefE (tC .non) (aC .non) := ⟨fun F H ω σ ρ Q Q' rp rs h k => k _ ω _ H rp .refl (by simp [RV, Dat]) h⟩
def aRaw (v : V) : AE := fun _ ω Q => Q (.r v) ω
theorem e_raw {v : V} : RefE (tC v) (aRaw v) := ⟨fun F H ω σ ρ Q Q' rp rs h k => k (.r v) ω _ H rp .refl rfl h⟩
theorem e_op (h2 : Ref2 r r') (ha : RefE ta ta') (hb : RefE tb tb') : RefE (tOp r ta tb) (aOp r' ta' tb') := ⟨fun F H ω σ ρ Q Q' rp rs h k =>
  ha.go rp rs h fun x ω1 v H1 rp1 fr1 rs1 rv1 q1 => hb.go rp1 rs1 q1 fun y ω2 u H2 rp2 fr2 rs2 rv2 q2 => h2.run F H2 ω2 v u x y Q Q' rp2 (rv1.same fr2.same) rv2 q2 (k.fr (fr1.trans fr2))⟩
theorem e_un {r : V → Hp → VK → Prop} {r' : AV → Om → (AV → Om → Prop) → Prop} (h2 : Ref1 r r') (ha : RefE ta ta') : RefE (tUn r ta) (aUn r' ta') := ⟨fun F H ω σ ρ Q Q' rp rs h k =>
  ha.go rp rs h fun x ω1 v H1 rp1 fr1 rs1 rv1 q1 => h2.run F H1 ω1 v x Q Q' rp1 rv1 q1 (k.fr fr1)⟩
theorem a_nil : RefA tNil aNil := ⟨fun F H ω σ ρ Q Q' rp rs h k => k [] ω _ H rp .refl rfl h⟩
theorem a_cons (ha : RefE ta ta') (hs : RefA s s') : RefA (tCons ta s) (aCons ta' s') := ⟨fun F H ω σ ρ Q Q' rp rs h k =>
  ha.go rp rs h fun x ω1 v H1 rp1 fr1 rs1 rv1 q1 => hs.go rp1 rs1 q1 fun y ω2 u H2 rp2 fr2 rs2 rv2 q2 => k (x :: y) ω2 (v :: u) H2 rp2 (fr1.trans fr2) ⟨v, u, rfl, rv1.same fr2.same, rv2⟩ q2⟩
theorem e_tup (hs : RefA s s') : RefE (tTup s) (aTup s') := ⟨fun F H ω σ ρ Q Q' rp rs h k =>
  hs.go rp rs h fun xs ω1 vs H1 rp1 fr1 rs1 rv1 ⟨z, ds, hu, q1⟩ => ⟨by rw [rv1.length]; exact z, fun p hp => by
    cases und_some hu
    obtain ⟨rp2, fr2, hc⟩ := rp1.lay (o := .tup vs) hp
    refine k _ ω1 _ _ rp2 (fr1.trans fr2) ?_ q1
    simp only [RV, Dat]
    exact ⟨p, vs, rfl, hc, (RVs.dats.mp rv1).same fr2.same⟩⟩⟩
theorem e_lst (hs : RefA s s') : RefE (tLst s) (aLst s') := ⟨fun F H ω σ ρ Q Q' rp rs h k =>
  hs.go rp rs h fun xs ω1 vs H1 rp1 fr1 rs1 rv1 ⟨z, ds, hu, q1⟩ => ⟨by rw [rv1.length]; exact z, fun p hp => by
    cases und_some hu
    obtain ⟨rp2, fr2, hc⟩ := rp1.lay (o := .lst vs) hp
    refine k _ ω1 _ _ rp2 (fr1.trans fr2) ?_ q1
    simp only [RV, Dat]
    exact ⟨p, vs, rfl, hc, (RVs.dats.mp rv1).same fr2.same⟩⟩⟩
theorem e_lstO (hs : RefA s s') : RefE (tLst s) (aLstO s') := ⟨fun F H ω σ ρ Q Q' rp rs h k =>
  hs.go rp rs h fun xs ω1 vs H1 rp1 fr1 rs1 rv1 ⟨z, q1⟩ => ⟨by rw [rv1.length]; exact z, fun p hp => by
    obtain ⟨rp2, fr2⟩ := rp1.mk' (vs := vs) hp rv1
    exact k (.r (.ref p)) _ _ _ rp2 (fr1.trans fr2) rfl (q1 p (rp1.free hp).1)⟩⟩
theorem e_call {sp : ASp} {E : XK} (hs : RefA s s') : RefE (tCall (lift sp) [] E s) (aCall sp s') := ⟨fun F H ω σ ρ Q Q' rp rs h k =>
  hs.go rp rs h fun xs ω1 vs H1 rp1 fr1 rs1 rv1 q => ⟨F, xs, ω1, Q', rp1, by rw [List.append_nil]; exact rv1, q, k.fr fr1⟩⟩
theorem e_cb {r : List V → Hp → VK → Prop} {r' : List AV → Om → (AV → Om → Prop) → Prop} (hr : RefC r r') (hs : RefA s s') : RefE (tCB r s) (aCB r' s') := ⟨fun F H ω σ ρ Q Q' rp rs h k =>
  hs.go rp rs h fun xs ω1 vs H1 rp1 fr1 rs1 rv1 q => hr.run F H1 ω1 vs xs Q Q' rp1 rv1 q (k.fr fr1)⟩
theorem t_test (ha : RefE ta ta') : RefT (tTest ta) (aTest ta') := ⟨fun F H ω σ ρ Q Q' rp rs h k =>
  ha.go rp rs h fun x ω1 v H1 rp1 fr1 rs1 rv1 ⟨c, e, q⟩ => by subst e; exact ⟨c, by simpa [RV, Dat] using rv1, k c ω1 c H1 rp1 fr1 rfl q⟩⟩
theorem t_or (h1 : RefT t t') (h2 : RefT u u') : RefT (tOr t u) (aOr t' u') := ⟨fun F H ω σ ρ Q Q' rp rs h k =>
  h1.go rp rs h fun c ω1 c' H1 rp1 fr1 rs1 rv1 q => by
    cases (show c = c' from rv1)
    cases c with
    | true => rw [if_pos rfl] at q ⊢; exact k true ω1 true H1 rp1 fr1 rfl q
    | false => rw [if_neg Bool.false_ne_true] at q ⊢; exact h2.run F H1 ω1 σ ρ Q Q' rp1 rs1 q (k.fr fr1)⟩
theorem t_not (h1 : RefT t t') : RefT (tNot t) (aNot t') := ⟨fun F H ω σ ρ Q Q' rp rs h k =>
  h1.go rp rs h fun c ω1 c' H1 rp1 fr1 rs1 rv1 q => by
    cases (show c = c' from rv1)
    exact k _ ω1 _ H1 rp1 fr1 rfl q⟩
theorem rv_bl {G : Hp} {c : Bool} {v : V} (h : RV G (.d (.bl c)) v) : v = .bl c := by simpa [RV, Dat] using h
def truA (ω : Om) (x : AV) : Option Bool := match x with
  | .d .non => some false
  | .d (.bl b) => some b
  | .d (.int i) => some (i != 0)
  | .d (.tup ds) => some (!ds.isEmpty)
  | x => (lstA ω x).map fun xs => !xs.isEmpty
def aTru (ta : AE) : AT := fun ρ ω Q => ta ρ ω fun x ω1 => ∃ k, truA ω1 x = some k ∧ Q k ω1
theorem isEmpty_len {α β : Type} {xs : List α} {ys : List β} (h : xs.length = ys.length) : xs.isEmpty = ys.isEmpty := by
  cases xs <;> cases ys <;> simp_all
theorem tru_of {K : PySem.W.Frag} {F : Fs} {H1 : Hp} {ω1 : Om} {x : AV} {v : V} {c : Bool} (rp1 : Rep F H1 ω1) (rv1 : RV (cut F H1 ω1) x v) (e : truA ω1 x = some c) : TruV K v H1 c := by
    have ls : ∀ {xs : List AV}, lstA ω1 x = some xs → c = (!xs.isEmpty) → TruV K v H1 c := fun {xs} e1 e2 => by
      obtain ⟨a, vs, rfl, e3, e4⟩ := lst_of rp1 rv1 e1
      exact .inl ⟨vs, .inl (.inl e3), by rw [e2, isEmpty_len e4.length.symm]⟩
    cases x with
    | d x => cases x with
      | non => simp only [truA, Option.some.injEq] at e; simp only [RV, Dat] at rv1; subst rv1; exact e.symm
      | bl b => simp only [truA, Option.some.injEq] at e; simp only [RV, Dat] at rv1; subst rv1; exact e.symm
      | int b => simp only [truA, Option.some.injEq] at e; simp only [RV, Dat] at rv1; subst rv1; exact e.symm
      | str b => simp [truA, lstA] at e
      | tup ds =>
        simp only [truA, Option.some.injEq] at e
        simp only [RV, Dat] at rv1
        obtain ⟨a, vs, rfl, e1, e2⟩ := rv1
        exact .inr (.inl ⟨vs, .inl (.inl (cut_same _ _ e1)), by rw [← e, isEmpty_len e2.length]⟩)
      | lst ds =>
        simp only [truA, Option.map_eq_some_iff] at e
        obtain ⟨xs, e1, e2⟩ := e
        exact ls e1 e2.symm
    | r u =>
      simp only [truA, Option.map_eq_some_iff] at e
      obtain ⟨xs, e1, e2⟩ := e
      exact ls e1 e2.symm
    | p u P => simp [truA, lstA] at e
theorem t_tru {K : PySem.W.Frag} (ha : RefE ta ta') : RefT (fun σ H Q => ta σ H fun x H' => ∃ k, TruV K x H' k ∧ Q k H') (aTru ta') := ⟨fun F H ω σ ρ Q Q' rp rs h k =>
  ha.go rp rs h fun x ω1 v H1 rp1 fr1 rs1 rv1 ⟨c, e, q⟩ => ⟨c, tru_of rp1 rv1 e, k c ω1 c H1 rp1 fr1 rfl q⟩⟩
end
end L2
set_option Elab.async false
set_option linter.all false
set_option autoImplicit false
set_option maxRecDepth 100000
set_option maxHeartbeats 1000000
namespace L2
open PySem PySem.Spec PyProof.Rows
def aI0 (f : Int → Int → D) : A2 := fun x y ω Q => ∃ i j, x = .d (.int i) ∧ y = .d (.int j) ∧ Q (.d (f i j)) ω
def aI (C : Int → Int → Prop) (f : Int → Int → D) : A2 := fun x y ω Q => ∃ i j, x = .d (.int i) ∧ y = .d (.int j) ∧ C i j ∧ Q (.d (f i j)) ω
def aU (f : Int → D) : AV → Om → (AV → Om → Prop) → Prop := fun x ω Q => ∃ i, x = .d (.int i) ∧ Q (.d (f i)) ω
section
variable {F : Fs} {H : Hp} {ω : Om} {Q : VK} {Q' : AV → Om → Prop}
theorem LP.int (k : LP RV F H ω Q' Q) (rp : Rep F H ω) {i : Int} (q : Q' (.d (.int i)) ω) : Q (.int i) H := k (.d (.int i)) ω _ H rp .refl (by simp [RV, Dat]) q
theorem LP.bl (k : LP RV F H ω Q' Q) (rp : Rep F H ω) {i : Bool} (q : Q' (.d (.bl i)) ω) : Q (.bl i) H := k (.d (.bl i)) ω _ H rp .refl (by simp [RV, Dat]) q
theorem LP.str (k : LP RV F H ω Q' Q) (rp : Rep F H ω) {i : Str} (q : Q' (.d (.str i)) ω) : Q (.str i) H := k (.d (.str i)) ω _ H rp .refl (by simp [RV, Dat]) q
theorem LP.non (k : LP RV F H ω Q' Q) (rp : Rep F H ω) (q : Q' (.d .non) ω) : Q .non H := k (.d .non) ω _ H rp .refl (by simp [RV, Dat]) q
theorem rv_int {G : Hp} {i : Int} {v : V} (h : RV G (.d (.int i)) v) : v = .int i := by simpa [RV, Dat] using h
theorem rv_str {G : Hp} {i : Str} {v : V} (h : RV G (.d (.str i)) v) : v = .str i := by simpa [RV, Dat] using h
theorem rv_non {G : Hp} {v : V} (h : RV G (.d .non) v) : v = .non := by simpa [RV, Dat] using h
theorem LP.tup (k : LP RV F H ω Q' Q) (rp : Rep F H ω) {ds : List D} {vs : List V} (hd : Dats (cut F H ω) ds vs) (q : Q' (.d (.tup ds)) ω) : ∀ p, H p = none → Q (.ref p) (upd H p (.tup vs)) := fun p hp => by
  obtain ⟨rp2, fr2, hc⟩ := rp.lay (o := .tup vs) hp
  refine k (.d (.tup ds)) ω _ _ rp2 fr2 ?_ q
  simp only [RV, Dat]
  exact ⟨p, vs, rfl, hc, hd.same fr2.same⟩
theorem LP.lst (k : LP RV F H ω Q' Q) (rp : Rep F H ω) {ds : List D} {vs : List V} (hd : Dats (cut F H ω) ds vs) (q : Q' (.d (.lst ds)) ω) : ∀ p, H p = none → Q (.ref p) (upd H p (.lst vs)) := fun p hp => by
  obtain ⟨rp2, fr2, hc⟩ := rp.lay (o := .lst vs) hp
  refine k (.d (.lst ds)) ω _ _ rp2 fr2 ?_ q
  simp only [RV, Dat]
  exact ⟨p, vs, rfl, hc, hd.same fr2.same⟩
theorem LP.own (k : LP RV F H ω Q' Q) (rp : Rep F H ω) {xs : List AV} {vs : List V} (hd : RVs (cut F H ω) xs vs) (q : ∀ p, ω p = none → Q' (.r (.ref p)) (ω.put p (.own xs))) : ∀ p, H p = none → Q (.ref p) (upd H p (.lst vs)) := fun p hp => by
  obtain ⟨rp2, fr2⟩ := rp.mk' (vs := vs) hp hd
  exact k (.r (.ref p)) _ _ _ rp2 fr2 rfl (q p (rp.free hp).1)
end
theorem o_I0b {f : Int → Int → Bool} : Ref2 (rI0 fun i j => .bl (f i j)) (aI0 fun i j => .bl (f i j)) := ⟨fun F H ω v u x y Q Q' rp h1 h2 ⟨i, j, e1, e2, q⟩ k => by
  subst e1 e2; exact ⟨i, j, rv_int h1, rv_int h2, k.bl rp q⟩⟩
theorem o_Ii {C : Int → Int → Prop} {f : Int → Int → Int} : Ref2 (rI C fun i j => .int (f i j)) (aI C fun i j => .int (f i j)) := ⟨fun F H ω v u x y Q Q' rp h1 h2 ⟨i, j, e1, e2, c, q⟩ k => by
  subst e1 e2; exact ⟨i, j, rv_int h1, rv_int h2, c, k.int rp q⟩⟩
theorem u_i {f : Int → Int} : Ref1 (rU fun i => .int (f i)) (aU fun i => .int (f i)) := ⟨fun F H ω v x Q Q' rp h1 ⟨i, e1, q⟩ k => by
  subst e1; exact ⟨i, rv_int h1, k.int rp q⟩⟩
def sclD : D → D → Bool
  | .non, .non => true | .non, .int _ => true | .int _, .non => true | .non, .bl _ => true | .bl _, .non => true | .non, .str _ => true | .str _, .non => true
  | .int _, .int _ => true | .bl _, .bl _ => true | .str _, .str _ => true
  | .int _, .str _ => true | .str _, .int _ => true | .bl _, .str _ => true | .str _, .bl _ => true
  | _, _ => false
def aEq : A2 := fun x y ω Q => ∃ a b, x = .d a ∧ y = .d b ∧ sclD a b = true ∧ Q (.d (.bl (eqD a b))) ω
def aNe : A2 := fun x y ω Q => ∃ a b, x = .d a ∧ y = .d b ∧ sclD a b = true ∧ Q (.d (.bl (!eqD a b))) ω
def aEqD (neg : Bool) : A2 := fun x y ω Q => ∃ a b, datA ω x = some a ∧ datA ω y = some b ∧ dep a ≤ 100 ∧ Q (.d (.bl (if neg then !eqD a b else eqD a b))) ω
theorem o_eqD {neg : Bool} : Ref2 (rEqD neg) (aEqD neg) := ⟨fun F H ω v u x y Q Q' rp h1 h2 ⟨a, b, e1, e2, s, q⟩ k => ⟨a, b, dat_of rp h1 e1, dat_of rp h2 e2, s, k.bl rp q⟩⟩
def aIn (neg : Bool) : A2 := fun x y ω Q => ∃ a b ds, datA ω x = some a ∧ datA ω y = some b ∧ (b = .lst ds ∨ b = .tup ds) ∧ deps ds ≤ 90 ∧ Q (.d (.bl (if neg then !inD a ds else inD a ds))) ω
def aCatT : A2 := fun x y ω Q => ∃ ds es, x = .d (.tup ds) ∧ y = .d (.tup es) ∧ ds.length + es.length ≤ sizeLine ∧ Q (.d (.tup (ds ++ es))) ω
def rCat3 : R2 := fun x y H Q => ∃ a b xs ys, x = .ref a ∧ y = .ref b ∧ H a = some (.tup xs) ∧ H b = some (.tup ys) ∧ xs.length + ys.length ≤ sizeLine ∧
  (xs = [] → Q (.ref b) H) ∧ (ys = [] → Q (.ref a) H) ∧ ∀ p, H p = none → Q (.ref p) (upd H p (.tup (xs ++ ys)))
theorem op_cat3 {X : Cx} : OpR X (binaryOp .Add) rCat3 := by
  intro pins s σ H x y v u Q I rx ry h
  obtain ⟨a, b, xs, ys, rfl, rfl, ha, hb, hz, g1, g2, g3⟩ := h
  by_cases hn : xs = []
  · subst hn
    cases rx
    cases ry
    obtain ⟨its, r1, ht⟩ := tup_at I ha
    obtain ⟨its2, r2, hb2⟩ := tup_at I hb
    cases r1
    obtain ⟨⟨cls, dd, data, sl⟩, ho, hc, n, hd⟩ := id ht
    obtain ⟨⟨cls2, dd2, data2, sl2⟩, ho2, hc2, n2, hd2⟩ := id hb2
    simp only at hc hd hc2 hd2
    subst hc hd hc2 hd2
    exact concat_meets ⟨_, ho, rfl⟩ ⟨_, ho2, rfl⟩ noFill_tuple_add seq_tuple_add PySem.F.slot_tuple_add PySem.F.entry_tuple_add (PySem.F.args_tuple_add_2 _ _)
      (tuple_addW0 a b _ _ n n2 dd dd2 sl sl2 (by simp)) ⟨ho, ho2, ⟨.ref b, H, I, rfl, g1 rfl⟩⟩
  · exact op_catT pins s σ H (.ref a) (.ref b) v u Q I rx ry ⟨a, b, xs, ys, rfl, rfl, SqT.of ha, SqT.of hb, hn, hz, g2, fun _ p hp => g3 p hp⟩
theorem o_cat3 : Ref2 rCat3 aCatT := ⟨fun F H ω v u x y Q Q' rp h1 h2 ⟨ds, es, e1, e2, z, q⟩ k => by
  subst e1 e2
  have h1' := h1
  have h2' := h2
  simp only [RV, Dat] at h1 h2
  obtain ⟨a, xs, rfl, ha, hxs⟩ := h1
  obtain ⟨b, ys, rfl, hb, hys⟩ := h2
  refine ⟨a, b, xs, ys, rfl, rfl, cut_same _ _ ha, cut_same _ _ hb, by rw [hxs.length, hys.length]; exact z, fun e => ?_, fun e => ?_, k.tup rp (hxs.append hys) q⟩
  · have : ds = [] := List.length_eq_zero_iff.mp (by rw [← hxs.length, e]; rfl)
    subst this
    exact k _ ω _ H rp .refl h2' q
  · have : es = [] := List.length_eq_zero_iff.mp (by rw [← hys.length, e]; rfl)
    subst this
    rw [List.append_nil] at q
    exact k _ ω _ H rp .refl h1' q⟩
theorem Rep.later {F : Fs} {H H' : Hp} {ω : Om} (rp : Rep F H ω) (s : Same H H') : Rep F H' ω ∧ Fr F H ω H' ω := by
  have fr : Fr F H ω H' ω := ⟨fun b o x f e => ⟨s _ _ e, x⟩, fun b f => by
    obtain ⟨_, o, q⟩ := rp.hid b f
    rw [q, s _ _ q]⟩
  refine ⟨⟨fun l xs e => ?_, fun l ds e => (rp.frz l ds e).same fr.same, fun b f => ?_, fun l ks e => (by obtain ⟨vs, e1, e2⟩ := rp.dic l ks e; exact ⟨vs, s _ _ e1, e2.same fr.same⟩)⟩, fr⟩
  · obtain ⟨vs, e1, e2⟩ := rp.own l xs e
    exact ⟨vs, s _ _ e1, e2.same fr.same⟩
  · obtain ⟨x, o, q⟩ := rp.hid b f
    exact ⟨x, o, s _ _ q⟩
theorem LP.pure {F : Fs} {H H' : Hp} {ω : Om} {Q : VK} {Q' : AV → Om → Prop} (k : LP RV F H ω Q' Q) (rp : Rep F H ω) (s : Same H H') {d : D} {v : V} (hn : noL d = true) (hd : Dat H' d v) (q : Q' (.d d) ω) : Q v H' := by
  obtain ⟨rp2, fr⟩ := rp.later s
  refine k (.d d) ω v H' rp2 fr (Dat.t (fun b xs e => ?_) hn hd) q
  refine cut_some.mpr ⟨?_, ?_, e⟩
  · cases z : ow (ω b) with
    | false => rfl
    | true =>
      cases y : ω b with
      | none => rw [y] at z; cases z
      | some c => cases c with
        | frz ds => rw [y] at z; cases z
        | own ys =>
          obtain ⟨vs, e1, _⟩ := rp2.own b ys y
          rw [e] at e1; cases e1
        | dic ys =>
          obtain ⟨vs, e1, _⟩ := rp2.dic b ys y
          rw [e] at e1; cases e1
  · cases z : F b with
    | false => rfl
    | true =>
      obtain ⟨_, o, q⟩ := rp.hid b z
      have := s _ _ q
      rw [e] at this
      cases this
def aIxL : A2 := fun x y ω Q => ∃ xs i a, lstA ω x = some xs ∧ y = .d (.int i) ∧ atI xs i = some a ∧ Q a ω
def aIxT : A2 := fun x y ω Q => ∃ xs i a, tupA x = some xs ∧ y = .d (.int i) ∧ atI xs i = some a ∧ Q a ω
theorem RVs.atI {G : Hp} {xs : List AV} {vs : List V} {i : Int} {a : AV} (h : RVs G xs vs) (e : atI xs i = some a) : ∃ v, L2.atI vs i = some v ∧ RV G a v := by
  unfold L2.atI at e ⊢
  rw [h.length]
  cases z : ixN xs.length i with
  | none => rw [z] at e; cases e
  | some j =>
    rw [z] at e
    exact h.get e
theorem o_ixL {K : PySem.W.Frag} : Ref2 (rIxL K) aIxL := ⟨fun F H ω v u x y Q Q' rp h1 h2 ⟨xs, i, a, e1, e2, e3, q⟩ k => by
  subst e2
  obtain ⟨l, vs, rfl, q1, q2⟩ := lst_of rp h1 e1
  obtain ⟨w, z1, z2⟩ := q2.atI e3
  exact ⟨l, vs, i, w, rfl, rv_int h2, .inl (.inl q1), z1, k a ω w H rp .refl z2 q⟩⟩
theorem o_ixT {K : PySem.W.Frag} : Ref2 (rIxT K) aIxT := ⟨fun F H ω v u x y Q Q' rp h1 h2 ⟨xs, i, a, e1, e2, e3, q⟩ k => by
  subst e2
  obtain ⟨l, vs, rfl, q1, q2⟩ := tup_of h1 e1
  obtain ⟨w, z1, z2⟩ := q2.atI e3
  exact ⟨l, vs, i, w, rfl, rv_int h2, .inl (.inl (cut_same _ _ q1)), z1, k a ω w H rp .refl z2 q⟩⟩
def aIx : A2 := fun x y ω Q => ∃ xs i a, (lstA ω x = some xs ∨ tupA x = some xs) ∧ y = .d (.int i) ∧ atI xs i = some a ∧ Q a ω
theorem o_ix {K : PySem.W.Frag} : Ref2 (rIx K) aIx := ⟨fun F H ω v u x y Q Q' rp h1 h2 ⟨xs, i, a, e1, e2, e3, q⟩ k => by
  rcases e1 with e1 | e1
  · exact .inl (o_ixL.run F H ω v u x y Q Q' rp h1 h2 ⟨xs, i, a, e1, e2, e3, q⟩ k)
  · exact .inr (.inl (o_ixT.run F H ω v u x y Q Q' rp h1 h2 ⟨xs, i, a, e1, e2, e3, q⟩ k))⟩
def aIsN (neg : Bool) : A2 := fun x y ω Q => ∃ a, x = .d a ∧ y = .d .non ∧ Q (.d (.bl (if neg then !eqD a .non else eqD a .non))) ω
def aIsB (f : Bool → Bool → Bool) : A2 := fun x y ω Q => ∃ a b, x = .d (.bl a) ∧ y = .d (.bl b) ∧ Q (.d (.bl (f a b))) ω
abbrev AC := List AV → Om → (AV → Om → Prop) → Prop
theorem rvs1 {G : Hp} {a : AV} {vs : List V} (h : RVs G [a] vs) : ∃ v, vs = [v] ∧ RV G a v := by
  obtain ⟨v, r, rfl, h1, h2⟩ := h
  cases h2
  exact ⟨v, rfl, h1⟩
theorem rvs2 {G : Hp} {a b : AV} {vs : List V} (h : RVs G [a, b] vs) : ∃ v u, vs = [v, u] ∧ RV G a v ∧ RV G b u := by
  obtain ⟨v, r, rfl, h1, h2⟩ := h
  obtain ⟨u, rfl, h3⟩ := rvs1 h2
  exact ⟨v, u, rfl, h1, h3⟩
def lenA (ω : Om) (x : AV) : Option Nat := match tupA x with
  | some xs => some xs.length
  | none => (lstA ω x).map List.length
def aLen : AC := fun xs ω Q => ∃ x n, xs = [x] ∧ lenA ω x = some n ∧ Q (.d (.int n)) ω
theorem c_len {K : PySem.W.Frag} : RefC (fun xs H Q => ∃ x n, xs = [x] ∧ LenV K x H n ∧ Q (.int n) H) aLen := ⟨fun F H ω vs xs Q Q' rp rv ⟨x, n, e1, e2, q⟩ k => by
  subst e1
  obtain ⟨v, rfl, r⟩ := rvs1 rv
  refine ⟨v, n, rfl, ?_, k.int rp q⟩
  unfold lenA at e2
  cases z : tupA x with
  | some xs =>
    rw [z] at e2; cases e2
    obtain ⟨a, us, rfl, q1, q2⟩ := tup_of r z
    exact .inr ⟨us, .inl (.inl (cut_same _ _ q1)), q2.length.symm⟩
  | none =>
    rw [z] at e2
    simp only [Option.map_eq_some_iff] at e2
    obtain ⟨ys, e3, rfl⟩ := e2
    obtain ⟨a, us, rfl, q1, q2⟩ := lst_of rp r e3
    exact .inl ⟨us, .inl (.inl q1), q2.length.symm⟩⟩
theorem dats_bl {G : Hp} : ∀ {bs : List Bool} {vs : List V}, Dats G (bs.map D.bl) vs → vs = bs.map V.bl
  | [], _, h => by simpa [Dats] using h
  | b :: bs, vs, h => by
    simp only [List.map_cons, Dats, Dat] at h
    obtain ⟨x, r, rfl, rfl, h⟩ := h
    rw [dats_bl h]; rfl
def aAll (f : List Bool → Bool) : AC := fun xs ω Q => ∃ x bs, xs = [x] ∧ datA ω x = some (.lst (bs.map D.bl)) ∧ Q (.d (.bl (f bs))) ω
theorem c_all {K : PySem.W.Frag} {f : List Bool → Bool} : RefC (fun xs H Q => ∃ (a : Addr) (bs : List Bool), xs = [.ref a] ∧ SqL K H a (bs.map V.bl) ∧ Q (.bl (f bs)) H) (aAll f) := ⟨fun F H ω vs xs Q Q' rp rv ⟨x, bs, e1, e2, q⟩ k => by
  subst e1
  obtain ⟨v, rfl, r⟩ := rvs1 rv
  obtain ⟨a, us, rfl, q1, q2⟩ := dats_of rp r e2
  cases dats_bl q2
  exact ⟨a, bs, rfl, .inl (.inl q1), k.bl rp q⟩⟩
def aSum : AC := fun xs ω Q => ∃ (x : AV) (ns : List Int), xs = [x] ∧ datA ω x = some (.lst (ns.map D.int)) ∧ Q (.d (.int ns.sum)) ω
def aSumT : AC := fun xs ω Q => ∃ ns : List Int, xs = [.d (.tup (ns.map D.int))] ∧ Q (.d (.int ns.sum)) ω
def aF2 (f : Int → Int → Int) : AC := fun xs ω Q => ∃ i j, xs = [.d (.int i), .d (.int j)] ∧ Q (.d (.int (f i j))) ω
theorem c_F2 {f : Int → Int → Int} : RefC (fun xs H Q => ∃ i j, xs = [.int i, .int j] ∧ Q (.int (f i j)) H) (aF2 f) := ⟨fun F H ω vs xs Q Q' rp rv ⟨i, j, e1, q⟩ k => by
  subst e1
  obtain ⟨v, u, rfl, r1, r2⟩ := rvs2 rv
  exact ⟨i, j, by rw [rv_int r1, rv_int r2], k.int rp q⟩⟩
def aF1 (f : Int → Int) : AC := fun xs ω Q => ∃ i, xs = [.d (.int i)] ∧ Q (.d (.int (f i))) ω
theorem c_F1 {f : Int → Int} : RefC (fun xs H Q => ∃ i, xs = [.int i] ∧ Q (.int (f i)) H) (aF1 f) := ⟨fun F H ω vs xs Q Q' rp rv ⟨i, e1, q⟩ k => by
  subst e1
  obtain ⟨v, rfl, r1⟩ := rvs1 rv
  exact ⟨i, by rw [rv_int r1], k.int rp q⟩⟩
def intD : D → Option Int
  | .int i => some i
  | .bl k => some (if k then 1 else 0)
  | _ => none
def aInt : AC := fun xs ω Q => ∃ d i, xs = [.d d] ∧ intD d = some i ∧ Q (.d (.int i)) ω
def boolD : D → Option Bool
  | .int i => some (i != 0)
  | .bl k => some k
  | _ => none
def aBool : AC := fun xs ω Q => ∃ d i, xs = [.d d] ∧ boolD d = some i ∧ Q (.d (.bl i)) ω
def aTupOf : AC := fun xs ω Q => ∃ x ds, xs = [x] ∧ (datA ω x = some (.lst ds) ∨ x = .d (.tup ds)) ∧ Q (.d (.tup ds)) ω
theorem c_tuple {K : PySem.W.Frag} : RefC (fun xs H Q => ∃ p ys, xs = [.ref p] ∧ ((SqL K H p ys ∧ ∀ l, H l = none → Q (.ref l) (upd H l (.tup ys))) ∨ (SqT K H p ys ∧ Q (.ref p) H))) aTupOf := ⟨fun F H ω vs xs Q Q' rp rv ⟨x, ds, e1, e2, q⟩ k => by
  subst e1
  obtain ⟨v, rfl, r1⟩ := rvs1 rv
  rcases e2 with e2 | rfl
  · obtain ⟨a, us, rfl, q1, q2⟩ := dats_of rp r1 e2
    exact ⟨a, us, rfl, .inl ⟨.inl (.inl q1), k.tup rp q2 q⟩⟩
  · have r2 := r1
    simp only [RV, Dat] at r2
    obtain ⟨a, us, rfl, q1, q2⟩ := r2
    exact ⟨a, us, rfl, .inr ⟨.inl (.inl (cut_same _ _ q1)), k _ ω _ H rp .refl r1 q⟩⟩⟩
def aListOf : AC := fun xs ω Q => ∃ x ds, xs = [x] ∧ (datA ω x = some (.lst ds) ∨ x = .d (.tup ds)) ∧ Q (.d (.lst ds)) ω
def aListO : AC := fun xs ω Q => ∃ x ds, xs = [x] ∧ (datA ω x = some (.lst ds) ∨ x = .d (.tup ds)) ∧ ∀ p, ω p = none → Q (.r (.ref p)) (ω.put p (.own (ds.map AV.d)))
theorem c_list {K : PySem.W.Frag} : RefC (fun xs H Q => ∃ p ys, xs = [.ref p] ∧ (SqL K H p ys ∨ SqT K H p ys) ∧ ∀ l, H l = none → Q (.ref l) (upd H l (.lst ys))) aListOf := ⟨fun F H ω vs xs Q Q' rp rv ⟨x, ds, e1, e2, q⟩ k => by
  subst e1
  obtain ⟨v, rfl, r1⟩ := rvs1 rv
  rcases e2 with e2 | rfl
  · obtain ⟨a, us, rfl, q1, q2⟩ := dats_of rp r1 e2
    exact ⟨a, us, rfl, .inl (.inl (.inl q1)), k.lst rp q2 q⟩
  · have r2 := r1
    simp only [RV, Dat] at r2
    obtain ⟨a, us, rfl, q1, q2⟩ := r2
    exact ⟨a, us, rfl, .inr (.inl (.inl (cut_same _ _ q1))), k.lst rp q2 q⟩⟩
end L2
set_option Elab.async false
set_option linter.all false
set_option autoImplicit false
set_option maxRecDepth 100000
set_option maxHeartbeats 1000000
namespace L2
open PySem PySem.Spec PyProof.Rows
def aiList (te : AE) : AI := fun ρ ω R => te ρ ω fun x ω1 => frzA ω1 x fun d ω2 => ∃ ds, d = .lst ds ∧ R (ds.map AV.d) ω2
def aiTup (te : AE) : AI := fun ρ ω R => te ρ ω fun x ω1 => ∃ ds, x = .d (.tup ds) ∧ R (ds.map AV.d) ω1
def rngA (lo : Int) (n : Nat) : List AV := (List.range n).map fun i => AV.d (.int (lo + (i : Nat)))
def aiRng1 (ta : AA) : AI := fun ρ ω R => ta ρ ω fun xs ω1 => ∃ j : Int, xs = [.d (.int j)] ∧ -(2 ^ 62) ≤ j ∧ j < 2 ^ 62 ∧ R (rngA 0 j.toNat) ω1
def aiRng2 (ta : AA) : AI := fun ρ ω R => ta ρ ω fun xs ω1 => ∃ i j : Int, xs = [.d (.int i), .d (.int j)] ∧ (-(2 ^ 62) ≤ i ∧ i < 2 ^ 62 ∧ -(2 ^ 62) ≤ j ∧ j < 2 ^ 62) ∧ R (rngA i (j - i).toNat) ω1
def enumA (ds : List D) : List AV := ds.zipIdx.map fun p => AV.d (.tup [.int (p.2 : Nat), p.1])
def zipA (ds es : List D) : List AV := (ds.zip es).map fun p => AV.d (.tup [p.1, p.2])
section
variable {te : TE} {te' : AE} {ta : TA} {ta' : AA} {K : PySem.W.Frag}
theorem it_list {G : Hp} {ds : List D} {a : Addr} (h : Dat G (.lst ds) (.ref a)) : ItOk G (ds.map AV.d) (Itl K a) := fun F H ω rp s => by
  have h2 := h.same s
  simp only [Dat] at h2
  obtain ⟨_, vs, e, ha, hd⟩ := h2
  cases e
  have hq : SqL K H a vs := .inl (.inl (cut_same _ _ ha))
  have hl := hd.length
  refine ⟨⟨vs, hq, by simp; omega⟩, fun i x hx => ?_⟩
  obtain ⟨v, e1, e2⟩ := (RVs.dats.mpr hd).get hx
  refine ⟨⟨vs, v, hq, e1⟩, fun y H' hy => ?_⟩
  obtain ⟨rfl, hy⟩ := hy
  have := hy vs hq
  rw [e1] at this
  cases this
  exact ⟨rp, .refl, e2⟩
theorem it_tup {G : Hp} {ds : List D} {a : Addr} (h : Dat G (.tup ds) (.ref a)) : ItOk G (ds.map AV.d) (Itt K a) := fun F H ω rp s => by
  have h2 := h.same s
  simp only [Dat] at h2
  obtain ⟨_, vs, e, ha, hd⟩ := h2
  cases e
  have hq : SqT K H a vs := .inl (.inl (cut_same _ _ ha))
  have hl := hd.length
  refine ⟨⟨vs, hq, by simp; omega⟩, fun i x hx => ?_⟩
  obtain ⟨v, e1, e2⟩ := (RVs.dats.mpr hd).get hx
  refine ⟨⟨vs, v, hq, e1⟩, fun y H' hy => ?_⟩
  obtain ⟨rfl, hy⟩ := hy
  have := hy vs hq
  rw [e1] at this
  cases this
  exact ⟨rp, .refl, e2⟩
theorem dat_ref_l {G : Hp} {ds : List D} {v : V} (h : Dat G (.lst ds) v) : ∃ a vs, v = .ref a ∧ G a = some (.lst vs) := by
  simp only [Dat] at h
  obtain ⟨a, vs, e, h, _⟩ := h
  exact ⟨a, vs, e, h⟩
theorem dat_ref_t {G : Hp} {ds : List D} {v : V} (h : Dat G (.tup ds) v) : ∃ a vs, v = .ref a ∧ G a = some (.tup vs) := by
  simp only [Dat] at h
  obtain ⟨a, vs, e, h, _⟩ := h
  exact ⟨a, vs, e, h⟩
theorem it_rng {G : Hp} {lo : Int} {n : Nat} : ItOk G (rngA lo n) (Itr lo n) := fun F H ω rp s => by
  refine ⟨by simp [rngA, Itr], fun i x hx => ?_⟩
  unfold rngA at hx
  rw [List.getElem?_map] at hx
  by_cases hi : i < n
  · rw [List.getElem?_range hi] at hx
    simp only [Option.map_some, Option.some.injEq] at hx
    subst hx
    refine ⟨hi, fun y H' hy => ?_⟩
    obtain ⟨rfl, rfl⟩ := hy
    exact ⟨rp, .refl, by simp [RV, Dat]⟩
  · rw [List.getElem?_eq_none (by simp; omega)] at hx
    cases hx
theorem i_rng1 (h : RefA ta ta') : RefI (iRng1 ta) (aiRng1 ta') := ⟨fun F H ω σ ρ R R' rp rs w k => h.go rp rs w fun xs ω1 vs H1 rp1 fr1 rs1 rv ⟨j, e, h1, h2, q⟩ => by
  subst e
  obtain ⟨v, rfl, r⟩ := rvs1 rv
  exact ⟨j, by rw [rv_int r], h1, h2, k _ ω1 _ H1 rp1 fr1 it_rng q⟩⟩
def aiEnumL (ta : AA) : AI := fun ρ ω R => ta ρ ω fun xs ω1 => ∃ x, xs = [x] ∧ frzA ω1 x fun d ω2 => ∃ ds, d = .lst ds ∧ R (enumA ds) ω2
def aiEnumT (ta : AA) : AI := fun ρ ω R => ta ρ ω fun xs ω1 => ∃ ds, xs = [.d (.tup ds)] ∧ R (enumA ds) ω1
def seqD : D → Option (List D)
  | .tup ds => some ds
  | .lst ds => some ds
  | _ => none
end
def agTup (n : Nat) (t : AGs) : AG := fun v ρ ω Q => ∃ ds, v = .d (.tup ds) ∧ ds.length = n ∧ t (ds.map AV.d) ρ ω Q
def agLst (n : Nat) (t : AGs) : AG := fun v ρ ω Q => ∃ xs, lstA ω v = some xs ∧ xs.length = n ∧ t xs ρ ω Q
def agSub (to ti : AE) : AG := fun v ρ ω Q => to ρ ω fun o ω1 => ti ρ ω1 fun i ω2 => ∃ l k xs j, o = .r (.ref l) ∧ i = .d (.int k) ∧ ω2 l = some (.own xs) ∧ ixN xs.length k = some j ∧ Q ρ (ω2.put l (.own (xs.set j v)))
section
variable {K : PySem.W.Frag} {n : Nat} {gs : TGs} {gs' : AGs} {to ti : TE} {to' ti' : AE}
theorem g_sub (ho : RefE to to') (hi : RefE ti ti') : RefG (gSub to ti rSetL) (agSub to' ti') := ⟨fun F H ω σ ρ v a Q Q' rp rs rv w k =>
  ho.go rp rs w fun x ω1 u H1 rp1 fr1 rs1 rv1 q1 => hi.go rp1 rs1 q1 fun y ω2 u2 H2 rp2 fr2 rs2 rv2 ⟨l, j, xs, i, e1, e2, e3, e4, q⟩ => by
    subst e1 e2
    have e5 : u = .ref l := rv1
    obtain ⟨vs, z1, z2⟩ := rp2.own l xs e3
    have rv' := rv.same (fr1.trans fr2).same
    obtain ⟨rp3, fr3⟩ := rp2.write e3 (z2.set i rv')
    have fr := (fr1.trans fr2).trans fr3
    exact ⟨l, vs, j, i, e5, rv_int rv2, z1, by rw [z2.length]; exact e4, k ρ _ σ _ rp3 fr (rs.same fr.same) q⟩⟩
end
def cutL {α : Type} (xs : List α) (lo hi : Option Int) : List α := (xs.drop (HT.sIx xs.length 0 lo)).take (HT.sIx xs.length xs.length hi - HT.sIx xs.length 0 lo)
abbrev AO := SA → Om → (Option Int → Om → Prop) → Prop
def aoNone : AO := fun _ ω Q => Q none ω
def aoSome (t : AE) : AO := fun ρ ω Q => t ρ ω fun x ω1 => ∃ i, x = .d (.int i) ∧ Q (some i) ω1
def aSlL (te : AE) (tl th : AO) : AE := fun ρ ω Q => te ρ ω fun x ω1 => tl ρ ω1 fun lo ω2 => th ρ ω2 fun hi ω3 => ∃ ds, datA ω3 x = some (.lst ds) ∧ Q (.d (.lst (cutL ds lo hi))) ω3
def aSlT (te : AE) (tl th : AO) : AE := fun ρ ω Q => te ρ ω fun x ω1 => tl ρ ω1 fun lo ω2 => th ρ ω2 fun hi ω3 => ∃ ds, x = .d (.tup ds) ∧ Q (.d (.tup (cutL ds lo hi))) ω3
theorem Dats.cut {G : Hp} {ds : List D} {vs : List V} {lo hi : Option Int} (h : Dats G ds vs) : Dats G (cutL ds lo hi) (cutV vs lo hi) := by
  unfold cutL cutV
  rw [h.length]
  exact (h.drop _).take _
section
variable {K : PySem.W.Frag} {te ts : TE} {te' ts' : AE} {tl th : TO} {tl' th' : AO}
theorem n_none : Ref REq tNoPart aoNone := ⟨fun F H ω σ ρ Q Q' rp rs w k => k none ω none H rp .refl rfl w⟩
theorem n_some (h : RefE te te') : Ref REq (tPart te) (aoSome te') := ⟨fun F H ω σ ρ Q Q' rp rs w k => h.go rp rs w fun x ω1 v H1 rp1 fr1 rs1 rv ⟨i, e, q⟩ => by
  subst e; exact ⟨i, rv_int rv, k _ ω1 _ H1 rp1 fr1 rfl q⟩⟩
def aRev (te : AE) : AE := fun ρ ω Q => te ρ ω fun x ω1 => ∃ ds, datA ω1 x = some (.lst ds) ∧ Q (.d (.lst ds.reverse)) ω1
end
def aAppend (to : AE) (t : AA) : AE := fun ρ ω Q => to ρ ω fun x ω1 => ∃ l, x = .r (.ref l) ∧ (∃ zs, ω1 l = some (.own zs)) ∧ t ρ ω1 fun ys ω2 => ∃ xs y, ys = [y] ∧ ω2 l = some (.own xs) ∧ xs.length < sizeLine ∧ Q (.d .non) (ω2.put l (.own (xs ++ [y])))
def aExtend (to : AE) (t : AA) : AE := fun ρ ω Q => to ρ ω fun x ω1 => ∃ l, x = .r (.ref l) ∧ (∃ zs, ω1 l = some (.own zs)) ∧ t ρ ω1 fun ys ω2 => ∃ xs y zs, ys = [y] ∧ ω2 l = some (.own xs) ∧ lstA ω2 y = some zs ∧ xs.length + zs.length ≤ sizeLine ∧ Q (.d .non) (ω2.put l (.own (xs ++ zs)))
def aPop (to : AE) : AE := fun ρ ω Q => to ρ ω fun x ω1 => ∃ l xs y, x = .r (.ref l) ∧ ω1 l = some (.own xs) ∧ xs[xs.length - 1]? = some y ∧ Q y (ω1.put l (.own xs.dropLast))
def aClear (to : AE) : AE := fun ρ ω Q => to ρ ω fun x ω1 => ∃ l xs, x = .r (.ref l) ∧ ω1 l = some (.own xs) ∧ Q (.d .non) (ω1.put l (.own []))
section
variable {K : PySem.W.Frag} {to : TE} {to' : AE} {t : TA} {t' : AA}
theorem e_append (ho : RefE to to') (ht : RefA t t') : RefE (tBM K "list" rAppend to t) (aAppend to' t') := ⟨fun F H ω σ ρ Q Q' rp rs w k =>
  ho.go rp rs w fun x ω1 v H1 rp1 fr1 rs1 rv1 ⟨l, e, ⟨zs, hz⟩, q1⟩ => by
    subst e
    cases (show v = .ref l from rv1)
    obtain ⟨us, z1, _⟩ := rp1.own l zs hz
    refine ⟨.inl ⟨rfl, us, .inl (.inl z1)⟩, ht.go rp1 rs1 q1 fun ys ω2 vs H2 rp2 fr2 rs2 rv2 ⟨xs, y, e1, e2, e3, q⟩ => ?_⟩
    subst e1
    obtain ⟨u, rfl, r⟩ := rvs1 rv2
    obtain ⟨ws, z3, z4⟩ := rp2.own l xs e2
    obtain ⟨rp3, fr3⟩ := rp2.write e2 (z4.append (.one r))
    exact ⟨l, ws, u, rfl, rfl, z3, by rw [z4.length]; exact e3, k _ _ _ _ rp3 ((fr1.trans fr2).trans fr3) (by simp [RV, Dat]) q⟩⟩
end
def aRepr : AC := fun xs ω Q => ∃ x d, xs = [x] ∧ datA ω x = some d ∧ (seqD d).isSome = true ∧ dep d ≤ 90 ∧ fit d = true ∧ wt d ≤ 1000000 ∧ Q (.d (.str (repD d))) ω
def aSorted : AC := fun xs ω Q => ∃ (x : AV) (W : List (List Int)), xs = [x] ∧ datA ω x = some (.lst (W.map wdD)) ∧ (∀ y ∈ W, y ≠ []) ∧ W.length < 64 ∧ Q (.d (.lst ((srtW W).map wdD))) ω
theorem Rep.stays {F : Fs} {H : Hp} {ω : Om} (rp : Rep F H ω) : TSame H (cut F H ω) := fun b xs e => by
  refine cut_some.mpr ⟨?_, ?_, e⟩
  · cases y : ω b with
    | none => rfl
    | some c => cases c with
      | frz ds => rfl
      | own ys =>
        obtain ⟨vs, e1, _⟩ := rp.own b ys y
        rw [e] at e1; cases e1
      | dic ys =>
        obtain ⟨vs, e1, _⟩ := rp.dic b ys y
        rw [e] at e1; cases e1
  · cases z : F b with
    | false => rfl
    | true =>
      obtain ⟨_, vs, q⟩ := rp.hid b z
      rw [e] at q; cases q
def tyD : D → String
  | .non => "NoneType" | .bl _ => "bool" | .int _ => "int" | .str _ => "str" | .tup _ => "tuple" | .lst _ => "list"
def isD (T : String) (d : D) : Bool := tyD d == T || (tyD d == "bool" && T == "int")
def aIsA : AC := fun xs ω Q => ∃ x d T, xs = [x, .r (.ty T)] ∧ datA ω x = some d ∧ T ∈ kinds ∧ Q (.d (.bl (isD T d))) ω
theorem ty_of {H : Hp} {d : D} {v : V} (h : Dat H d v) : tyName H v = some (tyD d) := by
  cases d <;> simp only [Dat] at h
  all_goals first
    | (subst h; rfl)
    | (obtain ⟨a, xs, rfl, h, _⟩ := h; simp [tyName, h, tyD])
def aCatL : A2 := fun x y ω Q => ∃ ds es, datA ω x = some (.lst ds) ∧ datA ω y = some (.lst es) ∧ ds.length + es.length ≤ sizeLine ∧ Q (.d (.lst (ds ++ es))) ω
theorem o_catL : Ref2 rCat aCatL := ⟨fun F H ω v u x y Q Q' rp h1 h2 ⟨ds, es, e1, e2, z, q⟩ k => by
  obtain ⟨a, vs, rfl, z1, z2⟩ := dats_of rp h1 e1
  obtain ⟨b, us, rfl, z3, z4⟩ := dats_of rp h2 e2
  exact ⟨a, b, vs, us, rfl, rfl, z1, z3, by rw [z2.length, z4.length]; exact z, k.lst rp (z2.append z4) q⟩⟩
def aCatLO : A2 := fun x y ω Q => ∃ xs ys, lstA ω x = some xs ∧ lstA ω y = some ys ∧ xs.length + ys.length ≤ sizeLine ∧ ∀ p, ω p = none → Q (.r (.ref p)) (ω.put p (.own (xs ++ ys)))
def aRepL : A2 := fun x y ω Q => ∃ ds k, datA ω x = some (.lst ds) ∧ y = .d (.int k) ∧ -(2 ^ 63) ≤ k ∧ k < 2 ^ 63 ∧ ds.length * k.toNat ≤ sizeLine ∧ Q (.d (.lst (List.replicate k.toNat ds).flatten)) ω
theorem Dats.rep {G : Hp} {ds : List D} {vs : List V} (h : Dats G ds vs) : ∀ n : Nat, Dats G (List.replicate n ds).flatten (List.replicate n vs).flatten
  | 0 => by simp [Dats]
  | n + 1 => by
    simp only [List.replicate_succ, List.flatten_cons]
    exact h.append (h.rep n)
theorem o_repL : Ref2 rRep aRepL := ⟨fun F H ω v u x y Q Q' rp h1 h2 ⟨ds, k', e1, e2, b1, b2, z, q⟩ k => by
  subst e2
  obtain ⟨a, vs, rfl, z1, z2⟩ := dats_of rp h1 e1
  exact ⟨a, k', vs, rfl, rv_int h2, z1, b1, b2, by rw [z2.length]; exact z, k.lst rp (z2.rep _) q⟩⟩
def aChain (r r' : A2) (ta tb tc : AE) : AE := fun ρ ω Q => ta ρ ω fun x ω1 => tb ρ ω1 fun y ω2 => r x y ω2 fun z ω3 => ∃ k, z = .d (.bl k) ∧ (if k = true then tc ρ ω3 fun w ω4 => r' y w ω4 Q else Q (.d (.bl false)) ω3)
theorem e_chain {r r2 : R2} {r' r2' : A2} {ta tb tc : TE} {ta' tb' tc' : AE} (h1 : Ref2 r r') (h2 : Ref2 r2 r2') (ha : RefE ta ta') (hb : RefE tb tb') (hc : RefE tc tc') : RefE (tChain r r2 ta tb tc) (aChain r' r2' ta' tb' tc') := ⟨fun F H ω σ ρ Q Q' rp rs w k =>
  ha.go rp rs w fun x ω1 v H1 rp1 fr1 rs1 rv1 q1 => hb.go rp1 rs1 q1 fun y ω2 u H2 rp2 fr2 rs2 rv2 q2 => h1.run F H2 ω2 v u x y _ _ rp2 (rv1.same fr2.same) rv2 q2 fun z ω3 zv H3 rp3 fr3 rv3 ⟨c, e, q⟩ => by
    subst e
    refine ⟨c, rv_bl rv3, ?_⟩
    have fr := (fr1.trans fr2).trans fr3
    cases c with
    | true =>
      rw [if_pos rfl] at q ⊢
      exact hc.go rp3 (rs2.same fr3.same) q fun w' ω4 wv H4 rp4 fr4 rs4 rv4 q4 => h2.run F H4 ω4 u wv y w' Q Q' rp4 (rv2.same (fr3.trans fr4).same) rv4 q4 (k.fr (fr.trans fr4))
    | false =>
      rw [if_neg Bool.false_ne_true] at q ⊢
      exact k _ ω3 _ H3 rp3 fr (by simp [RV, Dat]) q⟩
end L2
set_option Elab.async false
set_option linter.all false
set_option autoImplicit false
set_option maxRecDepth 100000
set_option maxHeartbeats 1000000
namespace L2
open PySem PySem.Spec PyProof.Rows
section
variable {X : Cx} {tg : Expr}
def notS : D → Bool
  | .str _ => false
  | _ => true
def rOr (r1 r2 : R2) : R2 := fun x y H Q => r1 x y H Q ∨ r2 x y H Q
theorem op_alt {f : Value → Value → Sem Value} {r1 r2 : R2} (h1 : OpR X f r1) (h2 : OpR X f r2) : OpR X f (rOr r1 r2) := fun pins s σ H x y v u Q I rx ry h => by
  rcases h with h | h
  · exact h1 pins s σ H x y v u Q I rx ry h
  · exact h2 pins s σ H x y v u Q I rx ry h
def rSlAny (K : PySem.W.Frag) : V → Option Int → Option Int → Hp → VK → Prop := fun x lo hi H Q => rSlL K x lo hi H Q ∨ rSlTA K x lo hi H Q
theorem sl_any (K : PySem.W.Frag) (hK : X.K = K) : SlR X (rSlAny K) := by
  subst hK
  intro pins s σ H x v vl vu lo hi sl Q I rx hs pl pu h
  rcases h with h | h
  · exact sl_list pins s σ H x v vl vu lo hi sl Q I rx hs pl pu h
  · exact sl_tupA pins s σ H x v vl vu lo hi sl Q I rx hs pl pu h
def iSeq (K : PySem.W.Frag) (tl : TE) : TI := fun σ H R => tl σ H fun x H1 => (∃ a, x = .ref a ∧ (∃ xs, SqL K H1 a xs) ∧ R (Itl K a) H1) ∨ ∃ a, x = .ref a ∧ (∃ xs, SqT K H1 a xs) ∧ R (Itt K a) H1
theorem pi_seq (K : PySem.W.Frag) (hK : X.K = K) {l : Expr} {tl : TE} (hl : PE X l tl) : PI X tg l (iSeq K tl) := by
  subst hK
  intro pins s σ H R I h
  refine thn (hl pins s σ H _ I h) fun v s1 ⟨x, H1, I1, r1, q1⟩ => ?_
  rcases q1 with q1 | q1
  · obtain ⟨a, e, ⟨xs, hq⟩, q⟩ := q1
    subst e
    cases r1
    obtain ⟨its, rv, p, hz⟩ := I1.list hq
    refine wpAny_pyIter_list p.isList ?_
    refine ⟨s1.heap.objs.size, [s1.heap.objs.size], _, _, H1, rfl, I1.kept (t' := s1.toks) fun b o e => Heap.get?_push_of_some _ e, turn_list a _, ⟨_, Heap.get?_push_size _ rfl, rfl, rfl⟩, fun b hb => ?_, q⟩
    have e : b = s1.heap.objs.size := by simpa using hb
    subst e
    exact I1.fpOk (Nat.le_refl _) (I1.hok.fresh (Nat.le_refl _))
  · obtain ⟨a, e, ⟨xs, hq⟩, q⟩ := q1
    subst e
    cases r1
    obtain ⟨its, rv, p, hz⟩ := I1.tuple hq
    refine wpAny_pyIter_tuple (show s1.heap.IsTuple a its.toArray from p) ?_
    refine ⟨s1.heap.objs.size, [s1.heap.objs.size], _, _, H1, rfl, I1.kept (t' := s1.toks) fun b o e => Heap.get?_push_of_some _ e, turn_tuple a _, ⟨_, Heap.get?_push_size _ rfl, rfl, rfl⟩, fun b hb => ?_, q⟩
    have e : b = s1.heap.objs.size := by simpa using hb
    subst e
    exact I1.fpOk (Nat.le_refl _) (I1.hok.fresh (Nat.le_refl _))
def tAndG (K : PySem.W.Frag) (ta tb : TE) : TE := fun σ H Q => ta σ H fun x H1 => ∃ c, TruV K x H1 c ∧ if c = true then tb σ H1 Q else Q x H1
def tNotG (K : PySem.W.Frag) (ta : TE) : TE := fun σ H Q => ta σ H fun x H1 => ∃ c, TruV K x H1 c ∧ Q (.bl (!c)) H1
variable {a b : Expr} {rest : List Expr} {pos : Pos} {ta tb : TE}
theorem pe_andG (K : PySem.W.Frag) (hK : X.K = K) (ha : PE X a ta) (hb : PE X (.BoolOp .And (b :: rest) pos) tb) : PE X (.BoolOp .And (a :: b :: rest) pos) (tAndG K ta tb) := .mk <| by
  subst hK
  intro pins s σ H Q I h
  refine BoolOp_and (thn (ha pins s σ H _ I h) fun v s1 ⟨x, H1, I1, r1, q1⟩ => ?_)
  refine thn (tru_ok pins s1 σ H1 x v (fun c H2 => H2 = H1 ∧ if c = true then tb σ H1 Q else Q x H1) I1 r1 ?_) fun c s2 ⟨H2, I2, e, q2⟩ => ?_
  · obtain ⟨c, hc, q⟩ := q1
    exact ⟨c, hc, rfl, q⟩
  · subst e
    cases c with
    | true => rw [if_pos rfl] at q2; exact hb pins s2 σ H2 Q I2 q2
    | false => rw [if_neg Bool.false_ne_true] at q2; exact ⟨x, H2, I2, r1, q2⟩
theorem pe_notG (K : PySem.W.Frag) (hK : X.K = K) (ha : PE X a ta) : PE X (.UnaryOp .Not a pos) (tNotG K ta) := .mk <| by
  subst hK
  intro pins s σ H Q I h
  refine UnaryOp_ (thn (ha pins s σ H _ I h) fun v s1 ⟨x, H1, I1, r1, q1⟩ => ?_)
  refine not_of (thn (tru_ok pins s1 σ H1 x v (fun c H2 => Q (.bl (!c)) H2) I1 r1 q1) fun c s2 ⟨H2, I2, q2⟩ => ⟨.bl (!c), H2, I2, rfl, q2⟩)
end
def aOrG (ta tb : AE) : AE := fun ρ ω Q => ta ρ ω fun x ω1 => ∃ c, truA ω1 x = some c ∧ if c = true then Q x ω1 else tb ρ ω1 Q
def aAndG (ta tb : AE) : AE := fun ρ ω Q => ta ρ ω fun x ω1 => ∃ c, truA ω1 x = some c ∧ if c = true then tb ρ ω1 Q else Q x ω1
def aNotG (ta : AE) : AE := fun ρ ω Q => ta ρ ω fun x ω1 => ∃ c, truA ω1 x = some c ∧ Q (.d (.bl (!c))) ω1
def aSl (te : AE) (tl th : AO) : AE := fun ρ ω Q => te ρ ω fun x ω1 => tl ρ ω1 fun lo ω2 => th ρ ω2 fun hi ω3 => match x with
  | .d (.tup ds) => Q (.d (.tup (cutL ds lo hi))) ω3
  | x => ∃ ds, datA ω3 x = some (.lst ds) ∧ Q (.d (.lst (cutL ds lo hi))) ω3
def aiSeq (te : AE) : AI := fun ρ ω R => te ρ ω fun x ω1 => frzA ω1 x fun d ω2 => ∃ ds, seqD d = some ds ∧ R (ds.map AV.d) ω2
def aiEnum (ta : AA) : AI := fun ρ ω R => ta ρ ω fun xs ω1 => ∃ x, xs = [x] ∧ frzA ω1 x fun d ω2 => ∃ ds, seqD d = some ds ∧ R (enumA ds) ω2
def aiZip (ta : AA) : AI := fun ρ ω R => ta ρ ω fun xs ω1 => ∃ x y, xs = [x, y] ∧ frzA ω1 x fun d ω2 => frzA ω2 y fun e ω3 => ∃ ds es, seqD d = some ds ∧ seqD e = some es ∧ R (zipA ds es) ω3
def aAdd : A2 := fun x y ω Q => match x with
  | .d (.int i) => ∃ j, y = .d (.int j) ∧ Q (.d (.int (i + j))) ω
  | .d (.tup ds) => ∃ es, y = .d (.tup es) ∧ ds.length + es.length ≤ sizeLine ∧ Q (.d (.tup (ds ++ es))) ω
  | x => ∃ ds es, datA ω x = some (.lst ds) ∧ datA ω y = some (.lst es) ∧ ds.length + es.length ≤ sizeLine ∧ Q (.d (.lst (ds ++ es))) ω
def aMul : A2 := fun x y ω Q => match x with
  | .d (.int i) => ∃ j, y = .d (.int j) ∧ CMul i j ∧ Q (.d (.int (i * j))) ω
  | x => aRepL x y ω Q
def aReprX : AC := fun xs ω Q => ∃ x d, xs = [x] ∧ datA ω x = some d ∧ notS d = true ∧ dep d ≤ 90 ∧ fit d = true ∧ wt d ≤ 1000000 ∧ Q (.d (.str (repD d))) ω
section
variable {K : PySem.W.Frag} {te ta tb : TE} {te' ta' tb' : AE} {tl th : TO} {tl' th' : AO} {sa : TA} {sa' : AA}
theorem e_andG (ha : RefE ta ta') (hb : RefE tb tb') : RefE (tAndG K ta tb) (aAndG ta' tb') := ⟨fun F H ω σ ρ Q Q' rp rs h k =>
  ha.go rp rs h fun x ω1 v H1 rp1 fr1 rs1 rv1 ⟨c, e, q⟩ => ⟨c, tru_of rp1 rv1 e, by
    cases c with
    | false => rw [if_neg Bool.false_ne_true] at q ⊢; exact k x ω1 v H1 rp1 fr1 rv1 q
    | true => rw [if_pos rfl] at q ⊢; exact hb.run F H1 ω1 σ ρ Q Q' rp1 rs1 q (k.fr fr1)⟩⟩
theorem e_notG (ha : RefE ta ta') : RefE (tNotG K ta) (aNotG ta') := ⟨fun F H ω σ ρ Q Q' rp rs h k =>
  ha.go rp rs h fun x ω1 v H1 rp1 fr1 rs1 rv1 ⟨c, e, q⟩ => ⟨c, tru_of rp1 rv1 e, (k.fr fr1).bl rp1 q⟩⟩
theorem e_sl (he : RefE te te') (hl : Ref REq tl tl') (hh : Ref REq th th') : RefE (tSl (rSlAny K) te tl th) (aSl te' tl' th') := ⟨fun F H ω σ ρ Q Q' rp rs w k =>
  he.go rp rs w fun x ω1 v H1 rp1 fr1 rs1 rv1 q1 => hl.go rp1 rs1 q1 fun lo ω2 lo' H2 rp2 fr2 rs2 e2 q2 => hh.go rp2 rs2 q2 fun hi ω3 hi' H3 rp3 fr3 rs3 e3 q => by
    cases (show lo = lo' from e2)
    cases (show hi = hi' from e3)
    have r := rv1.same (fr2.trans fr3).same
    have k3 := k.fr ((fr1.trans fr2).trans fr3)
    have ls : (∃ ds, datA ω3 x = some (.lst ds) ∧ Q' (.d (.lst (cutL ds lo hi))) ω3) → rSlAny K v lo hi H3 Q := fun ⟨ds, e, q⟩ => by
      obtain ⟨a, vs, rfl, z1, z2⟩ := dats_of rp3 r e
      exact .inl ⟨a, vs, rfl, .inl (.inl z1), k3.lst rp3 z2.cut q⟩
    cases x with
    | d x => cases x with
      | tup ds =>
        refine .inr ?_
        have r' := r
        simp only [RV, Dat] at r
        obtain ⟨a, vs, rfl, z1, z2⟩ := r
        refine ⟨a, vs, rfl, .inl (.inl (cut_same _ _ z1)), ?_⟩
        by_cases hw : HT.sIx vs.length 0 lo = 0 ∧ HT.sIx vs.length vs.length hi = vs.length
        · rw [if_pos hw]
          have : cutL ds lo hi = ds := by
            unfold cutL
            rw [← z2.length, hw.1, hw.2, List.drop_zero, Nat.sub_zero, z2.length, List.take_length]
          replace q : Q' (.d (.tup (cutL ds lo hi))) ω3 := q
          rw [this] at q
          exact k3 _ ω3 _ H3 rp3 .refl r' q
        · rw [if_neg hw]
          exact k3.tup rp3 z2.cut q
      | _ => exact ls q
    | _ => exact ls q⟩
theorem i_seq (h : RefE te te') : RefI (iSeq K te) (aiSeq te') := ⟨fun F H ω σ ρ R R' rp rs w k => h.go rp rs w fun x ω1 v H1 rp1 fr1 rs1 rv q => by
  obtain ⟨d, ω2, rp2, fr2, hd, ds, hs, q2⟩ := frz_of rp1 rv q
  cases d with
  | lst es =>
    cases hs
    obtain ⟨a, vs, rfl, ha⟩ := dat_ref_l hd
    exact .inl ⟨a, rfl, ⟨vs, .inl (.inl (cut_same _ _ ha))⟩, k _ ω2 _ H1 rp2 (fr1.trans fr2) (it_list hd) q2⟩
  | tup es =>
    cases hs
    obtain ⟨a, vs, rfl, ha⟩ := dat_ref_t hd
    exact .inr ⟨a, rfl, ⟨vs, .inl (.inl (cut_same _ _ ha))⟩, k _ ω2 _ H1 rp2 (fr1.trans fr2) (it_tup hd) q2⟩
  | _ => cases hs⟩
theorem o_add : Ref2 (rOr (rI0 fun i j => .int (i + j)) (rOr rCat3 rCat)) aAdd := ⟨fun F H ω v u x y Q Q' rp h1 h2 q k => by
  have ls : (∃ ds es, datA ω x = some (.lst ds) ∧ datA ω y = some (.lst es) ∧ ds.length + es.length ≤ sizeLine ∧ Q' (.d (.lst (ds ++ es))) ω) → rOr (rI0 fun i j => .int (i + j)) (rOr rCat3 rCat) v u H Q := fun q =>
    .inr (.inr (o_catL.run F H ω v u x y Q Q' rp h1 h2 q k))
  cases x with
  | d x => cases x with
    | int i =>
      obtain ⟨j, rfl, q⟩ := q
      exact .inl ⟨i, j, rv_int h1, rv_int h2, k.int rp q⟩
    | tup ds =>
      obtain ⟨es, rfl, z, q⟩ := q
      exact .inr (.inl (o_cat3.run F H ω v u _ _ Q Q' rp h1 h2 ⟨ds, es, rfl, rfl, z, q⟩ k))
    | _ => exact ls q
  | _ => exact ls q⟩
theorem o_mul : Ref2 (rOr (rI CMul fun i j => .int (i * j)) rRep) aMul := ⟨fun F H ω v u x y Q Q' rp h1 h2 q k => by
  have ls : aRepL x y ω Q' → rOr (rI CMul fun i j => .int (i * j)) rRep v u H Q := fun q => .inr (o_repL.run F H ω v u x y Q Q' rp h1 h2 q k)
  cases x with
  | d x => cases x with
    | int i =>
      obtain ⟨j, rfl, c, q⟩ := q
      exact .inl ⟨i, j, rv_int h1, rv_int h2, c, k.int rp q⟩
    | _ => exact ls q
  | _ => exact ls q⟩
end
def aSumU : AC := fun xs ω Q => ∃ (x : AV) (d : D) (ns : List Int), xs = [x] ∧ datA ω x = some d ∧ seqD d = some (ns.map D.int) ∧ Q (.d (.int ns.sum)) ω
def aAddO : A2 := fun x y ω Q => match x with
  | .d (.int i) => ∃ j, y = .d (.int j) ∧ Q (.d (.int (i + j))) ω
  | .d (.tup ds) => ∃ es, y = .d (.tup es) ∧ ds.length + es.length ≤ sizeLine ∧ Q (.d (.tup (ds ++ es))) ω
  | x => aCatLO x y ω Q
def vD : V → Option D
  | .non => some .non
  | .bl b => some (.bl b)
  | .int i => some (.int i)
  | .str x => some (.str x)
  | _ => none
def aSGet (kvs : List (Str × V)) (ty : AE) : AE := fun ρ ω Q => ty ρ ω fun y ω1 => ∃ x v d, y = .d (.str x) ∧ valS kvs x = some v ∧ vD v = some d ∧ Q (.d d) ω1
def startA (N : List Str) (xs : List AV) : SA := xs.map some ++ List.replicate (N.length - xs.length) none
theorem RS.start {G : Hp} {N : List Str} {xs : List AV} {vs : List V} (h : RVs G xs vs) : RS G (startA N xs) (start N vs) := by
  refine ⟨by simp [startA, L2.start, h.length], fun i a e => ?_⟩
  unfold startA at e
  unfold L2.start
  by_cases hi : i < xs.length
  · rw [List.getElem?_append_left (by simpa using hi), List.getElem?_map] at e
    rw [List.getElem?_append_left (by simpa [h.length] using hi), List.getElem?_map]
    cases z : xs[i]? with
    | none => rw [z] at e; simp at e
    | some b =>
      rw [z] at e
      simp at e
      subst e
      obtain ⟨v, e1, e2⟩ := h.get z
      exact ⟨v, by rw [e1]; rfl, e2⟩
  · rw [List.getElem?_append_right (by simpa using hi)] at e
    have := List.mem_of_getElem? e
    rw [List.mem_replicate] at this
    cases this.2
theorem Fun.okA {P : Program} {w : World} {K : PySem.W.Frag} {mg : Str → Option Value} {base : Heap} {x qual : Str} {st : Stmt} {f : Addr} {fd : FuncData} {N ps : List Str} {k : Nat} {sp : ASp} (F : Fun K x qual st f fd) (S : FnScope N ps (defScope st)) (len : ∀ xs ω Q, sp xs ω Q → xs.length = ps.length)
    (hbody : ∀ (cdv : Value) (A : Around) (outer : List Env) (s : Shared) (H : Hp) (E : XK), Room k (A.deeper (envOfC qual (defScope st) s.heap.objs.size f cdv)) →
      ∃ t t', PSs (cxOf CX0 P w K mg base N qual (defScope st) f cdv A outer s H E).nox (defBody st) t ∧ RefS t t' ∧ ∀ xs ω Q', sp xs ω Q' → t' { nx := fun _ ω' => Q' (.d .non) ω', rt := Q' } (startA N xs) ω) : FnOk P w K mg base CX0 (k + 1) f fd ps (lift sp) := by
  refine F.ok S (fun vs H Q E h => ?_) (fun cdv A outer s H vs Q E hr h => ?_)
  · obtain ⟨F, xs, ω, Q', rp, rv, h, _⟩ := h
    rw [rv.length, len xs ω Q' h]
  · obtain ⟨t, t', h1, h2, h3⟩ := hbody cdv A outer s H E hr
    obtain ⟨F, xs, ω, Q', rp, rv, h, kq⟩ := h
    refine ⟨t, h1, h2.run F H ω _ _ _ _ rp (RS.start rv) (h3 xs ω Q' h) ⟨?_, kq, fun _ _ _ _ _ _ _ z => z.elim, fun _ _ _ _ _ _ _ z => z.elim⟩⟩
    exact fun ρ' ω' σ' H' e1 e2 e3 q => kq (.d .non) ω' .non H' e1 e2 (by simp [RV, Dat]) q
end L2
set_option Elab.async false
set_option linter.all false
set_option autoImplicit false
set_option maxRecDepth 100000
set_option maxHeartbeats 1000000
namespace L2
open PySem PySem.Spec PyProof.Rows
theorem aNext_eq (D : AEnds) (ρ : SA) (ω : Om) : aNext D ρ ω = (D.nx ρ ω) := rfl
theorem aSeq_eq (t u : AS) (D : AEnds) (ρ : SA) (ω : Om) : aSeq t u D ρ ω = (t { D with nx := u D } ρ ω) := rfl
theorem aBreak_eq (D : AEnds) (ρ : SA) (ω : Om) : aBreak D ρ ω = (D.bk ρ ω) := rfl
theorem aCont_eq (D : AEnds) (ρ : SA) (ω : Om) : aCont D ρ ω = (D.ct ρ ω) := rfl
theorem aDrop_eq (te : AE) (D : AEnds) (ρ : SA) (ω : Om) : aDrop te D ρ ω = (te ρ ω fun _ ω1 => D.nx ρ ω1) := rfl
theorem aRet_eq (te : AE) (D : AEnds) (ρ : SA) (ω : Om) : aRet te D ρ ω = (te ρ ω D.rt) := rfl
theorem aRetN_eq (D : AEnds) (z1 : SA) (ω : Om) : aRetN D z1 ω = (D.rt (.d .non) ω) := rfl
theorem aIfS_eq (c : AT) (t u : AS) (D : AEnds) (ρ : SA) (ω : Om) : aIfS c t u D ρ ω = (c ρ ω fun b ω1 => if b = true then t D ρ ω1 else u D ρ ω1) := rfl
theorem aAsg_eq (te : AE) (g : AG) (D : AEnds) (ρ : SA) (ω : Om) : aAsg te g D ρ ω = (te ρ ω fun x ω1 => g x ρ ω1 D.nx) := rfl
theorem agName_eq (i : Nat) (v : AV) (ρ : SA) (ω : Om) (Q : SA → Om → Prop) : agName i v ρ ω Q = (Q (ρ.set i (some v)) ω) := rfl
theorem agNil_eq (vs : List AV) (ρ : SA) (ω : Om) (Q : SA → Om → Prop) : agNil vs ρ ω Q = (vs = [] ∧ Q ρ ω) := rfl
theorem agCons_eq (t : AG) (u : AGs) (vs : List AV) (ρ : SA) (ω : Om) (Q : SA → Om → Prop) : agCons t u vs ρ ω Q = (∃ v r, vs = v :: r ∧ t v ρ ω fun ρ' ω' => u r ρ' ω' Q) := rfl
theorem aFor_eq (wi : AI) (g : AG) (tb : AS) (D : AEnds) (ρ : SA) (ω : Om) : aFor wi g tb D ρ ω = (wi ρ ω fun as ω1 => aForL g tb D as ρ ω1) := rfl
theorem aNoTest_eq (z0 : SA) (ω : Om) (Q : Bool → Om → Prop) : aNoTest z0 ω Q = (Q true ω) := rfl
theorem aLast_eq (te : AE) (xs : List AV) (ρ : SA) (ω : Om) (K : List AV → SA → Om → Prop) : aLast te xs ρ ω K = (te ρ ω fun y ω1 => xs.length < sizeLine ∧ K (xs ++ [y]) ρ ω1) := rfl
theorem aLFor_eq (wi : AI) (g : AG) (tc : AT) (l : AL) (xs : List AV) (ρ : SA) (ω : Om) (K : List AV → SA → Om → Prop) : aLFor wi g tc l xs ρ ω K = (wi ρ ω fun as ω1 => aLoop g tc l as xs ρ ω1 K) := rfl
theorem aVar_eq (i : Nat) (ρ : SA) (ω : Om) (Q : AV → Om → Prop) : aVar i ρ ω Q = (∃ a, ρ[i]? = some (some a) ∧ Q a ω) := rfl
theorem aVarF_eq (i : Nat) (ρ : SA) (ω : Om) (Q : AV → Om → Prop) : aVarF i ρ ω Q = (∃ a, ρ[i]? = some (some a) ∧ frzA ω a fun d ω' => Q (.d d) ω') := rfl
theorem aC_eq (d : D) (z0 : SA) (ω : Om) (Q : AV → Om → Prop) : aC d z0 ω Q = (Q (.d d) ω) := rfl
theorem aOp_eq (r : A2) (ta tb : AE) (ρ : SA) (ω : Om) (Q : AV → Om → Prop) : aOp r ta tb ρ ω Q = (ta ρ ω fun x ω1 => tb ρ ω1 fun y ω2 => r x y ω2 Q) := rfl
theorem aNil_eq (z0 : SA) (ω : Om) (Q : List AV → Om → Prop) : aNil z0 ω Q = (Q [] ω) := rfl
theorem aCons_eq (ta : AE) (tr : AA) (ρ : SA) (ω : Om) (Q : List AV → Om → Prop) : aCons ta tr ρ ω Q = (ta ρ ω fun x ω1 => tr ρ ω1 fun xs ω2 => Q (x :: xs) ω2) := rfl
theorem aTup_eq (t : AA) (ρ : SA) (ω : Om) (Q : AV → Om → Prop) : aTup t ρ ω Q = (t ρ ω fun xs ω1 => xs.length ≤ sizeLine ∧ ∃ ds, und xs = some ds ∧ Q (.d (.tup ds)) ω1) := rfl
theorem aLst_eq (t : AA) (ρ : SA) (ω : Om) (Q : AV → Om → Prop) : aLst t ρ ω Q = (t ρ ω fun xs ω1 => xs.length ≤ sizeLine ∧ ∃ ds, und xs = some ds ∧ Q (.d (.lst ds)) ω1) := rfl
theorem aLstO_eq (t : AA) (ρ : SA) (ω : Om) (Q : AV → Om → Prop) : aLstO t ρ ω Q = (t ρ ω fun xs ω1 => xs.length ≤ sizeLine ∧ ∀ p, ω1 p = none → Q (.r (.ref p)) (ω1.put p (.own xs))) := rfl
theorem aCall_eq (sp : ASp) (t : AA) (ρ : SA) (ω : Om) (Q : AV → Om → Prop) : aCall sp t ρ ω Q = (t ρ ω fun xs ω1 => sp xs ω1 Q) := rfl
theorem aTest_eq (t : AE) (ρ : SA) (ω : Om) (Q : Bool → Om → Prop) : aTest t ρ ω Q = (t ρ ω fun x ω1 => ∃ k, x = .d (.bl k) ∧ Q k ω1) := rfl
theorem aAnd_eq (t u : AT) (ρ : SA) (ω : Om) (Q : Bool → Om → Prop) : aAnd t u ρ ω Q = (t ρ ω fun c ω1 => if c = true then u ρ ω1 Q else Q false ω1) := rfl
theorem aOr_eq (t u : AT) (ρ : SA) (ω : Om) (Q : Bool → Om → Prop) : aOr t u ρ ω Q = (t ρ ω fun c ω1 => if c = true then Q true ω1 else u ρ ω1 Q) := rfl
theorem aNot_eq (t : AT) (ρ : SA) (ω : Om) (Q : Bool → Om → Prop) : aNot t ρ ω Q = (t ρ ω fun c ω1 => Q (!c) ω1) := rfl
theorem aAndV_eq (ta tb : AE) (ρ : SA) (ω : Om) (Q : AV → Om → Prop) : aAndV ta tb ρ ω Q = (ta ρ ω fun x ω1 => ∃ c, x = .d (.bl c) ∧ if c = true then tb ρ ω1 Q else Q (.d (.bl false)) ω1) := rfl
theorem aOrV_eq (ta tb : AE) (ρ : SA) (ω : Om) (Q : AV → Om → Prop) : aOrV ta tb ρ ω Q = (ta ρ ω fun x ω1 => ∃ c, x = .d (.bl c) ∧ if c = true then Q (.d (.bl true)) ω1 else tb ρ ω1 Q) := rfl
theorem aNotV_eq (ta : AE) (ρ : SA) (ω : Om) (Q : AV → Om → Prop) : aNotV ta ρ ω Q = (ta ρ ω fun x ω1 => ∃ c, x = .d (.bl c) ∧ Q (.d (.bl (!c))) ω1) := rfl
theorem aIf_eq (t : AT) (ta tb : AE) (ρ : SA) (ω : Om) (Q : AV → Om → Prop) : aIf t ta tb ρ ω Q = (t ρ ω fun c ω1 => if c = true then ta ρ ω1 Q else tb ρ ω1 Q) := rfl
theorem aRaw_eq (v : V) (z0 : SA) (ω : Om) (Q : AV → Om → Prop) : aRaw v z0 ω Q = (Q (.r v) ω) := rfl
theorem aTru_eq (ta : AE) (ρ : SA) (ω : Om) (Q : Bool → Om → Prop) : aTru ta ρ ω Q = (ta ρ ω fun x ω1 => ∃ k, truA ω1 x = some k ∧ Q k ω1) := rfl
theorem aI0_eq (f : Int → Int → D) (x : AV) (y : AV) (ω : Om) (Q : AV → Om → Prop) : aI0 f x y ω Q = (∃ i j, x = .d (.int i) ∧ y = .d (.int j) ∧ Q (.d (f i j)) ω) := rfl
theorem aI_eq (C : Int → Int → Prop) (f : Int → Int → D) (x : AV) (y : AV) (ω : Om) (Q : AV → Om → Prop) : aI C f x y ω Q = (∃ i j, x = .d (.int i) ∧ y = .d (.int j) ∧ C i j ∧ Q (.d (f i j)) ω) := rfl
theorem aEq_eq (x : AV) (y : AV) (ω : Om) (Q : AV → Om → Prop) : aEq x y ω Q = (∃ a b, x = .d a ∧ y = .d b ∧ sclD a b = true ∧ Q (.d (.bl (eqD a b))) ω) := rfl
theorem aNe_eq (x : AV) (y : AV) (ω : Om) (Q : AV → Om → Prop) : aNe x y ω Q = (∃ a b, x = .d a ∧ y = .d b ∧ sclD a b = true ∧ Q (.d (.bl (!eqD a b))) ω) := rfl
theorem aEqD_eq (neg : Bool) (x : AV) (y : AV) (ω : Om) (Q : AV → Om → Prop) : aEqD neg x y ω Q = (∃ a b, datA ω x = some a ∧ datA ω y = some b ∧ dep a ≤ 100 ∧ Q (.d (.bl (if neg then !eqD a b else eqD a b))) ω) := rfl
theorem aIn_eq (neg : Bool) (x : AV) (y : AV) (ω : Om) (Q : AV → Om → Prop) : aIn neg x y ω Q = (∃ a b ds, datA ω x = some a ∧ datA ω y = some b ∧ (b = .lst ds ∨ b = .tup ds) ∧ deps ds ≤ 90 ∧ Q (.d (.bl (if neg then !inD a ds else inD a ds))) ω) := rfl
theorem aCatT_eq (x : AV) (y : AV) (ω : Om) (Q : AV → Om → Prop) : aCatT x y ω Q = (∃ ds es, x = .d (.tup ds) ∧ y = .d (.tup es) ∧ ds.length + es.length ≤ sizeLine ∧ Q (.d (.tup (ds ++ es))) ω) := rfl
theorem aIxL_eq (x : AV) (y : AV) (ω : Om) (Q : AV → Om → Prop) : aIxL x y ω Q = (∃ xs i a, lstA ω x = some xs ∧ y = .d (.int i) ∧ atI xs i = some a ∧ Q a ω) := rfl
theorem aIxT_eq (x : AV) (y : AV) (ω : Om) (Q : AV → Om → Prop) : aIxT x y ω Q = (∃ xs i a, tupA x = some xs ∧ y = .d (.int i) ∧ atI xs i = some a ∧ Q a ω) := rfl
theorem aIx_eq (x : AV) (y : AV) (ω : Om) (Q : AV → Om → Prop) : aIx x y ω Q = (∃ xs i a, (lstA ω x = some xs ∨ tupA x = some xs) ∧ y = .d (.int i) ∧ atI xs i = some a ∧ Q a ω) := rfl
theorem aIsN_eq (neg : Bool) (x : AV) (y : AV) (ω : Om) (Q : AV → Om → Prop) : aIsN neg x y ω Q = (∃ a, x = .d a ∧ y = .d .non ∧ Q (.d (.bl (if neg then !eqD a .non else eqD a .non))) ω) := rfl
theorem aIsB_eq (f : Bool → Bool → Bool) (x : AV) (y : AV) (ω : Om) (Q : AV → Om → Prop) : aIsB f x y ω Q = (∃ a b, x = .d (.bl a) ∧ y = .d (.bl b) ∧ Q (.d (.bl (f a b))) ω) := rfl
theorem aLen_eq (xs : List AV) (ω : Om) (Q : AV → Om → Prop) : aLen xs ω Q = (∃ x n, xs = [x] ∧ lenA ω x = some n ∧ Q (.d (.int n)) ω) := rfl
theorem aAll_eq (f : List Bool → Bool) (xs : List AV) (ω : Om) (Q : AV → Om → Prop) : aAll f xs ω Q = (∃ x bs, xs = [x] ∧ datA ω x = some (.lst (bs.map D.bl)) ∧ Q (.d (.bl (f bs))) ω) := rfl
theorem aSum_eq (xs : List AV) (ω : Om) (Q : AV → Om → Prop) : aSum xs ω Q = (∃ (x : AV) (ns : List Int), xs = [x] ∧ datA ω x = some (.lst (ns.map D.int)) ∧ Q (.d (.int ns.sum)) ω) := rfl
theorem aSumT_eq (xs : List AV) (ω : Om) (Q : AV → Om → Prop) : aSumT xs ω Q = (∃ ns : List Int, xs = [.d (.tup (ns.map D.int))] ∧ Q (.d (.int ns.sum)) ω) := rfl
theorem aF2_eq (f : Int → Int → Int) (xs : List AV) (ω : Om) (Q : AV → Om → Prop) : aF2 f xs ω Q = (∃ i j, xs = [.d (.int i), .d (.int j)] ∧ Q (.d (.int (f i j))) ω) := rfl
theorem aF1_eq (f : Int → Int) (xs : List AV) (ω : Om) (Q : AV → Om → Prop) : aF1 f xs ω Q = (∃ i, xs = [.d (.int i)] ∧ Q (.d (.int (f i))) ω) := rfl
theorem aInt_eq (xs : List AV) (ω : Om) (Q : AV → Om → Prop) : aInt xs ω Q = (∃ d i, xs = [.d d] ∧ intD d = some i ∧ Q (.d (.int i)) ω) := rfl
theorem aBool_eq (xs : List AV) (ω : Om) (Q : AV → Om → Prop) : aBool xs ω Q = (∃ d i, xs = [.d d] ∧ boolD d = some i ∧ Q (.d (.bl i)) ω) := rfl
theorem aTupOf_eq (xs : List AV) (ω : Om) (Q : AV → Om → Prop) : aTupOf xs ω Q = (∃ x ds, xs = [x] ∧ (datA ω x = some (.lst ds) ∨ x = .d (.tup ds)) ∧ Q (.d (.tup ds)) ω) := rfl
theorem aListOf_eq (xs : List AV) (ω : Om) (Q : AV → Om → Prop) : aListOf xs ω Q = (∃ x ds, xs = [x] ∧ (datA ω x = some (.lst ds) ∨ x = .d (.tup ds)) ∧ Q (.d (.lst ds)) ω) := rfl
theorem aListO_eq (xs : List AV) (ω : Om) (Q : AV → Om → Prop) : aListO xs ω Q = (∃ x ds, xs = [x] ∧ (datA ω x = some (.lst ds) ∨ x = .d (.tup ds)) ∧ ∀ p, ω p = none → Q (.r (.ref p)) (ω.put p (.own (ds.map AV.d)))) := rfl
theorem aiList_eq (te : AE) (ρ : SA) (ω : Om) (R : List AV → Om → Prop) : aiList te ρ ω R = (te ρ ω fun x ω1 => frzA ω1 x fun d ω2 => ∃ ds, d = .lst ds ∧ R (ds.map AV.d) ω2) := rfl
theorem aiTup_eq (te : AE) (ρ : SA) (ω : Om) (R : List AV → Om → Prop) : aiTup te ρ ω R = (te ρ ω fun x ω1 => ∃ ds, x = .d (.tup ds) ∧ R (ds.map AV.d) ω1) := rfl
theorem aiRng1_eq (ta : AA) (ρ : SA) (ω : Om) (R : List AV → Om → Prop) : aiRng1 ta ρ ω R = (ta ρ ω fun xs ω1 => ∃ j : Int, xs = [.d (.int j)] ∧ -(2 ^ 62) ≤ j ∧ j < 2 ^ 62 ∧ R (rngA 0 j.toNat) ω1) := rfl
theorem aiRng2_eq (ta : AA) (ρ : SA) (ω : Om) (R : List AV → Om → Prop) : aiRng2 ta ρ ω R = (ta ρ ω fun xs ω1 => ∃ i j : Int, xs = [.d (.int i), .d (.int j)] ∧ (-(2 ^ 62) ≤ i ∧ i < 2 ^ 62 ∧ -(2 ^ 62) ≤ j ∧ j < 2 ^ 62) ∧ R (rngA i (j - i).toNat) ω1) := rfl
theorem aiEnumL_eq (ta : AA) (ρ : SA) (ω : Om) (R : List AV → Om → Prop) : aiEnumL ta ρ ω R = (ta ρ ω fun xs ω1 => ∃ x, xs = [x] ∧ frzA ω1 x fun d ω2 => ∃ ds, d = .lst ds ∧ R (enumA ds) ω2) := rfl
theorem aiEnumT_eq (ta : AA) (ρ : SA) (ω : Om) (R : List AV → Om → Prop) : aiEnumT ta ρ ω R = (ta ρ ω fun xs ω1 => ∃ ds, xs = [.d (.tup ds)] ∧ R (enumA ds) ω1) := rfl
theorem agTup_eq (n : Nat) (t : AGs) (v : AV) (ρ : SA) (ω : Om) (Q : SA → Om → Prop) : agTup n t v ρ ω Q = (∃ ds, v = .d (.tup ds) ∧ ds.length = n ∧ t (ds.map AV.d) ρ ω Q) := rfl
theorem agLst_eq (n : Nat) (t : AGs) (v : AV) (ρ : SA) (ω : Om) (Q : SA → Om → Prop) : agLst n t v ρ ω Q = (∃ xs, lstA ω v = some xs ∧ xs.length = n ∧ t xs ρ ω Q) := rfl
theorem agSub_eq (to ti : AE) (v : AV) (ρ : SA) (ω : Om) (Q : SA → Om → Prop) : agSub to ti v ρ ω Q = (to ρ ω fun o ω1 => ti ρ ω1 fun i ω2 => ∃ l k xs j, o = .r (.ref l) ∧ i = .d (.int k) ∧ ω2 l = some (.own xs) ∧ ixN xs.length k = some j ∧ Q ρ (ω2.put l (.own (xs.set j v)))) := rfl
theorem aoNone_eq (z0 : SA) (ω : Om) (Q : Option Int → Om → Prop) : aoNone z0 ω Q = (Q none ω) := rfl
theorem aoSome_eq (t : AE) (ρ : SA) (ω : Om) (Q : Option Int → Om → Prop) : aoSome t ρ ω Q = (t ρ ω fun x ω1 => ∃ i, x = .d (.int i) ∧ Q (some i) ω1) := rfl
theorem aSlL_eq (te : AE) (tl th : AO) (ρ : SA) (ω : Om) (Q : AV → Om → Prop) : aSlL te tl th ρ ω Q = (te ρ ω fun x ω1 => tl ρ ω1 fun lo ω2 => th ρ ω2 fun hi ω3 => ∃ ds, datA ω3 x = some (.lst ds) ∧ Q (.d (.lst (cutL ds lo hi))) ω3) := rfl
theorem aSlT_eq (te : AE) (tl th : AO) (ρ : SA) (ω : Om) (Q : AV → Om → Prop) : aSlT te tl th ρ ω Q = (te ρ ω fun x ω1 => tl ρ ω1 fun lo ω2 => th ρ ω2 fun hi ω3 => ∃ ds, x = .d (.tup ds) ∧ Q (.d (.tup (cutL ds lo hi))) ω3) := rfl
theorem aRev_eq (te : AE) (ρ : SA) (ω : Om) (Q : AV → Om → Prop) : aRev te ρ ω Q = (te ρ ω fun x ω1 => ∃ ds, datA ω1 x = some (.lst ds) ∧ Q (.d (.lst ds.reverse)) ω1) := rfl
theorem aAppend_eq (to : AE) (t : AA) (ρ : SA) (ω : Om) (Q : AV → Om → Prop) : aAppend to t ρ ω Q = (to ρ ω fun x ω1 => ∃ l, x = .r (.ref l) ∧ (∃ zs, ω1 l = some (.own zs)) ∧ t ρ ω1 fun ys ω2 => ∃ xs y, ys = [y] ∧ ω2 l = some (.own xs) ∧ xs.length < sizeLine ∧ Q (.d .non) (ω2.put l (.own (xs ++ [y])))) := rfl
theorem aExtend_eq (to : AE) (t : AA) (ρ : SA) (ω : Om) (Q : AV → Om → Prop) : aExtend to t ρ ω Q = (to ρ ω fun x ω1 => ∃ l, x = .r (.ref l) ∧ (∃ zs, ω1 l = some (.own zs)) ∧ t ρ ω1 fun ys ω2 => ∃ xs y zs, ys = [y] ∧ ω2 l = some (.own xs) ∧ lstA ω2 y = some zs ∧ xs.length + zs.length ≤ sizeLine ∧ Q (.d .non) (ω2.put l (.own (xs ++ zs)))) := rfl
theorem aClear_eq (to : AE) (ρ : SA) (ω : Om) (Q : AV → Om → Prop) : aClear to ρ ω Q = (to ρ ω fun x ω1 => ∃ l xs, x = .r (.ref l) ∧ ω1 l = some (.own xs) ∧ Q (.d .non) (ω1.put l (.own []))) := rfl
theorem aRepr_eq (xs : List AV) (ω : Om) (Q : AV → Om → Prop) : aRepr xs ω Q = (∃ x d, xs = [x] ∧ datA ω x = some d ∧ (seqD d).isSome = true ∧ dep d ≤ 90 ∧ fit d = true ∧ wt d ≤ 1000000 ∧ Q (.d (.str (repD d))) ω) := rfl
theorem aSorted_eq (xs : List AV) (ω : Om) (Q : AV → Om → Prop) : aSorted xs ω Q = (∃ (x : AV) (W : List (List Int)), xs = [x] ∧ datA ω x = some (.lst (W.map wdD)) ∧ (∀ y ∈ W, y ≠ []) ∧ W.length < 64 ∧ Q (.d (.lst ((srtW W).map wdD))) ω) := rfl
theorem aIsA_eq (xs : List AV) (ω : Om) (Q : AV → Om → Prop) : aIsA xs ω Q = (∃ x d T, xs = [x, .r (.ty T)] ∧ datA ω x = some d ∧ T ∈ kinds ∧ Q (.d (.bl (isD T d))) ω) := rfl
theorem aCatL_eq (x : AV) (y : AV) (ω : Om) (Q : AV → Om → Prop) : aCatL x y ω Q = (∃ ds es, datA ω x = some (.lst ds) ∧ datA ω y = some (.lst es) ∧ ds.length + es.length ≤ sizeLine ∧ Q (.d (.lst (ds ++ es))) ω) := rfl
theorem aCatLO_eq (x : AV) (y : AV) (ω : Om) (Q : AV → Om → Prop) : aCatLO x y ω Q = (∃ xs ys, lstA ω x = some xs ∧ lstA ω y = some ys ∧ xs.length + ys.length ≤ sizeLine ∧ ∀ p, ω p = none → Q (.r (.ref p)) (ω.put p (.own (xs ++ ys)))) := rfl
theorem aRepL_eq (x : AV) (y : AV) (ω : Om) (Q : AV → Om → Prop) : aRepL x y ω Q = (∃ ds k, datA ω x = some (.lst ds) ∧ y = .d (.int k) ∧ -(2 ^ 63) ≤ k ∧ k < 2 ^ 63 ∧ ds.length * k.toNat ≤ sizeLine ∧ Q (.d (.lst (List.replicate k.toNat ds).flatten)) ω) := rfl
theorem aChain_eq (r r' : A2) (ta tb tc : AE) (ρ : SA) (ω : Om) (Q : AV → Om → Prop) : aChain r r' ta tb tc ρ ω Q = (ta ρ ω fun x ω1 => tb ρ ω1 fun y ω2 => r x y ω2 fun z ω3 => ∃ k, z = .d (.bl k) ∧ (if k = true then tc ρ ω3 fun w ω4 => r' y w ω4 Q else Q (.d (.bl false)) ω3)) := rfl
theorem aOrG_eq (ta tb : AE) (ρ : SA) (ω : Om) (Q : AV → Om → Prop) : aOrG ta tb ρ ω Q = (ta ρ ω fun x ω1 => ∃ c, truA ω1 x = some c ∧ if c = true then Q x ω1 else tb ρ ω1 Q) := rfl
theorem aAndG_eq (ta tb : AE) (ρ : SA) (ω : Om) (Q : AV → Om → Prop) : aAndG ta tb ρ ω Q = (ta ρ ω fun x ω1 => ∃ c, truA ω1 x = some c ∧ if c = true then tb ρ ω1 Q else Q x ω1) := rfl
theorem aNotG_eq (ta : AE) (ρ : SA) (ω : Om) (Q : AV → Om → Prop) : aNotG ta ρ ω Q = (ta ρ ω fun x ω1 => ∃ c, truA ω1 x = some c ∧ Q (.d (.bl (!c))) ω1) := rfl
theorem aiSeq_eq (te : AE) (ρ : SA) (ω : Om) (R : List AV → Om → Prop) : aiSeq te ρ ω R = (te ρ ω fun x ω1 => frzA ω1 x fun d ω2 => ∃ ds, seqD d = some ds ∧ R (ds.map AV.d) ω2) := rfl
theorem aiEnum_eq (ta : AA) (ρ : SA) (ω : Om) (R : List AV → Om → Prop) : aiEnum ta ρ ω R = (ta ρ ω fun xs ω1 => ∃ x, xs = [x] ∧ frzA ω1 x fun d ω2 => ∃ ds, seqD d = some ds ∧ R (enumA ds) ω2) := rfl
theorem aiZip_eq (ta : AA) (ρ : SA) (ω : Om) (R : List AV → Om → Prop) : aiZip ta ρ ω R = (ta ρ ω fun xs ω1 => ∃ x y, xs = [x, y] ∧ frzA ω1 x fun d ω2 => frzA ω2 y fun e ω3 => ∃ ds es, seqD d = some ds ∧ seqD e = some es ∧ R (zipA ds es) ω3) := rfl
theorem aReprX_eq (xs : List AV) (ω : Om) (Q : AV → Om → Prop) : aReprX xs ω Q = (∃ x d, xs = [x] ∧ datA ω x = some d ∧ notS d = true ∧ dep d ≤ 90 ∧ fit d = true ∧ wt d ≤ 1000000 ∧ Q (.d (.str (repD d))) ω) := rfl
theorem aSumU_eq (xs : List AV) (ω : Om) (Q : AV → Om → Prop) : aSumU xs ω Q = (∃ (x : AV) (d : D) (ns : List Int), xs = [x] ∧ datA ω x = some d ∧ seqD d = some (ns.map D.int) ∧ Q (.d (.int ns.sum)) ω) := rfl
theorem aComp_eq (src : List (Option Nat)) (wi : AI) (g : AG) (tc : AT) (l : AL) (ρ : SA) (ω : Om) (Q : AV → Om → Prop) : aComp src wi g tc l ρ ω Q = (wi ρ ω fun as ω1 => aLoop g tc l as [] (blkA src ρ) ω1 fun xs _ ω' => ∃ ds, und xs = some ds ∧ Q (.d (.lst ds)) ω') := rfl
theorem aCompO_eq (src : List (Option Nat)) (wi : AI) (g : AG) (tc : AT) (l : AL) (ρ : SA) (ω : Om) (Q : AV → Om → Prop) : aCompO src wi g tc l ρ ω Q = (wi ρ ω fun as ω1 => aLoop g tc l as [] (blkA src ρ) ω1 fun xs _ ω' => ∀ p, ω' p = none → Q (.r (.ref p)) (ω'.put p (.own xs))) := rfl
theorem aUn_eq (r : AV → Om → (AV → Om → Prop) → Prop) (ta : AE) (ρ : SA) (ω : Om) (Q : AV → Om → Prop) : aUn r ta ρ ω Q = (ta ρ ω fun x ω1 => r x ω1 Q) := rfl
theorem aCB_eq (r : List AV → Om → (AV → Om → Prop) → Prop) (t : AA) (ρ : SA) (ω : Om) (Q : AV → Om → Prop) : aCB r t ρ ω Q = (t ρ ω fun xs ω1 => r xs ω1 Q) := rfl
theorem aU_eq (f : Int → D) (x : AV) (ω : Om) (Q : AV → Om → Prop) : aU f x ω Q = (∃ i, x = .d (.int i) ∧ Q (.d (f i)) ω) := rfl
theorem aSGet_eq (kvs : List (Str × V)) (ty : AE) (ρ : SA) (ω : Om) (Q : AV → Om → Prop) : aSGet kvs ty ρ ω Q = (ty ρ ω fun y ω1 => ∃ x v d, y = .d (.str x) ∧ valS kvs x = some v ∧ vD v = some d ∧ Q (.d d) ω1) := rfl
theorem aAdd_int (i : Int) (y : AV) (ω : Om) (Q : AV → Om → Prop) : aAdd (.d (.int i)) y ω Q = (∃ j, y = .d (.int j) ∧ Q (.d (.int (i + j))) ω) := rfl
theorem aAdd_tup (ds : List D) (y : AV) (ω : Om) (Q : AV → Om → Prop) : aAdd (.d (.tup ds)) y ω Q = (∃ es, y = .d (.tup es) ∧ ds.length + es.length ≤ sizeLine ∧ Q (.d (.tup (ds ++ es))) ω) := rfl
theorem aAdd_lst (ds : List D) (y : AV) (ω : Om) (Q : AV → Om → Prop) : aAdd (.d (.lst ds)) y ω Q = (∃ es, datA ω y = some (.lst es) ∧ ds.length + es.length ≤ sizeLine ∧ Q (.d (.lst (ds ++ es))) ω) := by
  show (∃ ds' es, datA ω (.d (.lst ds)) = some (.lst ds') ∧ datA ω y = some (.lst es) ∧ ds'.length + es.length ≤ sizeLine ∧ Q (.d (.lst (ds' ++ es))) ω) = _
  simp only [datA, Option.some.injEq, D.lst.injEq, exists_eq_left', exists_and_left]
theorem aAdd_ref (l : Addr) (y : AV) (ω : Om) (Q : AV → Om → Prop) : aAdd (.r (.ref l)) y ω Q = (∃ ds es, datA ω (.r (.ref l)) = some (.lst ds) ∧ datA ω y = some (.lst es) ∧ ds.length + es.length ≤ sizeLine ∧ Q (.d (.lst (ds ++ es))) ω) := rfl
theorem aAddO_int (i : Int) (y : AV) (ω : Om) (Q : AV → Om → Prop) : aAddO (.d (.int i)) y ω Q = (∃ j, y = .d (.int j) ∧ Q (.d (.int (i + j))) ω) := rfl
theorem aAddO_lst (ds : List D) (y : AV) (ω : Om) (Q : AV → Om → Prop) : aAddO (.d (.lst ds)) y ω Q = (aCatLO (.d (.lst ds)) y ω Q) := rfl
theorem aAddO_ref (l : Addr) (y : AV) (ω : Om) (Q : AV → Om → Prop) : aAddO (.r (.ref l)) y ω Q = (aCatLO (.r (.ref l)) y ω Q) := rfl
theorem aMul_int (i : Int) (y : AV) (ω : Om) (Q : AV → Om → Prop) : aMul (.d (.int i)) y ω Q = (∃ j, y = .d (.int j) ∧ CMul i j ∧ Q (.d (.int (i * j))) ω) := rfl
theorem aMul_lst (ds : List D) (y : AV) (ω : Om) (Q : AV → Om → Prop) : aMul (.d (.lst ds)) y ω Q = aRepL (.d (.lst ds)) y ω Q := rfl
def slA (x : AV) (lo hi : Option Int) (ω : Om) (Q : AV → Om → Prop) : Prop := match x with
  | .d (.tup ds) => Q (.d (.tup (cutL ds lo hi))) ω
  | x => ∃ ds, datA ω x = some (.lst ds) ∧ Q (.d (.lst (cutL ds lo hi))) ω
theorem slA_tup (ds : List D) (lo hi : Option Int) (ω : Om) (Q : AV → Om → Prop) : slA (.d (.tup ds)) lo hi ω Q = Q (.d (.tup (cutL ds lo hi))) ω := rfl
theorem slA_lst (ds : List D) (lo hi : Option Int) (ω : Om) (Q : AV → Om → Prop) : slA (.d (.lst ds)) lo hi ω Q = Q (.d (.lst (cutL ds lo hi))) ω := by
  show (∃ ds', datA ω (.d (.lst ds)) = some (.lst ds') ∧ Q (.d (.lst (cutL ds' lo hi))) ω) = _
  simp only [datA, Option.some.injEq, D.lst.injEq, exists_eq_left']
theorem slA_ref (l : Addr) (lo hi : Option Int) (ω : Om) (Q : AV → Om → Prop) : slA (.r (.ref l)) lo hi ω Q = (∃ ds, datA ω (.r (.ref l)) = some (.lst ds) ∧ Q (.d (.lst (cutL ds lo hi))) ω) := rfl
theorem aSl_eq (te : AE) (tl th : AO) (ρ : SA) (ω : Om) (Q : AV → Om → Prop) : aSl te tl th ρ ω Q = (te ρ ω fun x ω1 => tl ρ ω1 fun lo ω2 => th ρ ω2 fun hi ω3 => slA x lo hi ω3 Q) := rfl
theorem frzA_d (ω : Om) (x : D) (K : D → Om → Prop) : frzA ω (.d x) K = K x ω := rfl
theorem frzA_r (ω : Om) (l : Addr) (K : D → Om → Prop) : frzA ω (.r (.ref l)) K = (match ω l with
    | some (.own xs) => ∃ ds, und xs = some ds ∧ K (.lst ds) (ω.put l (.frz ds))
    | some (.frz ds) => K (.lst ds) ω
    | _ => False) := rfl
theorem datA_d (ω : Om) (x : D) : datA ω (.d x) = some x := rfl
theorem datA_r (ω : Om) (l : Addr) : datA ω (.r (.ref l)) = (match ω l with
    | some (.own xs) => (und xs).map D.lst
    | some (.frz ds) => some (.lst ds)
    | _ => none) := rfl
theorem lstA_l (ω : Om) (ds : List D) : lstA ω (.d (.lst ds)) = some (ds.map AV.d) := rfl
theorem lstA_t (ω : Om) (ds : List D) : lstA ω (.d (.tup ds)) = none := rfl
theorem lstA_r (ω : Om) (l : Addr) : lstA ω (.r (.ref l)) = (match ω l with
    | some (.own xs) => some xs
    | some (.frz ds) => some (ds.map AV.d)
    | _ => none) := rfl
theorem tupA_t (ds : List D) : tupA (.d (.tup ds)) = some (ds.map AV.d) := rfl
theorem tupA_l (ds : List D) : tupA (.d (.lst ds)) = none := rfl
theorem tupA_r (v : V) : tupA (.r v) = none := rfl
theorem truA_b (ω : Om) (b : Bool) : truA ω (.d (.bl b)) = some b := rfl
theorem truA_i (ω : Om) (i : Int) : truA ω (.d (.int i)) = some (i != 0) := rfl
theorem truA_n (ω : Om) : truA ω (.d .non) = some false := rfl
theorem truA_t (ω : Om) (ds : List D) : truA ω (.d (.tup ds)) = some (!ds.isEmpty) := rfl
theorem truA_l (ω : Om) (ds : List D) : truA ω (.d (.lst ds)) = some (!ds.isEmpty) := by simp [truA, lstA]
theorem truA_r (ω : Om) (l : Addr) : truA ω (.r (.ref l)) = (lstA ω (.r (.ref l))).map fun xs => !xs.isEmpty := rfl
theorem und_cons (x : D) (r : List AV) : und (.d x :: r) = (und r).map (x :: ·) := rfl
theorem und_nil : und [] = some [] := rfl
theorem lenA_t (ω : Om) (ds : List D) : lenA ω (.d (.tup ds)) = some ds.length := by simp [lenA, tupA]
theorem lenA_l (ω : Om) (ds : List D) : lenA ω (.d (.lst ds)) = some ds.length := by simp [lenA, tupA, lstA]
theorem lenA_r (ω : Om) (l : Addr) : lenA ω (.r (.ref l)) = (lstA ω (.r (.ref l))).map List.length := rfl
theorem seqD_t (ds : List D) : seqD (.tup ds) = some ds := rfl
theorem seqD_l (ds : List D) : seqD (.lst ds) = some ds := rfl
theorem aForL_nil (g : AG) (tb : AS) (D : AEnds) (ρ : SA) (ω : Om) : aForL g tb D [] ρ ω = D.nx ρ ω := rfl
theorem aForL_cons (g : AG) (tb : AS) (D : AEnds) (a : AV) (as : List AV) (ρ : SA) (ω : Om) : aForL g tb D (a :: as) ρ ω = (g a ρ ω fun ρ1 ω1 => tb { nx := aForL g tb D as, ct := aForL g tb D as, bk := D.nx, rt := D.rt } ρ1 ω1) := rfl
theorem aLoop_nil (g : AG) (tc : AT) (l : AL) (xs : List AV) (ρ : SA) (ω : Om) (K : List AV → SA → Om → Prop) : aLoop g tc l [] xs ρ ω K = K xs ρ ω := rfl
theorem aLoop_cons (g : AG) (tc : AT) (l : AL) (a : AV) (as xs : List AV) (ρ : SA) (ω : Om) (K : List AV → SA → Om → Prop) : aLoop g tc l (a :: as) xs ρ ω K = (g a ρ ω fun ρ1 ω1 => tc ρ1 ω1 fun b ω2 => if b = true then l xs ρ1 ω2 (fun xs' ρ' ω' => aLoop g tc l as xs' ρ' ω' K) else aLoop g tc l as xs ρ1 ω2 K) := rfl
theorem for_ix {g : AG} {tb : AS} {D : AEnds} {as : List AV} {ρ : SA} {ω : Om} (I : Nat → SA → Om → Prop) (h0 : I 0 ρ ω)
    (hs : ∀ (i : Nat) (a : AV) (ρ : SA) (ω : Om) (N : SA → Om → Prop), as[i]? = some a → I i ρ ω → (∀ ρ' ω', I (i + 1) ρ' ω' → N ρ' ω') → g a ρ ω fun ρ1 ω1 => tb { nx := N, ct := N, bk := D.nx, rt := D.rt } ρ1 ω1)
    (hd : ∀ ρ ω, I as.length ρ ω → D.nx ρ ω) : aForL g tb D as ρ ω := by
  have key : ∀ (n i : Nat) (ρ : SA) (ω : Om), i + n = as.length → I i ρ ω → aForL g tb D (as.drop i) ρ ω := by
    intro n
    induction n with
    | zero => intro i ρ ω hi h; rw [List.drop_eq_nil_of_le (by omega)]; exact hd ρ ω (by rw [← hi]; exact h)
    | succ n ih =>
      intro i ρ ω hi h
      obtain ⟨a, ha, hdr⟩ := drop_cons (as := as) (i := i) (by omega)
      rw [hdr]
      exact hs i a ρ ω _ ha h fun ρ' ω' h' => ih (i + 1) ρ' ω' (by omega) h'
  simpa using key as.length 0 ρ ω (by omega) h0
theorem for_rng {g : AG} {tb : AS} {D : AEnds} {lo : Int} {n : Nat} {ρ : SA} {ω : Om} (I : Nat → SA → Om → Prop) (h0 : I 0 ρ ω)
    (hs : ∀ (i : Nat) (ρ : SA) (ω : Om) (N : SA → Om → Prop), i < n → I i ρ ω → (∀ ρ' ω', I (i + 1) ρ' ω' → N ρ' ω') → g (.d (.int (lo + (i : Nat)))) ρ ω fun ρ1 ω1 => tb { nx := N, ct := N, bk := D.nx, rt := D.rt } ρ1 ω1)
    (hd : ∀ ρ ω, I n ρ ω → D.nx ρ ω) : aForL g tb D (rngA lo n) ρ ω :=
  for_ix I h0 (fun i a ρ ω N ha h k => by
    unfold rngA at ha
    rw [List.getElem?_map, Option.map_eq_some_iff] at ha
    obtain ⟨j, h1, rfl⟩ := ha
    obtain ⟨hj, rfl⟩ := List.getElem?_eq_some_iff.mp h1
    simp only [List.getElem_range, List.length_range] at hj ⊢
    exact hs i ρ ω N hj h k) (fun ρ ω h => hd ρ ω (by simpa [rngA] using h))
theorem loop_ix {g : AG} {tc : AT} {l : AL} {as xs : List AV} {ρ : SA} {ω : Om} {K : List AV → SA → Om → Prop} (I : Nat → List AV → SA → Om → Prop) (h0 : I 0 xs ρ ω)
    (hs : ∀ (i : Nat) (a : AV) (xs : List AV) (ρ : SA) (ω : Om) (N : List AV → SA → Om → Prop), as[i]? = some a → I i xs ρ ω → (∀ xs' ρ' ω', I (i + 1) xs' ρ' ω' → N xs' ρ' ω') → g a ρ ω fun ρ1 ω1 => tc ρ1 ω1 fun b ω2 => if b = true then l xs ρ1 ω2 N else N xs ρ1 ω2)
    (hd : ∀ xs ρ ω, I as.length xs ρ ω → K xs ρ ω) : aLoop g tc l as xs ρ ω K := by
  have key : ∀ (n i : Nat) (xs : List AV) (ρ : SA) (ω : Om), i + n = as.length → I i xs ρ ω → aLoop g tc l (as.drop i) xs ρ ω K := by
    intro n
    induction n with
    | zero => intro i xs ρ ω hi h; rw [List.drop_eq_nil_of_le (by omega)]; exact hd xs ρ ω (by rw [← hi]; exact h)
    | succ n ih =>
      intro i xs ρ ω hi h
      obtain ⟨a, ha, hdr⟩ := drop_cons (as := as) (i := i) (by omega)
      rw [hdr]
      exact hs i a xs ρ ω (fun xs' ρ' ω' => aLoop g tc l (as.drop (i + 1)) xs' ρ' ω' K) ha h fun xs' ρ' ω' h' => ih (i + 1) xs' ρ' ω' (by omega) h'
  simpa using key as.length 0 xs ρ ω (by omega) h0
structure Pn where
  f : Int
  x : Int
  i : Int
  h : 0 ≤ f
def penO (c : Pn) : OC := .own [.d (.int c.f), .d (.int c.x), .d (.int c.i)]
def PenAt (ω : Om) (p : Addr) : Prop := ∃ c, ω p = some (penO c)
theorem PenAt.other {ω : Om} {p l : Addr} {o : OC} (h : PenAt ω p) (e : p ≠ l) : PenAt (ω.put l o) p := by
  obtain ⟨c, h⟩ := h
  exact ⟨c, by rw [Om.put_ne e]; exact h⟩
theorem PenAt.ne {ω : Om} {p l : Addr} (h : PenAt ω p) (e : ω l = none) : p ≠ l := fun z => by
  obtain ⟨c, h⟩ := h
  subst z
  rw [e] at h; cases h
theorem Rep.pen {F : Fs} {H : Hp} {ω : Om} {p : Addr} (rp : Rep F H ω) (h : PenAt ω p) : ∃ c : Pn, H p = some (.lst [.int c.f, .int c.x, .int c.i]) := by
  obtain ⟨c, h⟩ := h
  obtain ⟨vs, e1, e2⟩ := rp.own p _ h
  obtain ⟨v, r, rfl, h1, v2, r2, rfl, h2, v3, r3, rfl, h3, h4⟩ := e2
  cases h4
  cases rv_int h1
  cases rv_int h2
  cases rv_int h3
  exact ⟨c, e1⟩
theorem LP.pen {F : Fs} {H H' : Hp} {ω : Om} {Q : VK} {Q' : AV → Om → Prop} {p : Addr} (k : LP RV F H ω Q' Q) (rp : Rep F H ω) (h : PenAt ω p) (kp : Keep p H H') {f x i : Int} (hp : H' p = some (.lst [.int f, .int x, .int i])) (hf : 0 ≤ f) {d : D} {v : V} (hn : noL d = true) (hd : Dat H' d v)
    (q : ∀ c : Pn, Q' (.d d) (ω.put p (penO c))) : Q v H' := by
  obtain ⟨c0, h0⟩ := h
  have nF : F p = false := by
    cases e : F p with
    | false => rfl
    | true => have := (rp.hid p e).1; rw [h0] at this; cases this
  have fr : Fr F H ω H' (ω.put p (penO ⟨f, x, i, hf⟩)) := ⟨fun b o e1 e2 e3 => by
    have hb : b ≠ p := fun z => by subst z; rw [h0] at e1; cases e1
    exact ⟨kp b o hb e3, by rw [Om.put_ne hb]; exact e1⟩, fun b e => by
    obtain ⟨z1, vs, z2⟩ := rp.hid b e
    have hb : b ≠ p := fun z => by subst z; rw [nF] at e; cases e
    rw [z2, kp b _ hb z2]⟩
  have rp2 : Rep F H' (ω.put p (penO ⟨f, x, i, hf⟩)) := by
    refine ⟨fun l xs e => ?_, fun l ds e => ?_, fun b e => ?_, fun l ks e => (by
      have hl : l ≠ p := fun z => (by subst z; rw [Om.put_same] at e; cases e)
      rw [Om.put_ne hl] at e; obtain ⟨vs, e1, e2⟩ := rp.dic l ks e; exact ⟨vs, kp l _ hl e1, e2.same fr.same⟩)⟩
    · by_cases hl : l = p
      · subst hl
        rw [Om.put_same] at e
        cases e
        exact ⟨_, hp, _, _, rfl, by simp [RV, Dat], _, _, rfl, by simp [RV, Dat], _, _, rfl, by simp [RV, Dat], rfl⟩
      · rw [Om.put_ne hl] at e
        obtain ⟨vs, e1, e2⟩ := rp.own l xs e
        exact ⟨vs, kp l _ hl e1, e2.same fr.same⟩
    · by_cases hl : l = p
      · subst hl; rw [Om.put_same] at e; cases e
      · rw [Om.put_ne hl] at e
        exact (rp.frz l ds e).same fr.same
    · obtain ⟨z1, vs, z2⟩ := rp.hid b e
      have hb : b ≠ p := fun z => by subst z; rw [nF] at e; cases e
      exact ⟨by rw [Om.put_ne hb]; exact z1, vs, kp b _ hb z2⟩
  exact k (.d d) _ v H' rp2 fr (Dat.t rp2.stays hn hd) (q _)
end L2
namespace L2
open PySem PySem.Spec PyProof.Rows
section
variable {α : Type} (a b c e : α) (l : List α)
theorem atI_of {xs : List α} {x : α} (j : Nat) {i : Int} (hi : i = (j : Int)) (h : xs[j]? = some x) : atI xs i = some x := by
  subst hi
  have hj := (List.getElem?_eq_some_iff.mp h).1
  unfold atI ixN
  rw [if_pos (by omega), if_pos (by omega)]
  simpa using h
theorem atI_0 : atI (a :: l) 0 = some a := atI_of 0 rfl rfl
theorem atI_1 : atI (a :: b :: l) 1 = some b := atI_of 1 rfl rfl
theorem atI_2 : atI (a :: b :: c :: l) 2 = some c := atI_of 2 rfl rfl
theorem atI_3 : atI (a :: b :: c :: e :: l) 3 = some e := atI_of 3 rfl rfl
end
theorem sz1 : (1 ≤ sizeLine) = True := eq_true (by decide)
theorem sz2 : (2 ≤ sizeLine) = True := eq_true (by decide)
theorem sz3 : (3 ≤ sizeLine) = True := eq_true (by decide)
theorem sz4 : (4 ≤ sizeLine) = True := eq_true (by decide)
theorem sz5 : (5 ≤ sizeLine) = True := eq_true (by decide)
theorem sz6 : (6 ≤ sizeLine) = True := eq_true (by decide)
theorem sz7 : (7 ≤ sizeLine) = True := eq_true (by decide)
theorem sz8 : (8 ≤ sizeLine) = True := eq_true (by decide)
theorem sz9 : (9 ≤ sizeLine) = True := eq_true (by decide)
theorem sz10 : (10 ≤ sizeLine) = True := eq_true (by decide)
theorem sz11 : (11 ≤ sizeLine) = True := eq_true (by decide)
theorem sz12 : (12 ≤ sizeLine) = True := eq_true (by decide)
theorem ixN_30 : ixN 3 0 = some 0 := rfl
theorem ixN_31 : ixN 3 1 = some 1 := rfl
theorem ixN_32 : ixN 3 2 = some 2 := rfl
theorem eqD_int (a b : Int) : eqD (.int a) (.int b) = (a == b) := by simp [eqD]
theorem eqD_str (a b : Str) : eqD (.str a) (.str b) = (a == b) := by simp [eqD]
theorem eqD_bl (a b : Bool) : eqD (.bl a) (.bl b) = (a == b) := by simp [eqD]
theorem eqD_nn : eqD .non .non = true := by simp [eqD]
theorem eqD_tn (a : List D) : eqD (.tup a) .non = false := by simp [eqD]
theorem eqD_ln (a : List D) : eqD (.lst a) .non = false := by simp [eqD]
theorem dep_int (a : Int) : dep (.int a) = 0 := by simp [dep]
theorem dep_str (a : Str) : dep (.str a) = 0 := by simp [dep]
theorem dep_bl (a : Bool) : dep (.bl a) = 0 := by simp [dep]
theorem dep_non : dep .non = 0 := by simp [dep]
theorem intD_int (a : Int) : intD (.int a) = some a := rfl
theorem intD_bl (a : Bool) : intD (.bl a) = some (if a then 1 else 0) := rfl
theorem boolD_int (a : Int) : boolD (.int a) = some (a != 0) := rfl
theorem boolD_bl (a : Bool) : boolD (.bl a) = some a := rfl
end L2
set_option Elab.async false
set_option linter.all false
set_option autoImplicit false
set_option maxRecDepth 100000
set_option maxHeartbeats 1000000
namespace L2
open PySem PySem.Spec PyProof.Rows
def Om.only (ω' ω : Om) : Om := fun b => if (ω b).isSome = true then ω' b else none
def Ex (ω ω' : Om) : Prop := ∀ b, (ω b).isSome = true → ω' b = ω b
theorem Ex.refl (ω : Om) : Ex ω ω := fun _ _ => rfl
theorem Ex.trans {ω ω1 ω2 : Om} (a : Ex ω ω1) (b : Ex ω1 ω2) : Ex ω ω2 := fun c h => (b c (by rw [a c h]; exact h)).trans (a c h)
theorem Ex.none {ω ω' : Om} (h : Ex ω ω') {l : Addr} (e : ω' l = none) : ω l = none := by
  cases z : ω l with
  | none => rfl
  | some c => have := h l (by rw [z]; rfl); rw [e, z] at this; cases this
theorem Ex.new {ω ω' : Om} (h : Ex ω ω') {l : Addr} {c : OC} (e : ω' l = Option.none) : Ex ω (ω'.put l c) := fun b hb => by
  have : b ≠ l := fun z => by subst z; rw [h.none e] at hb; cases hb
  rw [Om.put_ne this]; exact h b hb
theorem Ex.over {ω ω' : Om} (h : Ex ω ω') {l : Addr} {c : OC} (e : ω l = Option.none) : Ex ω (ω'.put l c) := fun b hb => by
  have : b ≠ l := fun z => by subst z; rw [e] at hb; cases hb
  rw [Om.put_ne this]; exact h b hb
theorem Ex.put {ω ω' : Om} (h : Ex ω ω') {l : Addr} {c : OC} : Ex (ω.put l c) (ω'.put l c) := fun b hb => by
  by_cases z : b = l
  · subst z; rw [Om.put_same, Om.put_same]
  · rw [Om.put_ne z] at hb ⊢; rw [Om.put_ne z]; exact h b hb
theorem Ex.put2 {ω ω' : Om} {l : Addr} {c e : OC} (h : Ex (ω.put l c) ω') : Ex (ω.put l e) (ω'.put l e) := by
  have := h.put (l := l) (c := e)
  rwa [Om.put_put] at this
theorem Ex.pen {ω ω' : Om} {p : Addr} {c : Pn} (h : Ex (ω.put p (penO c)) ω') : PenAt ω' p := ⟨c, (h p (by rw [Om.put_same]; rfl)).trans Om.put_same⟩
theorem only_self (ω : Om) : ω.only ω = ω := by
  funext b; unfold Om.only
  cases e : ω b <;> simp
theorem only_put {ω ω' : Om} {p : Addr} {c : OC} (h : Ex (ω.put p c) ω') (hp : (ω p).isSome = true) : ω'.only ω = ω.put p c := by
  funext b; unfold Om.only
  by_cases hb : b = p
  · subst hb; rw [if_pos hp, h b (by rw [Om.put_same]; rfl)]
  · rw [Om.put_ne hb]
    cases e : ω b with
    | none => simp
    | some o => simp only [Option.isSome_some, if_true]; rw [h b (by rw [Om.put_ne hb, e]; rfl), Om.put_ne hb, e]
theorem PenAt.some {ω : Om} {p : Addr} (h : PenAt ω p) : (ω p).isSome = true := by obtain ⟨c, h⟩ := h; rw [h]; rfl
theorem Rep.only {F : Fs} {H : Hp} {ω ω' : Om} (rp : Rep F H ω') : Rep F H (ω'.only ω) ∧ Same (cut F H ω') (cut F H (ω'.only ω)) := by
  have ho : ∀ b, ow (ω' b) = false → ow ((ω'.only ω) b) = false := fun b h => by
    unfold Om.only
    split
    · exact h
    · rfl
  have sm : Same (cut F H ω') (cut F H (ω'.only ω)) := fun b o e => by
    obtain ⟨h, f, e⟩ := cut_some.mp e
    exact cut_some.mpr ⟨ho b h, f, e⟩
  have un : ∀ b c, (ω'.only ω) b = some c → ω' b = some c := fun b c e => by
    unfold Om.only at e
    split at e
    · exact e
    · cases e
  refine ⟨⟨fun l xs e => ?_, fun l ds e => (rp.frz l ds (un _ _ e)).same sm, fun b f => ?_, fun l ks e => (by obtain ⟨vs, e1, e2⟩ := rp.dic l ks (un _ _ e); exact ⟨vs, e1, e2.same sm⟩)⟩, sm⟩
  · obtain ⟨vs, e1, e2⟩ := rp.own l xs (un _ _ e)
    exact ⟨vs, e1, e2.same sm⟩
  · obtain ⟨h1, h2⟩ := rp.hid b f
    refine ⟨?_, h2⟩
    unfold Om.only
    rw [h1]; simp
theorem Fr.only {F : Fs} {H H' : Hp} {ω ω' : Om} (fr : Fr F H ω H' ω') : Fr F H ω H' (ω'.only ω) := ⟨fun b o h f e => by
  obtain ⟨x, y⟩ := fr.st b o h f e
  refine ⟨x, ?_⟩
  unfold Om.only
  split
  · exact y
  · rfl, fr.hd⟩
theorem Fun.okD {P : Program} {w : World} {K : PySem.W.Frag} {mg : Str → Option Value} {base : Heap} {x qual : Str} {st : Stmt} {f : Addr} {fd : FuncData} {N ps : List Str} {k : Nat} {sp : ASp} (F : Fun K x qual st f fd) (S : FnScope N ps (defScope st)) (len : ∀ xs ω Q, sp xs ω Q → xs.length = ps.length)
    (hbody : ∀ (cdv : Value) (A : Around) (outer : List Env) (s : Shared) (H : Hp) (E : XK), Room k (A.deeper (envOfC qual (defScope st) s.heap.objs.size f cdv)) →
      ∃ t t', PSs (cxOf CX0 P w K mg base N qual (defScope st) f cdv A outer s H E).nox (defBody st) t ∧ RefS t t' ∧ ∀ xs ω Q', sp xs ω Q' → t' { nx := fun _ ω' => Q' (.d .non) (ω'.only ω), rt := fun a ω' => ∃ d, a = .d d ∧ Q' (.d d) (ω'.only ω) } (startA N xs) ω) : FnOk P w K mg base CX0 (k + 1) f fd ps (lift sp) := by
  refine F.ok S (fun vs H Q E h => ?_) (fun cdv A outer s H vs Q E hr h => ?_)
  · obtain ⟨F, xs, ω, Q', rp, rv, h, _⟩ := h
    rw [rv.length, len xs ω Q' h]
  · obtain ⟨t, t', h1, h2, h3⟩ := hbody cdv A outer s H E hr
    obtain ⟨F, xs, ω, Q', rp, rv, h, kq⟩ := h
    refine ⟨t, h1, h2.run F H ω _ _ _ _ rp (RS.start rv) (h3 xs ω Q' h) ⟨?_, ?_, fun _ _ _ _ _ _ _ z => z.elim, fun _ _ _ _ _ _ _ z => z.elim⟩⟩
    · exact fun ρ' ω' σ' H' e1 e2 e3 q => kq (.d .non) (ω'.only ω) .non H' e1.only.1 e2.only (by simp [RV, Dat]) q
    · rintro a ω' v H' e1 e2 e3 ⟨d, rfl, q⟩
      exact kq (.d d) (ω'.only ω) v H' e1.only.1 e2.only (e3.same e1.only.2) q
def wl : Nat → List (List Int)
  | 0 => [[]]
  | n + 1 => (wl n).flatMap fun w => [w ++ [0], w ++ [1]]
theorem wl_len : ∀ n, (wl n).length = 2 ^ n
  | 0 => rfl
  | n + 1 => by
    have h : ∀ ws : List (List Int), (ws.flatMap fun w => [w ++ [0], w ++ [1]]).length = 2 * ws.length := fun ws => by
      induction ws with
      | nil => rfl
      | cons a r ih => rw [List.flatMap_cons, List.length_append, ih]; simp; omega
    rw [wl, h, wl_len n, Nat.pow_succ]; omega
theorem wl_mem : ∀ {n : Nat} {w : List Int}, w ∈ wl n → w.length = n ∧ ∀ x ∈ w, x = 0 ∨ x = 1
  | 0, w, h => by simp [wl] at h; rw [h]; simp
  | n + 1, w, h => by
    simp only [wl, List.mem_flatMap] at h
    obtain ⟨v, hv, h⟩ := h
    obtain ⟨h1, h2⟩ := wl_mem hv
    simp only [List.mem_cons, List.not_mem_nil, or_false] at h
    rcases h with rfl | rfl <;> refine ⟨by simp [h1], fun x hx => ?_⟩ <;> rcases List.mem_append.mp hx with hx | hx
    · exact h2 x hx
    · rw [List.mem_singleton.mp hx]; exact .inl rfl
    · exact h2 x hx
    · rw [List.mem_singleton.mp hx]; exact .inr rfl
theorem wl_le {n : Nat} (h : n ≤ 5) : (wl n).length ≤ 32 := by
  rw [wl_len]
  exact Nat.pow_le_pow_right (by decide) h
theorem wl_nd0 : ∀ n : Fin 6, (wl n.val).Nodup := by decide +kernel
theorem wl_nd {n : Nat} (h : n ≤ 5) : (wl n).Nodup := wl_nd0 ⟨n, by omega⟩
def Wds (n : Nat) (ws : List (List Int)) : Prop := ws.Nodup ∧ ∀ w ∈ ws, w ∈ wl n
theorem Wds.le {n : Nat} {ws : List (List Int)} (h : Wds n ws) (hn : n ≤ 5) : ws.length ≤ 32 := by
  have := h.1.length_le_of_subset (l₂ := wl n) (fun w hw => h.2 w hw)
  have := wl_le hn
  omega
theorem Wds.sub {n : Nat} {ws : List (List Int)} (h : ws.Sublist (wl n)) (hn : n ≤ 5) : Wds n ws := ⟨h.nodup (wl_nd hn), fun w hw => h.mem hw⟩
theorem eqDs_ints : ∀ a b : List Int, eqDs (a.map D.int) (b.map D.int) = decide (a = b)
  | [], [] => by simp [eqDs]
  | [], _ :: _ => by simp [eqDs]
  | _ :: _, [] => by simp [eqDs]
  | x :: a, y :: b => by
    simp only [List.map_cons, eqDs, eqD, eqDs_ints a b, List.cons.injEq]
    by_cases h1 : x = y <;> by_cases h2 : a = b <;> simp [h1, h2]
theorem eqD_wd (a b : List Int) : eqD (wdD a) (wdD b) = decide (a = b) := by simp only [wdD, eqD]; exact eqDs_ints a b
theorem dep_wd (w : List Int) : dep (wdD w) = 1 := by simp [wdD, dep, deps_ints]
theorem deps_wds (ws : List (List Int)) : deps (ws.map wdD) ≤ 1 := deps_le fun d hd => by
  obtain ⟨w, _, rfl⟩ := List.mem_map.mp hd
  rw [dep_wd]
  exact Nat.le_refl _
theorem map_nth {α : Type} {f : α → AV} {xs : List α} {i : Int} (h0 : 0 ≤ i) (h1 : i < xs.length) : ∃ x, x ∈ xs ∧ xs[i.toNat]? = some x ∧ atI (xs.map f) i = some (f x) := by
  obtain ⟨j, rfl⟩ := Int.eq_ofNat_of_zero_le h0
  have hj : j < xs.length := by omega
  exact ⟨xs[j], List.getElem_mem hj, by simp [List.getElem?_eq_getElem hj], atI_of j rfl (by rw [List.getElem?_map, List.getElem?_eq_getElem hj]; rfl)⟩
theorem aAdd_wd (x : List Int) (b : Int) (ω : Om) (Q : AV → Om → Prop) : aAdd (.d (wdD x)) (.d (.tup [.int b])) ω Q = (x.length + 1 ≤ sizeLine ∧ Q (.d (wdD (x ++ [b]))) ω) := by
  unfold wdD
  rw [aAdd_tup]
  simp
theorem aAdd_wds (x y : List Int) (ω : Om) (Q : AV → Om → Prop) : aAdd (.d (wdD x)) (.d (wdD y)) ω Q = (x.length + y.length ≤ sizeLine ∧ Q (.d (wdD (x ++ y))) ω) := by
  unfold wdD
  rw [aAdd_tup]
  simp
theorem tupA_wd (x : List Int) : tupA (.d (wdD x)) = some ((x.map D.int).map AV.d) := rfl
theorem lstA_wd (ω : Om) (x : List Int) : lstA ω (.d (wdD x)) = none := rfl
theorem lenA_wd (ω : Om) (x : List Int) : lenA ω (.d (wdD x)) = some x.length := by simp [lenA, tupA_wd]
theorem seqD_wd (x : List Int) : seqD (wdD x) = some (x.map D.int) := rfl
theorem cutL_map {α β : Type} (f : α → β) (xs : List α) (lo hi : Option Int) : cutL (xs.map f) lo hi = (cutL xs lo hi).map f := by
  unfold cutL
  rw [List.length_map, List.map_take, List.map_drop]
theorem slA_wd (x : List Int) (lo hi : Option Int) (ω : Om) (Q : AV → Om → Prop) : slA (.d (wdD x)) lo hi ω Q = Q (.d (wdD (cutL x lo hi))) ω := by
  show Q (.d (.tup (cutL (x.map D.int) lo hi))) ω = _
  rw [cutL_map]; rfl
theorem truA_wd (ω : Om) (x : List Int) : truA ω (.d (wdD x)) = some (!x.isEmpty) := by
  show some (!(x.map D.int).isEmpty) = _
  simp
inductive Sy where
  | is (i b : Int)
  | jn (an : Bool) (l r : Sy)
namespace Sy
def d : Sy → D
  | .is i b => .tup [.str "is", .int i, .int b]
  | .jn an l r => .tup [.str (if an then "and" else "or"), l.d, r.d]
def ok (n : Nat) : Sy → Prop
  | .is i b => 0 ≤ i ∧ i < n ∧ (b = 0 ∨ b = 1)
  | .jn _ l r => l.ok n ∧ r.ok n
def dp : Sy → Nat
  | .is _ _ => 0
  | .jn _ l r => 1 + max l.dp r.dp
def up : Sy → Prop
  | .is _ b => b = 1
  | .jn _ l r => l.up ∧ r.up
def val (w : List Int) : Sy → Bool
  | .is i b => decide (w.getD i.toNat 0 = b)
  | .jn an l r => if an then val w l && val w r else val w l || val w r
end Sy
inductive Ta where
  | en (i : Int)
  | nd (y : Bool) (ws : List (List Int)) (l r : Ta)
namespace Ta
def d : Ta → D
  | .en i => .tup [.str "end", .int i]
  | .nd y ws l r => .tup [.str (if y then "yes" else "no"), .tup (ws.map wdD), l.d, r.d]
def ok (n : Nat) : Ta → Prop
  | .en i => 0 ≤ i ∧ i < n
  | .nd _ ws l r => Wds n ws ∧ l.ok n ∧ r.ok n
def dp : Ta → Nat
  | .en _ => 0
  | .nd _ _ l r => 1 + max l.dp r.dp
def size : Ta → Nat
  | .en _ => 1
  | .nd _ _ l r => l.size + r.size + 1
def bit (y n : List Int) (hy : Bool) (ws : List (List Int)) : Bool := decide ((if hy then y else n) ∈ ws)
def fin (y n : List Int) : Ta → Int
  | .en i => i
  | .nd h ws a b => if bit y n h ws then fin y n b else fin y n a
end Ta
theorem log2_le {i : Int} (h0 : 0 ≤ i) (h1 : i ≤ 64) : i.natAbs.log2 ≤ 6 := by
  have h8 : ∀ n : Fin 65, n.val.log2 ≤ 6 := by decide +kernel
  exact h8 ⟨i.natAbs, by omega⟩
theorem wt_bits : ∀ {w : List Int}, (∀ x ∈ w, x = 0 ∨ x = 1) → wts (w.map D.int) ≤ 6 * w.length ∧ fits (w.map D.int) = true
  | [], _ => by simp [wts, fits]
  | a :: w, h => by
    obtain ⟨i1, i2⟩ := wt_bits fun x hx => h x (List.mem_cons_of_mem _ hx)
    have e : a.natAbs.log2 = 0 := by rcases h a List.mem_cons_self with rfl | rfl <;> decide
    simp only [List.map_cons, wts, fits, wt, fit, i2, e, List.length_cons]
    exact ⟨by omega, rfl⟩
theorem wt_wd {n : Nat} {w : List Int} (hn : n ≤ 5) (h : w ∈ wl n) : wt (wdD w) ≤ 40 ∧ fit (wdD w) = true := by
  obtain ⟨h1, h2⟩ := wl_mem h
  obtain ⟨i1, i2⟩ := wt_bits h2
  simp only [wdD, wt, fit, i2]
  exact ⟨by omega, trivial⟩
theorem wt_ws {n : Nat} (hn : n ≤ 5) : ∀ {ws : List (List Int)}, (∀ w ∈ ws, w ∈ wl n) → wts (ws.map wdD) ≤ 50 * ws.length ∧ fits (ws.map wdD) = true
  | [], _ => by simp [wts, fits]
  | a :: ws, h => by
    obtain ⟨i1, i2⟩ := wt_ws hn fun w hw => h w (List.mem_cons_of_mem _ hw)
    obtain ⟨b1, b2⟩ := wt_wd hn (h a List.mem_cons_self)
    simp only [List.map_cons, wts, fits, b1, b2, i2, List.length_cons]
    exact ⟨by omega, rfl⟩
theorem rep_len : (reprText ("end" : Str)).length = 5 ∧ (reprText ("yes" : Str)).length = 5 ∧ (reprText ("no" : Str)).length = 4 := by decide +kernel
theorem Ta.rep {n : Nat} (hn : n ≤ 5) : ∀ {u : Ta}, u.ok n → wt u.d ≤ 3000 * u.size ∧ fit u.d = true ∧ dep u.d ≤ u.dp + 3
  | .en i, ⟨i0, i1⟩ => by
    have hl := log2_le i0 (by omega)
    simp only [Ta.d, wt, wts, fit, fits, dep, deps, Ta.size, Ta.dp, rep_len.1, Bool.and_true, Bool.true_and, decide_eq_true_eq]
    omega
  | .nd y ws a b, ⟨hw, ha, hb⟩ => by
    obtain ⟨a1, a2, a3⟩ := Ta.rep hn ha
    obtain ⟨b1, b2, b3⟩ := Ta.rep hn hb
    obtain ⟨w1, w2⟩ := wt_ws (ws := ws) hn hw.2
    have w3 := deps_wds ws
    have wl' := hw.le hn
    have hr : (reprText (if y then "yes" else "no" : Str)).length ≤ 5 := by cases y <;> simp [rep_len]
    simp only [Ta.d, wt, wts, fit, fits, dep, deps, Ta.size, Ta.dp, a2, b2, w2, Bool.and_true, true_and]
    refine ⟨by omega, ?_⟩
    omega
theorem sne_0_1 : (("end" : Str) = ("yes" : Str)) = False := eq_false (by decide +kernel)
theorem sne_0_2 : (("end" : Str) = ("no" : Str)) = False := eq_false (by decide +kernel)
theorem sne_0_3 : (("end" : Str) = ("is" : Str)) = False := eq_false (by decide +kernel)
theorem sne_0_4 : (("end" : Str) = ("and" : Str)) = False := eq_false (by decide +kernel)
theorem sne_0_5 : (("end" : Str) = ("or" : Str)) = False := eq_false (by decide +kernel)
theorem sne_0_6 : (("end" : Str) = ("any" : Str)) = False := eq_false (by decide +kernel)
theorem sne_0_7 : (("end" : Str) = ("rising" : Str)) = False := eq_false (by decide +kernel)
theorem sne_0_8 : (("end" : Str) = ("leaves" : Str)) = False := eq_false (by decide +kernel)
theorem sne_0_9 : (("end" : Str) = ("depth" : Str)) = False := eq_false (by decide +kernel)
theorem sne_1_0 : (("yes" : Str) = ("end" : Str)) = False := eq_false (by decide +kernel)
theorem sne_1_2 : (("yes" : Str) = ("no" : Str)) = False := eq_false (by decide +kernel)
theorem sne_1_3 : (("yes" : Str) = ("is" : Str)) = False := eq_false (by decide +kernel)
theorem sne_1_4 : (("yes" : Str) = ("and" : Str)) = False := eq_false (by decide +kernel)
theorem sne_1_5 : (("yes" : Str) = ("or" : Str)) = False := eq_false (by decide +kernel)
theorem sne_1_6 : (("yes" : Str) = ("any" : Str)) = False := eq_false (by decide +kernel)
theorem sne_1_7 : (("yes" : Str) = ("rising" : Str)) = False := eq_false (by decide +kernel)
theorem sne_1_8 : (("yes" : Str) = ("leaves" : Str)) = False := eq_false (by decide +kernel)
theorem sne_1_9 : (("yes" : Str) = ("depth" : Str)) = False := eq_false (by decide +kernel)
theorem sne_2_0 : (("no" : Str) = ("end" : Str)) = False := eq_false (by decide +kernel)
theorem sne_2_1 : (("no" : Str) = ("yes" : Str)) = False := eq_false (by decide +kernel)
theorem sne_2_3 : (("no" : Str) = ("is" : Str)) = False := eq_false (by decide +kernel)
theorem sne_2_4 : (("no" : Str) = ("and" : Str)) = False := eq_false (by decide +kernel)
theorem sne_2_5 : (("no" : Str) = ("or" : Str)) = False := eq_false (by decide +kernel)
theorem sne_2_6 : (("no" : Str) = ("any" : Str)) = False := eq_false (by decide +kernel)
theorem sne_2_7 : (("no" : Str) = ("rising" : Str)) = False := eq_false (by decide +kernel)
theorem sne_2_8 : (("no" : Str) = ("leaves" : Str)) = False := eq_false (by decide +kernel)
theorem sne_2_9 : (("no" : Str) = ("depth" : Str)) = False := eq_false (by decide +kernel)
theorem sne_3_0 : (("is" : Str) = ("end" : Str)) = False := eq_false (by decide +kernel)
theorem sne_3_1 : (("is" : Str) = ("yes" : Str)) = False := eq_false (by decide +kernel)
theorem sne_3_2 : (("is" : Str) = ("no" : Str)) = False := eq_false (by decide +kernel)
theorem sne_3_4 : (("is" : Str) = ("and" : Str)) = False := eq_false (by decide +kernel)
theorem sne_3_5 : (("is" : Str) = ("or" : Str)) = False := eq_false (by decide +kernel)
theorem sne_3_6 : (("is" : Str) = ("any" : Str)) = False := eq_false (by decide +kernel)
theorem sne_3_7 : (("is" : Str) = ("rising" : Str)) = False := eq_false (by decide +kernel)
theorem sne_3_8 : (("is" : Str) = ("leaves" : Str)) = False := eq_false (by decide +kernel)
theorem sne_3_9 : (("is" : Str) = ("depth" : Str)) = False := eq_false (by decide +kernel)
theorem sne_4_0 : (("and" : Str) = ("end" : Str)) = False := eq_false (by decide +kernel)
theorem sne_4_1 : (("and" : Str) = ("yes" : Str)) = False := eq_false (by decide +kernel)
theorem sne_4_2 : (("and" : Str) = ("no" : Str)) = False := eq_false (by decide +kernel)
theorem sne_4_3 : (("and" : Str) = ("is" : Str)) = False := eq_false (by decide +kernel)
theorem sne_4_5 : (("and" : Str) = ("or" : Str)) = False := eq_false (by decide +kernel)
theorem sne_4_6 : (("and" : Str) = ("any" : Str)) = False := eq_false (by decide +kernel)
theorem sne_4_7 : (("and" : Str) = ("rising" : Str)) = False := eq_false (by decide +kernel)
theorem sne_4_8 : (("and" : Str) = ("leaves" : Str)) = False := eq_false (by decide +kernel)
theorem sne_4_9 : (("and" : Str) = ("depth" : Str)) = False := eq_false (by decide +kernel)
theorem sne_5_0 : (("or" : Str) = ("end" : Str)) = False := eq_false (by decide +kernel)
theorem sne_5_1 : (("or" : Str) = ("yes" : Str)) = False := eq_false (by decide +kernel)
theorem sne_5_2 : (("or" : Str) = ("no" : Str)) = False := eq_false (by decide +kernel)
theorem sne_5_3 : (("or" : Str) = ("is" : Str)) = False := eq_false (by decide +kernel)
theorem sne_5_4 : (("or" : Str) = ("and" : Str)) = False := eq_false (by decide +kernel)
theorem sne_5_6 : (("or" : Str) = ("any" : Str)) = False := eq_false (by decide +kernel)
theorem sne_5_7 : (("or" : Str) = ("rising" : Str)) = False := eq_false (by decide +kernel)
theorem sne_5_8 : (("or" : Str) = ("leaves" : Str)) = False := eq_false (by decide +kernel)
theorem sne_5_9 : (("or" : Str) = ("depth" : Str)) = False := eq_false (by decide +kernel)
theorem sne_6_0 : (("any" : Str) = ("end" : Str)) = False := eq_false (by decide +kernel)
theorem sne_6_1 : (("any" : Str) = ("yes" : Str)) = False := eq_false (by decide +kernel)
theorem sne_6_2 : (("any" : Str) = ("no" : Str)) = False := eq_false (by decide +kernel)
theorem sne_6_3 : (("any" : Str) = ("is" : Str)) = False := eq_false (by decide +kernel)
theorem sne_6_4 : (("any" : Str) = ("and" : Str)) = False := eq_false (by decide +kernel)
theorem sne_6_5 : (("any" : Str) = ("or" : Str)) = False := eq_false (by decide +kernel)
theorem sne_6_7 : (("any" : Str) = ("rising" : Str)) = False := eq_false (by decide +kernel)
theorem sne_6_8 : (("any" : Str) = ("leaves" : Str)) = False := eq_false (by decide +kernel)
theorem sne_6_9 : (("any" : Str) = ("depth" : Str)) = False := eq_false (by decide +kernel)
theorem sne_7_0 : (("rising" : Str) = ("end" : Str)) = False := eq_false (by decide +kernel)
theorem sne_7_1 : (("rising" : Str) = ("yes" : Str)) = False := eq_false (by decide +kernel)
theorem sne_7_2 : (("rising" : Str) = ("no" : Str)) = False := eq_false (by decide +kernel)
theorem sne_7_3 : (("rising" : Str) = ("is" : Str)) = False := eq_false (by decide +kernel)
theorem sne_7_4 : (("rising" : Str) = ("and" : Str)) = False := eq_false (by decide +kernel)
theorem sne_7_5 : (("rising" : Str) = ("or" : Str)) = False := eq_false (by decide +kernel)
theorem sne_7_6 : (("rising" : Str) = ("any" : Str)) = False := eq_false (by decide +kernel)
theorem sne_7_8 : (("rising" : Str) = ("leaves" : Str)) = False := eq_false (by decide +kernel)
theorem sne_7_9 : (("rising" : Str) = ("depth" : Str)) = False := eq_false (by decide +kernel)
theorem sne_8_0 : (("leaves" : Str) = ("end" : Str)) = False := eq_false (by decide +kernel)
theorem sne_8_1 : (("leaves" : Str) = ("yes" : Str)) = False := eq_false (by decide +kernel)
theorem sne_8_2 : (("leaves" : Str) = ("no" : Str)) = False := eq_false (by decide +kernel)
theorem sne_8_3 : (("leaves" : Str) = ("is" : Str)) = False := eq_false (by decide +kernel)
theorem sne_8_4 : (("leaves" : Str) = ("and" : Str)) = False := eq_false (by decide +kernel)
theorem sne_8_5 : (("leaves" : Str) = ("or" : Str)) = False := eq_false (by decide +kernel)
theorem sne_8_6 : (("leaves" : Str) = ("any" : Str)) = False := eq_false (by decide +kernel)
theorem sne_8_7 : (("leaves" : Str) = ("rising" : Str)) = False := eq_false (by decide +kernel)
theorem sne_8_9 : (("leaves" : Str) = ("depth" : Str)) = False := eq_false (by decide +kernel)
theorem sne_9_0 : (("depth" : Str) = ("end" : Str)) = False := eq_false (by decide +kernel)
theorem sne_9_1 : (("depth" : Str) = ("yes" : Str)) = False := eq_false (by decide +kernel)
theorem sne_9_2 : (("depth" : Str) = ("no" : Str)) = False := eq_false (by decide +kernel)
theorem sne_9_3 : (("depth" : Str) = ("is" : Str)) = False := eq_false (by decide +kernel)
theorem sne_9_4 : (("depth" : Str) = ("and" : Str)) = False := eq_false (by decide +kernel)
theorem sne_9_5 : (("depth" : Str) = ("or" : Str)) = False := eq_false (by decide +kernel)
theorem sne_9_6 : (("depth" : Str) = ("any" : Str)) = False := eq_false (by decide +kernel)
theorem sne_9_7 : (("depth" : Str) = ("rising" : Str)) = False := eq_false (by decide +kernel)
theorem sne_9_8 : (("depth" : Str) = ("leaves" : Str)) = False := eq_false (by decide +kernel)
section
variable {ω : Om} {p l l1 l2 : Addr} {c c' A A' B B' : OC}
theorem put_free {q : Addr} {o : OC} (h : ω.put p o q = none) : q ≠ p ∧ ω q = none := by
  have : q ≠ p := fun z => by subst z; rw [Om.put_same] at h; cases h
  exact ⟨this, by rwa [Om.put_ne this] at h⟩
end
structure Ne4 (p l1 l2 l3 : Addr) : Prop where
  p1 : p ≠ l1
  p2 : p ≠ l2
  p3 : p ≠ l3
  a : l1 ≠ l2
  b : l1 ≠ l3
  c : l2 ≠ l3
section
variable {ω : Om} {p l1 l2 l3 : Addr} {c c' A A' B B' C C' : OC} (h : Ne4 p l1 l2 l3)
include h
end
end L2
set_option Elab.async false
set_option linter.all false
set_option autoImplicit false
set_option maxRecDepth 100000
set_option maxHeartbeats 1000000
namespace L2
open PySem PySem.Spec PyProof.Rows
section
variable {P : Program} {w : World} {K : PySem.W.Frag} {mg : Str → Option Value} {base : Heap}
structure Cs (n : Nat) (ys zs : List (List Int)) : Prop where
  y : Wds n ys
  z : Wds n zs
  y1 : ys ≠ []
  z1 : zs ≠ []
theorem seq_cut {t u : AS} {D : AEnds} {ρ : SA} {ω : Om} (I : SA → Om → Prop) (h1 : ∀ N : SA → Om → Prop, (∀ ρ' ω', I ρ' ω' → N ρ' ω') → t { D with nx := N } ρ ω) (h2 : ∀ ρ' ω', I ρ' ω' → u D ρ' ω') : aSeq t u D ρ ω := h1 (u D) h2
theorem cutL_sub {α : Type} (xs : List α) (lo hi : Option Int) : (cutL xs lo hi).Sublist xs := (List.take_sublist _ _).trans (List.drop_sublist _ _)
theorem aPop_eq2 (to : AE) (ρ : SA) (ω : Om) (Q : AV → Om → Prop) : aPop to ρ ω Q = (to ρ ω fun x ω1 => ∃ l xs y, x = .r (.ref l) ∧ ω1 l = some (.own xs) ∧ xs.getLast? = some y ∧ Q y (ω1.put l (.own xs.dropLast))) := by
  unfold aPop
  simp only [List.getLast?_eq_getElem?]
theorem emp_concat {α : Type} (A : List α) (x : α) : (A ++ [x]).isEmpty = false := by cases A <;> rfl
theorem last_concat {α : Type} (A : List α) (x : α) : (A ++ [x]).getLast? = some x := by simp
theorem dropl_concat {α : Type} (A : List α) (x : α) : (A ++ [x]).dropLast = A := by simp
end
end L2
set_option Elab.async false
set_option linter.all false
set_option autoImplicit false
set_option maxRecDepth 100000
set_option maxHeartbeats 1000000
namespace L2
open PySem PySem.Spec PyProof.Rows
def cloA (f : Addr) (caps : List V) (cA : List AV) : AV := .p (.ref f) (fun G => RVs G cA caps)
def aCallV (i : Nat) (f : Addr) (caps : List V) (cA : List AV) (sp : ASp) (t : AA) : AE := fun ρ ω Q => ρ[i]? = some (some (cloA f caps cA)) ∧ t ρ ω fun xs ω1 => sp xs ω1 Q
theorem aCallV_eq (i : Nat) (f : Addr) (caps : List V) (cA : List AV) (sp : ASp) (t : AA) (ρ : SA) (ω : Om) (Q : AV → Om → Prop) : aCallV i f caps cA sp t ρ ω Q = (ρ[i]? = some (some (cloA f caps cA)) ∧ t ρ ω fun xs ω1 => sp xs ω1 Q) := rfl
def capA : List Nat → SA → Option (List AV)
  | [], _ => some []
  | j :: js, ρ => match ρ[j]?, capA js ρ with
    | some (some a), some r => some (a :: r)
    | _, _ => none
def aFold (j1 j2 : List Nat) (s1 s2 : List AV → ASp) (ta tb : AE) : AE := fun ρ ω Q => ta ρ ω fun x ω0 => tb ρ ω0 fun y ω1 => ∃ (lw : Str) (u : Tr) (g : Tr → D) (a1 a2 : List AV), y = .d (.str lw) ∧ x = .d u.d ∧ u.ok lw ∧ u.size ≤ 100000 ∧ capA j1 ρ = some a1 ∧ capA j2 ρ = some a2 ∧
  (∀ x, Tr.lf x ∈ u.post → ∀ ω1 Q1, Q1 (.d (g (.lf x))) ω1 → s1 a1 [.d (Tr.lf x).d] ω1 Q1) ∧ (∀ x l r, Tr.nd x l r ∈ u.post → ∀ ω1 Q1, Q1 (.d (g (.nd x l r))) ω1 → s2 a2 [.d (Tr.nd x l r).d, .d (g l), .d (g r)] ω1 Q1) ∧ Q (.d (g u)) ω1
theorem aFold_eq (j1 j2 : List Nat) (s1 s2 : List AV → ASp) (ta tb : AE) (ρ : SA) (ω : Om) (Q : AV → Om → Prop) : aFold j1 j2 s1 s2 ta tb ρ ω Q = (ta ρ ω fun x ω0 => tb ρ ω0 fun y ω1 => ∃ (lw : Str) (u : Tr) (g : Tr → D) (a1 a2 : List AV), y = .d (.str lw) ∧ x = .d u.d ∧ u.ok lw ∧ u.size ≤ 100000 ∧ capA j1 ρ = some a1 ∧ capA j2 ρ = some a2 ∧
  (∀ x, Tr.lf x ∈ u.post → ∀ ω1 Q1, Q1 (.d (g (.lf x))) ω1 → s1 a1 [.d (Tr.lf x).d] ω1 Q1) ∧ (∀ x l r, Tr.nd x l r ∈ u.post → ∀ ω1 Q1, Q1 (.d (g (.nd x l r))) ω1 → s2 a2 [.d (Tr.nd x l r).d, .d (g l), .d (g r)] ω1 Q1) ∧ Q (.d (g u)) ω1) := rfl
theorem FunT.okD {P : Program} {w : World} {K : PySem.W.Frag} {mg : Str → Option Value} {base : Heap} {x qual : Str} {st : Stmt} {f c p : Addr} {fd : FuncData} {N ps : List Str} {k : Nat} {sp : ASp} (F : FunT K x qual st f fd c p) (S : FnScope N ps (defScope st)) (len : ∀ xs ω Q, sp xs ω Q → xs.length = ps.length)
    (hbody : ∀ (A : Around) (outer : List Env) (s : Shared) (H : Hp) (E : XK), Room k (A.deeper (envOfC qual (defScope st) s.heap.objs.size f (.ref c))) →
      ∃ t t', PSs (cxOf CX0 P w K mg base N qual (defScope st) f (.ref c) A outer s H E).nox (defBody st) t ∧ RefS t t' ∧ ∀ xs ω Q', sp xs ω Q' → t' { nx := fun _ ω' => Q' (.d .non) (ω'.only ω), rt := fun a ω' => ∃ d, a = .d d ∧ Q' (.d d) (ω'.only ω) } (startA N xs) ω) : FnOk P w K mg base CX0 (k + 1) f fd ps (lift sp) := by
  refine F.ok S (fun vs H Q E h => ?_) (fun A outer s H vs Q E hr h => ?_)
  · obtain ⟨F, xs, ω, Q', rp, rv, h, _⟩ := h
    rw [rv.length, len xs ω Q' h]
  · obtain ⟨t, t', h1, h2, h3⟩ := hbody A outer s H E hr
    obtain ⟨F, xs, ω, Q', rp, rv, h, kq⟩ := h
    refine ⟨t, h1, h2.run F H ω _ _ _ _ rp (RS.start rv) (h3 xs ω Q' h) ⟨?_, ?_, fun _ _ _ _ _ _ _ z => z.elim, fun _ _ _ _ _ _ _ z => z.elim⟩⟩
    · exact fun ρ' ω' σ' H' e1 e2 e3 q => kq (.d .non) (ω'.only ω) .non H' e1.only.1 e2.only (by simp [RV, Dat]) q
    · rintro a ω' v H' e1 e2 e3 ⟨d, rfl, q⟩
      exact kq (.d d) (ω'.only ω) v H' e1.only.1 e2.only (e3.same e1.only.2) q
end L2
set_option Elab.async false
set_option linter.all false
set_option autoImplicit false
set_option maxRecDepth 100000
set_option maxHeartbeats 1000000
namespace L2
open PySem PySem.Spec PyProof.Rows
structure RefR (t2 t : TS) (t' : AS) : Prop where
  run : ∀ (F : Fs) (H : Hp) (ω : Om) (σ : St) (ρ : SA) (D : Ends) (D' : AEnds), Rep F H ω → RS (cut F H ω) ρ σ → t' D' ρ ω → LE F H ω D' { D with nx := t2 D } → t D σ H
section
variable {t t1 t2 u : TS} {t1' u' : AS} {N : SA → Om → Prop} {m : Nat}
end
end L2
set_option Elab.async false
set_option linter.all false
set_option autoImplicit false
set_option maxRecDepth 100000
set_option maxHeartbeats 1000000
namespace L2
open PySem PySem.Spec PyProof.Rows
def bestL (c : Int → Int → Bool) (ns : List Int) : Int := ns.getD (argBest (fun i j => c (ns.getD i 0) (ns.getD j 0)) (ns.length - 1)) 0
def maxL : List Int → Int := bestL fun a b => decide (a > b)
def minL : List Int → Int := bestL fun a b => decide (a < b)
def aMaxU : AC := fun xs ω Q => ∃ (x : AV) (d : D) (ns : List Int), xs = [x] ∧ datA ω x = some d ∧ seqD d = some (ns.map D.int) ∧ ns ≠ [] ∧ Q (.d (.int (maxL ns))) ω
def aMinU : AC := fun xs ω Q => ∃ (x : AV) (d : D) (ns : List Int), xs = [x] ∧ datA ω x = some d ∧ seqD d = some (ns.map D.int) ∧ ns ≠ [] ∧ Q (.d (.int (minL ns))) ω
theorem aMaxU_eq (xs : List AV) (ω : Om) (Q : AV → Om → Prop) : aMaxU xs ω Q = (∃ (x : AV) (d : D) (ns : List Int), xs = [x] ∧ datA ω x = some d ∧ seqD d = some (ns.map D.int) ∧ ns ≠ [] ∧ Q (.d (.int (maxL ns))) ω) := rfl
theorem aMinU_eq (xs : List AV) (ω : Om) (Q : AV → Om → Prop) : aMinU xs ω Q = (∃ (x : AV) (d : D) (ns : List Int), xs = [x] ∧ datA ω x = some d ∧ seqD d = some (ns.map D.int) ∧ ns ≠ [] ∧ Q (.d (.int (minL ns))) ω) := rfl
def aRepO : A2 := fun x y ω Q => ∃ xs k, lstA ω x = some xs ∧ y = .d (.int k) ∧ -(2 ^ 63) ≤ k ∧ k < 2 ^ 63 ∧ xs.length * k.toNat ≤ sizeLine ∧ ∀ p, ω p = none → Q (.r (.ref p)) (ω.put p (.own (List.replicate k.toNat xs).flatten))
theorem aRepO_eq (x y : AV) (ω : Om) (Q : AV → Om → Prop) : aRepO x y ω Q = (∃ xs k, lstA ω x = some xs ∧ y = .d (.int k) ∧ -(2 ^ 63) ≤ k ∧ k < 2 ^ 63 ∧ xs.length * k.toNat ≤ sizeLine ∧ ∀ p, ω p = none → Q (.r (.ref p)) (ω.put p (.own (List.replicate k.toNat xs).flatten))) := rfl
def aFoldD (j1 : List Nat) (s1 : List AV → ASp) (s2 : ASp) (ta tb : AE) : AE := fun ρ ω Q => ta ρ ω fun x ω0 => tb ρ ω0 fun y ω1 => ∃ (lw : Str) (u : Tr) (g : Tr → D) (a1 : List AV), y = .d (.str lw) ∧ x = .d u.d ∧ u.ok lw ∧ u.size ≤ 100000 ∧ capA j1 ρ = some a1 ∧
  (∀ x, Tr.lf x ∈ u.post → ∀ ω1 Q1, Q1 (.d (g (.lf x))) ω1 → s1 a1 [.d (Tr.lf x).d] ω1 Q1) ∧ (∀ x l r, Tr.nd x l r ∈ u.post → ∀ ω1 Q1, Q1 (.d (g (.nd x l r))) ω1 → s2 [.d (Tr.nd x l r).d, .d (g l), .d (g r)] ω1 Q1) ∧ Q (.d (g u)) ω1
theorem aFoldD_eq (j1 : List Nat) (s1 : List AV → ASp) (s2 : ASp) (ta tb : AE) (ρ : SA) (ω : Om) (Q : AV → Om → Prop) : aFoldD j1 s1 s2 ta tb ρ ω Q = (ta ρ ω fun x ω0 => tb ρ ω0 fun y ω1 => ∃ (lw : Str) (u : Tr) (g : Tr → D) (a1 : List AV), y = .d (.str lw) ∧ x = .d u.d ∧ u.ok lw ∧ u.size ≤ 100000 ∧ capA j1 ρ = some a1 ∧
  (∀ x, Tr.lf x ∈ u.post → ∀ ω1 Q1, Q1 (.d (g (.lf x))) ω1 → s1 a1 [.d (Tr.lf x).d] ω1 Q1) ∧ (∀ x l r, Tr.nd x l r ∈ u.post → ∀ ω1 Q1, Q1 (.d (g (.nd x l r))) ω1 → s2 [.d (Tr.nd x l r).d, .d (g l), .d (g r)] ω1 Q1) ∧ Q (.d (g u)) ω1) := rfl
theorem comp_gix {g : AG} {te : AE} {as : List AV} {rs : List D} {ρ : SA} {ω : Om} {K : List AV → SA → Om → Prop} (R : SA → Prop) (h0 : R ρ) (hl : rs.length = as.length) (hz : as.length ≤ sizeLine)
    (he : ∀ (i : Nat) (a : AV) (r : D) (ρ : SA) (N : SA → Om → Prop), as[i]? = some a → rs[i]? = some r → R ρ → (∀ ρ1, R ρ1 → (∀ Q : AV → Om → Prop, Q (.d r) ω → te ρ1 ω Q) → N ρ1 ω) → g a ρ ω N)
    (hk : ∀ ρ, R ρ → K (rs.map AV.d) ρ ω) : aLoop g aNoTest (aLast te) as [] ρ ω K := by
  refine loop_ix (fun i xs ρ ω' => ω' = ω ∧ R ρ ∧ xs = (rs.take i).map AV.d) ⟨rfl, h0, rfl⟩ ?_ ?_
  · rintro i a xs ρ ω' N ha ⟨rfl, hR, rfl⟩ kN
    have hi := (List.getElem?_eq_some_iff.mp ha).1
    have hr : rs[i]? = some rs[i] := List.getElem?_eq_getElem (by omega)
    refine he i a _ ρ _ ha hr hR fun ρ1 hR1 h => ?_
    rw [aNoTest_eq, if_pos rfl, aLast_eq]
    refine h _ ⟨by rw [List.length_map, List.length_take]; omega, kN _ _ _ ⟨rfl, hR1, ?_⟩⟩
    rw [show rs.take (i + 1) = rs.take i ++ [rs[i]] from by rw [List.take_succ, hr]; rfl, List.map_append]
    rfl
  · rintro xs ρ ω' ⟨rfl, hR, rfl⟩
    rw [← hl, List.take_length]
    exact hk ρ hR
theorem comp_ix {te : AE} {as : List AV} {rs : List D} {v0 : Option AV} {rest : SA} {ω : Om} {K : List AV → SA → Om → Prop} (hl : rs.length = as.length) (hz : as.length ≤ sizeLine)
    (he : ∀ (i : Nat) (a : AV) (r : D), as[i]? = some a → rs[i]? = some r → ∀ Q : AV → Om → Prop, Q (.d r) ω → te (some a :: rest) ω Q)
    (hk : ∀ ρ, K (rs.map AV.d) ρ ω) : aLoop (agName 0) aNoTest (aLast te) as [] (v0 :: rest) ω K :=
  comp_gix (fun ρ => ∃ v, ρ = v :: rest) ⟨_, rfl⟩ hl hz (fun i a r ρ N ha hr ⟨v, e⟩ k => by
    subst e
    rw [agName_eq, List.set_cons_zero]
    exact k _ ⟨_, rfl⟩ (he i a r ha hr)) (fun ρ _ => hk ρ)
end L2
set_option Elab.async false
set_option linter.all false
set_option autoImplicit false
set_option maxRecDepth 100000
set_option maxHeartbeats 1000000
namespace L2
open PySem PySem.Spec PyProof.Rows
def scrL (K : PySem.W.Frag) (a : Addr) (ns : List Int) : AV := .p (.ref a) (fun H => SqL K H a (ns.map V.int))
def aIxS (K : PySem.W.Frag) : A2 := fun x y ω Q => ∃ (a : Addr) (ns : List Int) (i v : Int), x = scrL K a ns ∧ y = .d (.int i) ∧ atI ns i = some v ∧ Q (.d (.int v)) ω
def aLenS (K : PySem.W.Frag) : AC := fun xs ω Q => ∃ (a : Addr) (ns : List Int), xs = [scrL K a ns] ∧ Q (.d (.int ns.length)) ω
def aListS (K : PySem.W.Frag) : AC := fun xs ω Q => ∃ (a : Addr) (ns : List Int), xs = [scrL K a ns] ∧ Q (.d (.lst (ns.map D.int))) ω
theorem aIxS_eq (K : PySem.W.Frag) (x y : AV) (ω : Om) (Q : AV → Om → Prop) : aIxS K x y ω Q = (∃ (a : Addr) (ns : List Int) (i v : Int), x = scrL K a ns ∧ y = .d (.int i) ∧ atI ns i = some v ∧ Q (.d (.int v)) ω) := rfl
theorem aLenS_eq (K : PySem.W.Frag) (xs : List AV) (ω : Om) (Q : AV → Om → Prop) : aLenS K xs ω Q = (∃ (a : Addr) (ns : List Int), xs = [scrL K a ns] ∧ Q (.d (.int ns.length)) ω) := rfl
theorem aListS_eq (K : PySem.W.Frag) (xs : List AV) (ω : Om) (Q : AV → Om → Prop) : aListS K xs ω Q = (∃ (a : Addr) (ns : List Int), xs = [scrL K a ns] ∧ Q (.d (.lst (ns.map D.int))) ω) := rfl
theorem atI_map {α β : Type} {f : α → β} {xs : List α} {i : Int} {v : α} (h : atI xs i = some v) : atI (xs.map f) i = some (f v) := by
  unfold atI at h ⊢
  rw [List.length_map]
  cases e : ixN xs.length i with
  | none => rw [e] at h; cases h
  | some j =>
    rw [e] at h
    simp only [Option.bind_some] at h ⊢
    rw [List.getElem?_map, h]; rfl
theorem scr_at {F : Fs} {H : Hp} {ω : Om} {K : PySem.W.Frag} {a : Addr} {ns : List Int} {v : V} (r : RV (cut F H ω) (scrL K a ns) v) : v = .ref a ∧ SqL K H a (ns.map V.int) := by
  obtain ⟨rfl, r⟩ := r
  exact ⟨rfl, r _ cut_same⟩
theorem o_ixS {K : PySem.W.Frag} : Ref2 (rIx K) (aIxS K) := ⟨fun F H ω v u x y Q Q' rp h1 h2 ⟨a, ns, i, z, e1, e2, e3, q⟩ k => by
  subst e1 e2
  obtain ⟨rfl, hs⟩ := scr_at h1
  cases rv_int h2
  exact .inl ⟨a, _, i, _, rfl, rfl, hs, atI_map e3, k.int rp q⟩⟩
theorem c_lenS {K : PySem.W.Frag} : RefC (fun xs H Q => ∃ x n, xs = [x] ∧ LenV K x H n ∧ Q (.int n) H) (aLenS K) := ⟨fun F H ω vs xs Q Q' rp rv ⟨a, ns, e, q⟩ k => by
  subst e
  obtain ⟨v, rfl, r⟩ := rvs1 rv
  obtain ⟨rfl, hs⟩ := scr_at r
  exact ⟨_, ns.length, rfl, .inl ⟨_, hs, by simp⟩, k.int rp q⟩⟩
def aPar (i j : Nat) (ta : AA) : AS := fun D ρ ω => ta ρ ω fun xs ω1 => ∃ v w, xs = [v, w] ∧ D.nx ((ρ.set i (some v)).set j (some w)) ω1
theorem aPar_eq (i j : Nat) (ta : AA) (D : AEnds) (ρ : SA) (ω : Om) : aPar i j ta D ρ ω = (ta ρ ω fun xs ω1 => ∃ v w, xs = [v, w] ∧ D.nx ((ρ.set i (some v)).set j (some w)) ω1) := rfl
theorem FnOk.any {P : Program} {w : World} {K : PySem.W.Frag} {mg : Str → Option Value} {base : Heap} {k : Nat} {f : Addr} {fd : FuncData} {ps : List Str} {ι : Type} {sp : ι → ASp} (h : ∀ i, FnOk P w K mg base CX0 k f fd ps (lift (sp i))) : FnOk P w K mg base CX0 k f fd ps (lift fun xs ω Q => ∃ i, sp i xs ω Q) :=
  ⟨fun vs H Q E ⟨F, xs, ω, Q', rp, rv, ⟨i, s⟩, kq⟩ => (h i).len vs H Q E ⟨F, xs, ω, Q', rp, rv, s, kq⟩, fun A outer s H args us vs Q E hr he hb hv ⟨F, xs, ω, Q', rp, rv, ⟨i, q⟩, kq⟩ => (h i).run A outer s H args us vs Q E hr he hb hv ⟨F, xs, ω, Q', rp, rv, q, kq⟩⟩
structure Pq where
  a : Addr
  ns : List Int
  i : Int
  f : Int
  h0 : 0 ≤ i
  hf : 0 ≤ f
  hn : ns.length ≤ 63
def pqO (K : PySem.W.Frag) (c : Pq) : OC := .own [scrL K c.a c.ns, .d (.int c.i), .d (.int c.f)]
def PqAt (K : PySem.W.Frag) (ω : Om) (p : Addr) : Prop := ∃ c, ω p = some (pqO K c)
theorem PqAt.some {K : PySem.W.Frag} {ω : Om} {p : Addr} (h : PqAt K ω p) : (ω p).isSome = true := by obtain ⟨c, e⟩ := h; rw [e]; rfl
theorem PqAt.ne {K : PySem.W.Frag} {ω : Om} {p l : Addr} (h : PqAt K ω p) (hl : ω l = none) : p ≠ l := fun e => by obtain ⟨c, h⟩ := h; rw [e, hl] at h; cases h
theorem PqAt.other {K : PySem.W.Frag} {ω : Om} {p l : Addr} {A : OC} (h : PqAt K ω p) (hl : p ≠ l) : PqAt K (ω.put l A) p := by obtain ⟨c, h⟩ := h; exact ⟨c, by rw [Om.put_ne hl]; exact h⟩
end L2
set_option Elab.async false
set_option linter.all false
set_option autoImplicit false
set_option maxRecDepth 100000
set_option maxHeartbeats 1000000
namespace L2
open PySem PySem.Spec PyProof.Rows
section
variable {prog : Program} {w : World} {A : Around} {E : Value → Shared → Prop} {s : Shared}
end
def aTupRng (ta : AA) : AE := fun ρ ω Q => ta ρ ω fun xs ω1 => ∃ j : Int, xs = [.d (.int j)] ∧ 0 ≤ j ∧ j ≤ 1000 ∧ Q (.d (.tup ((List.range j.toNat).map fun i : Nat => D.int (i : Int)))) ω1
theorem aTupRng_eq (ta : AA) (ρ : SA) (ω : Om) (Q : AV → Om → Prop) : aTupRng ta ρ ω Q = (ta ρ ω fun xs ω1 => ∃ j : Int, xs = [.d (.int j)] ∧ 0 ≤ j ∧ j ≤ 1000 ∧ Q (.d (.tup ((List.range j.toNat).map fun i : Nat => D.int (i : Int)))) ω1) := rfl
end L2
set_option Elab.async false
set_option linter.all false
set_option autoImplicit false
set_option maxRecDepth 100000
set_option maxHeartbeats 1000000
namespace L2
open PySem PySem.Spec PyProof.Rows
def aAddS : A2 := fun x y ω Q => ∃ i j, x = .d (.str i) ∧ y = .d (.str j) ∧ i.length + j.length ≤ sizeLine ∧ Q (.d (.str (i ++ j))) ω
theorem aAddS_eq (x y : AV) (ω : Om) (Q : AV → Om → Prop) : aAddS x y ω Q = (∃ i j, x = .d (.str i) ∧ y = .d (.str j) ∧ i.length + j.length ≤ sizeLine ∧ Q (.d (.str (i ++ j))) ω) := rfl
def aIntS : AC := fun xs ω Q => ∃ (z : Str) (n : Int), xs = [.d (.str z)] ∧ PySem.intText? z = some n ∧ z.length ≤ 640 ∧ Q (.d (.int n)) ω
theorem aIntS_eq (xs : List AV) (ω : Om) (Q : AV → Om → Prop) : aIntS xs ω Q = (∃ (z : Str) (n : Int), xs = [.d (.str z)] ∧ PySem.intText? z = some n ∧ z.length ≤ 640 ∧ Q (.d (.int n)) ω) := rfl
def sgn (z : Str) : List D := z.cps.toList.map fun c => D.str ⟨#[c]⟩
def aiStr (te : AE) : AI := fun ρ ω R => te ρ ω fun x ω1 => ∃ z, x = .d (.str z) ∧ R ((sgn z).map AV.d) ω1
theorem aiStr_eq (te : AE) (ρ : SA) (ω : Om) (R : List AV → Om → Prop) : aiStr te ρ ω R = (te ρ ω fun x ω1 => ∃ z, x = .d (.str z) ∧ R ((sgn z).map AV.d) ω1) := rfl
def rngN (lo hi c : Int) : Nat := (if lo < hi then (hi - lo - 1) / c + 1 else 0).toNat
def rng3A (lo c : Int) (n : Nat) : List AV := (List.range n).map fun i : Nat => AV.d (.int (lo + (i : Int) * c))
def aiRng3 (ta : AA) : AI := fun ρ ω R => ta ρ ω fun xs ω1 => ∃ i j c : Int, xs = [.d (.int i), .d (.int j), .d (.int c)] ∧ 0 ≤ i ∧ i ≤ 1000 ∧ -1000 ≤ j ∧ j ≤ 1000 ∧ 1 ≤ c ∧ c ≤ 1000 ∧ R (rng3A i c (rngN i j c)) ω1
theorem aiRng3_eq (ta : AA) (ρ : SA) (ω : Om) (R : List AV → Om → Prop) : aiRng3 ta ρ ω R = (ta ρ ω fun xs ω1 => ∃ i j c : Int, xs = [.d (.int i), .d (.int j), .d (.int c)] ∧ 0 ≤ i ∧ i ≤ 1000 ∧ -1000 ≤ j ∧ j ≤ 1000 ∧ 1 ≤ c ∧ c ≤ 1000 ∧ R (rng3A i c (rngN i j c)) ω1) := rfl
def dist (ns : List Int) : Nat := (firstMet (fun i => ns.getD i 0) ns.length).length
def aLenSet (ta : AA) : AE := fun ρ ω Q => ta ρ ω fun xs ω1 => ∃ (x : AV) (ns : List Int), xs = [x] ∧ datA ω1 x = some (.lst (ns.map D.int)) ∧ ns.length ≤ 1000 ∧ Q (.d (.int (dist ns : Nat))) ω1
theorem aLenSet_eq (ta : AA) (ρ : SA) (ω : Om) (Q : AV → Om → Prop) : aLenSet ta ρ ω Q = (ta ρ ω fun xs ω1 => ∃ (x : AV) (ns : List Int), xs = [x] ∧ datA ω1 x = some (.lst (ns.map D.int)) ∧ ns.length ≤ 1000 ∧ Q (.d (.int (dist ns : Nat))) ω1) := rfl
end L2
set_option Elab.async false
set_option linter.all false
set_option autoImplicit false
set_option maxRecDepth 100000
set_option maxHeartbeats 1000000
namespace L2
open PySem PySem.Spec PyProof.Rows
def valA (kvs : List (Str × AV)) (k : Str) : Option AV := (kvs.find? fun p => decide (p.1 = k)).map (·.2)
def putA : List (Str × AV) → Str → AV → List (Str × AV)
  | [], k, a => [(k, a)]
  | p :: r, k, a => if p.1 = k then (k, a) :: r else p :: putA r k a
def ndK (kvs : List (Str × AV)) : Prop := (kvs.map (·.1)).Nodup
section
variable {G : Hp} {F : Fs} {H : Hp} {ω : Om}
theorem RKs.length : ∀ {kvs : List (Str × AV)} {ks : List (Key × V)}, RKs G kvs ks → ks.length = kvs.length
  | [], _, h => by cases h; rfl
  | _ :: _, _, ⟨v, r, h1, _, h3⟩ => by subst h1; simp [h3.length]
theorem RKs.get {k : Str} {a : AV} : ∀ {kvs : List (Str × AV)} {ks : List (Key × V)}, RKs G kvs ks → valA kvs k = some a → ∃ v, valV ks (Sum.inr k : Key) = some v ∧ RV G a v
  | [], _, _, e => by simp [valA] at e
  | p :: r, _, ⟨v, r', h1, h2, h3⟩, e => by
    subst h1
    by_cases hp : p.1 = k
    · rw [valA, List.find?_cons, decide_eq_true hp] at e
      cases e
      exact ⟨v, valV_pos (by rw [hp]), h2⟩
    · rw [valA, List.find?_cons, decide_eq_false hp] at e
      obtain ⟨u, e1, e2⟩ := h3.get (k := k) (a := a) e
      exact ⟨u, by rw [valV_neg (fun z => hp (Sum.inr.inj z))]; exact e1, e2⟩
theorem RKs.any {k : Str} : ∀ {kvs : List (Str × AV)} {ks : List (Key × V)}, RKs G kvs ks → (ks.any fun kv => decide (kv.1 = (Sum.inr k : Key))) = kvs.any fun p => decide (p.1 = k)
  | [], _, h => by cases h; rfl
  | p :: r, _, ⟨v, r', h1, h2, h3⟩ => by
    subst h1
    rw [List.any_cons, List.any_cons, h3.any]
    congr 1
    by_cases hp : p.1 = k
    · rw [decide_eq_true hp, decide_eq_true (by rw [hp])]
    · rw [decide_eq_false hp, decide_eq_false fun z => hp (Sum.inr.inj z)]
theorem RKs.keep {k : Str} {v : V} : ∀ {kvs : List (Str × AV)} {ks : List (Key × V)}, RKs G kvs ks → (kvs.any fun p => decide (p.1 = k)) = false → ks.map (fun kv => if kv.1 = (Sum.inr k : Key) then (kv.1, v) else kv) = ks
  | [], _, h, _ => by cases h; rfl
  | p :: r, _, ⟨u, r', h1, h2, h3⟩, e => by
    subst h1
    rw [List.any_cons, Bool.or_eq_false_iff] at e
    have hp : ¬ p.1 = k := of_decide_eq_false e.1
    rw [List.map_cons, h3.keep e.2, if_neg fun z => hp (Sum.inr.inj z)]
theorem RKs.put1 {k : Str} {a : AV} {v : V} (hv : RV G a v) : ∀ {kvs : List (Str × AV)} {ks : List (Key × V)}, RKs G kvs ks → ndK kvs → (kvs.any fun p => decide (p.1 = k)) = true → RKs G (putA kvs k a) (ks.map fun kv => if kv.1 = (Sum.inr k : Key) then (kv.1, v) else kv)
  | [], _, _, _, e => by simp at e
  | p :: r, _, ⟨u, r', h1, h2, h3⟩, nd, e => by
    subst h1
    unfold putA
    by_cases hp : p.1 = k
    · rw [if_pos hp, List.map_cons, if_pos (by rw [hp])]
      have hn : (r.any fun p => decide (p.1 = k)) = false := by
        rw [List.any_eq_false]
        intro q hq hk
        have hk := of_decide_eq_true hk
        have := (List.nodup_cons.mp nd).1
        exact this (List.mem_map.mpr ⟨q, hq, by rw [hk]; exact hp.symm⟩)
      rw [h3.keep hn]
      exact ⟨v, r', by rw [hp], hv, h3⟩
    · rw [if_neg hp, List.map_cons, if_neg fun z => hp (Sum.inr.inj z)]
      rw [List.any_cons, decide_eq_false hp, Bool.false_or] at e
      exact ⟨u, _, rfl, h2, h3.put1 hv (List.nodup_cons.mp nd).2 e⟩
theorem RKs.put {k : Str} {a : AV} {v : V} {kvs : List (Str × AV)} {ks : List (Key × V)} (h : RKs G kvs ks) (hv : RV G a v) (nd : ndK kvs) (e : (kvs.any fun p => decide (p.1 = k)) = true) : RKs G (putA kvs k a) (putK ks (Sum.inr k : Key) v) := by
  unfold putK
  rw [if_pos (by rw [h.any]; exact e)]
  exact h.put1 hv nd e
theorem Rep.mkD (R : Rep F H ω) {l : Addr} {xs : List (Str × AV)} {vs : List (Key × V)} (h : H l = none) (hv : RKs (cut F H ω) xs vs) :
    Rep F (upd H l (.dK vs)) (ω.put l (.dic xs)) ∧ Fr F H ω (upd H l (.dK vs)) (ω.put l (.dic xs)) := by
  obtain ⟨f1, f2⟩ := R.free h
  have c : cut F (upd H l (.dK vs)) (ω.put l (.dic xs)) = cut F H ω := by
    funext b; unfold cut Om.put
    by_cases hb : b = l
    · subst hb; rw [if_pos rfl, f1, f2, h]; simp [ow]
    · rw [if_neg hb, upd_ne hb]
  refine ⟨⟨fun k zs e => ?_, fun k ds e => ?_, fun b f => ?_, fun k zs e => ?_⟩, fun b o x f e => ?_, fun b f => ?_⟩
  · have hk : k ≠ l := fun z => (by subst z; rw [Om.put_same] at e; cases e)
    rw [Om.put_ne hk] at e; rw [c, upd_ne hk]; exact R.own k zs e
  · have hk : k ≠ l := fun z => (by subst z; rw [Om.put_same] at e; cases e)
    rw [Om.put_ne hk] at e; rw [c]; exact R.frz k ds e
  · obtain ⟨x, o, q⟩ := R.hid b f
    have hb : b ≠ l := ne_of_none q h
    exact ⟨by rw [Om.put_ne hb]; exact x, o, by rw [upd_ne hb]; exact q⟩
  · rw [c]
    by_cases hk : k = l
    · subst hk; rw [Om.put_same] at e; cases e; exact ⟨vs, upd_same, hv⟩
    · rw [Om.put_ne hk] at e; rw [upd_ne hk]; exact R.dic k zs e
  · have hb : b ≠ l := ne_of_none e h
    rw [Om.put_ne hb, upd_ne hb]; exact ⟨e, x⟩
  · obtain ⟨x, o, q⟩ := R.hid b f
    exact upd_ne (ne_of_none q h)
end
def aDGet (td ty : AE) : AE := fun ρ ω Q => td ρ ω fun x ω1 => ty ρ ω1 fun y ω2 => ∃ l kvs k a, x = .r (.ref l) ∧ ω2 l = some (.dic kvs) ∧ y = .d (.str k) ∧ valA kvs k = some a ∧ Q a ω2
theorem aDGet_eq (td ty : AE) (ρ : SA) (ω : Om) (Q : AV → Om → Prop) : aDGet td ty ρ ω Q = (td ρ ω fun x ω1 => ty ρ ω1 fun y ω2 => ∃ l kvs k a, x = .r (.ref l) ∧ ω2 l = some (.dic kvs) ∧ y = .d (.str k) ∧ valA kvs k = some a ∧ Q a ω2) := rfl
def aDPut (td ty tv : AE) : AS := fun D ρ ω => tv ρ ω fun v ω1 => td ρ ω1 fun x ω2 => ty ρ ω2 fun y ω3 => ∃ l kvs k, x = .r (.ref l) ∧ ω3 l = some (.dic kvs) ∧ y = .d (.str k) ∧ ndK kvs ∧ (kvs.any fun p => decide (p.1 = k)) = true ∧ kvs.length < sizeLine ∧ D.nx ρ (ω3.put l (.dic (putA kvs k v)))
theorem aDPut_eq (td ty tv : AE) (D : AEnds) (ρ : SA) (ω : Om) : aDPut td ty tv D ρ ω = (tv ρ ω fun v ω1 => td ρ ω1 fun x ω2 => ty ρ ω2 fun y ω3 => ∃ l kvs k, x = .r (.ref l) ∧ ω3 l = some (.dic kvs) ∧ y = .d (.str k) ∧ ndK kvs ∧ (kvs.any fun p => decide (p.1 = k)) = true ∧ kvs.length < sizeLine ∧ D.nx ρ (ω3.put l (.dic (putA kvs k v)))) := rfl
def aVals : List AE → SA → Om → (List AV → Om → Prop) → Prop
  | [], _, ω, Q => Q [] ω
  | t :: r, ρ, ω, Q => t ρ ω fun x ω1 => aVals r ρ ω1 fun xs ω2 => Q (x :: xs) ω2
theorem aVals_nil (ρ : SA) (ω : Om) (Q : List AV → Om → Prop) : aVals [] ρ ω Q = Q [] ω := rfl
theorem aVals_cons (t : AE) (r : List AE) (ρ : SA) (ω : Om) (Q : List AV → Om → Prop) : aVals (t :: r) ρ ω Q = (t ρ ω fun x ω1 => aVals r ρ ω1 fun xs ω2 => Q (x :: xs) ω2) := rfl
def aDisp (ks : List Str) (ts : List AE) : AE := fun ρ ω Q => ks.Nodup ∧ ks.length ≤ 15 ∧ ∀ p, ω p = none → aVals ts ρ (ω.put p (.dic [])) fun xs ω1 => ω1 p = some (.dic []) ∧ xs.length = ks.length ∧ Q (.r (.ref p)) (ω1.put p (.dic (ks.zip xs)))
theorem aDisp_eq (ks : List Str) (ts : List AE) (ρ : SA) (ω : Om) (Q : AV → Om → Prop) : aDisp ks ts ρ ω Q = (ks.Nodup ∧ ks.length ≤ 15 ∧ ∀ p, ω p = none → aVals ts ρ (ω.put p (.dic [])) fun xs ω1 => ω1 p = some (.dic []) ∧ xs.length = ks.length ∧ Q (.r (.ref p)) (ω1.put p (.dic (ks.zip xs)))) := rfl
inductive RefPs : List (TE × TE) → List Str → List AE → Prop
  | nil : RefPs [] [] []
  | cons {k : Str} {tv : TE} {tv' : AE} {r : List (TE × TE)} {ks : List Str} {ts : List AE} : RefE tv tv' → RefPs r ks ts → RefPs ((tC (.str k), tv) :: r) (k :: ks) (tv' :: ts)
theorem RefPs.go {trs : List (TE × TE)} {ks : List Str} {ts : List AE} (h : RefPs trs ks ts) : ∀ {F : Fs} {H : Hp} {ω : Om} {σ : St} {ρ : SA} {Q : List (V × V) → Hp → Prop} {Q' : List AV → Om → Prop}, Rep F H ω → RS (cut F H ω) ρ σ → aVals ts ρ ω Q' →
    (∀ (xs : List AV) (ω1 : Om) (vs : List V) (H1 : Hp), Rep F H1 ω1 → Fr F H ω H1 ω1 → RVs (cut F H1 ω1) xs vs → vs.length = ks.length → Q' xs ω1 → Q ((ks.zip vs).map fun p => (V.str p.1, p.2)) H1) → tPairs trs σ H Q := by
  induction h with
  | nil => intro F H ω σ ρ Q Q' rp rs w k; exact k [] ω [] H rp .refl rfl rfl w
  | @cons kk tv tv' r ks ts hv hr ih =>
    intro F H ω σ ρ Q Q' rp rs w k
    refine hv.go rp rs w fun x ω1 v H1 rp1 fr1 rs1 rv1 q1 => ih rp1 rs1 q1 fun xs ω2 vs H2 rp2 fr2 rvs hl q2 => ?_
    exact k (x :: xs) ω2 (v :: vs) H2 rp2 (fr1.trans fr2) ⟨v, vs, rfl, rv1.same fr2.same, rvs⟩ (by simp [hl]) q2
def aNilS (K : PySem.W.Frag) (neg : Bool) : A2 := fun x y ω Q => ∃ (a : Addr) (ns : List Int), x = scrL K a ns ∧ datA ω y = some (.lst []) ∧ Q (.d (.bl (if neg then !ns.isEmpty else ns.isEmpty))) ω
theorem aNilS_eq (K : PySem.W.Frag) (neg : Bool) (x y : AV) (ω : Om) (Q : AV → Om → Prop) : aNilS K neg x y ω Q = (∃ (a : Addr) (ns : List Int), x = scrL K a ns ∧ datA ω y = some (.lst []) ∧ Q (.d (.bl (if neg then !ns.isEmpty else ns.isEmpty))) ω) := rfl
end L2
set_option Elab.async false
set_option linter.all false
set_option autoImplicit false
set_option maxRecDepth 100000
set_option maxHeartbeats 1000000
namespace L2
open PySem PySem.Spec PyProof.Rows
def tx (l : List Nat) : Str := ⟨l.toArray⟩
def jn (s : List Nat) : List (List Nat) → List Nat
  | [] => []
  | [x] => x
  | x :: y :: r => x ++ s ++ jn s (y :: r)
def aStrI : AC := fun xs ω Q => ∃ i : Int, xs = [.d (.int i)] ∧ i.natAbs.log2 < 1920 ∧ Q (.d (.str (Str.ofString (toString i)))) ω
theorem aStrI_eq (xs : List AV) (ω : Om) (Q : AV → Om → Prop) : aStrI xs ω Q = (∃ i : Int, xs = [.d (.int i)] ∧ i.natAbs.log2 < 1920 ∧ Q (.d (.str (Str.ofString (toString i)))) ω) := rfl
theorem c_strI : RefC (fun xs H Q => ∃ i : Int, xs = [.int i] ∧ i.natAbs.log2 < 1920 ∧ Q (.str (toString i)) H) aStrI := ⟨fun F H ω vs xs Q Q' rp rv ⟨i, e, h1, q⟩ k => by
  subst e
  obtain ⟨v, rfl, r⟩ := rvs1 rv
  exact ⟨i, by rw [rv_int r], h1, k.str rp q⟩⟩
theorem vals_strs : ∀ {ss : List Str} {its : List Value}, Vals (ss.map V.str) its → ∃ l : List (Str × Tok), its = strValues l ∧ l.map (·.1) = ss
  | [], its, r => by cases r; exact ⟨[], rfl, rfl⟩
  | z :: ss, its, r => by
    cases r with
    | cons r rr =>
      obtain ⟨t, rfl⟩ := r
      obtain ⟨l, e1, e2⟩ := vals_strs rr
      exact ⟨(z, t) :: l, by rw [e1]; rfl, by simp [e2]⟩
def rJoin (K : PySem.W.Frag) : V → List V → Hp → VK → Prop := fun x vs H Q => ∃ (z : Str) (l : Addr) (ss : List Str), x = .str z ∧ vs = [.ref l] ∧ SqL K H l (ss.map V.str) ∧ JoinOk z ss = true ∧ Q (.str (Str.join z ss)) H
theorem mt_joinS {X : Cx} (K : PySem.W.Frag) (hK : X.K = K) : MtR X "str.join" (rJoin K) := by
  subst hK
  intro pins s σ H x vs v us Q I rx rv h
  obtain ⟨z, l, ss, rfl, rfl, hq, hj, q⟩ := h
  obtain ⟨t, rfl⟩ := rx
  obtain ⟨u, rfl, ru⟩ := rv.one
  cases ru
  obtain ⟨its, rv2, pl, hz⟩ := I.list hq
  obtain ⟨ps, rfl, e⟩ := vals_strs rv2
  refine SC.join (l := ps) (texts := ss) pl.isList e hj fun t' k => ⟨.str (Str.join z ss), H, I.tok k, ⟨t', ?_⟩, q⟩
  show Value.str (Builtin.Str.glued z ss) t' = _
  rw [StrLaws.glued_eq_join]
def aJoin (to : AE) (t : AA) : AE := fun ρ ω Q => to ρ ω fun x ω1 => ∃ z, x = .d (.str z) ∧ t ρ ω1 fun ys ω2 => ∃ y ss, ys = [y] ∧ datA ω2 y = some (.lst (ss.map D.str)) ∧ JoinOk z ss = true ∧ Q (.d (.str (Str.join z ss))) ω2
theorem aJoin_eq (to : AE) (t : AA) (ρ : SA) (ω : Om) (Q : AV → Om → Prop) : aJoin to t ρ ω Q = (to ρ ω fun x ω1 => ∃ z, x = .d (.str z) ∧ t ρ ω1 fun ys ω2 => ∃ y ss, ys = [y] ∧ datA ω2 y = some (.lst (ss.map D.str)) ∧ JoinOk z ss = true ∧ Q (.d (.str (Str.join z ss))) ω2) := rfl
theorem dats_strs_eq {G : Hp} : ∀ {ss : List Str} {vs : List V}, Dats G (ss.map D.str) vs → vs = ss.map V.str
  | [], vs, h => by cases vs with
    | nil => rfl
    | cons v vs => simp [Dats] at h
  | z :: ss, vs, h => by cases vs with
    | nil => simp [Dats] at h
    | cons v vs =>
      simp only [List.map_cons, Dats, Dat] at h
      obtain ⟨v', r, e, rfl, h2⟩ := h
      cases e
      rw [List.map_cons, dats_strs_eq h2]
theorem e_join {K : PySem.W.Frag} {to : TE} {to' : AE} {t : TA} {t' : AA} (ho : RefE to to') (ht : RefA t t') : RefE (tBM K "str" (rJoin K) to t) (aJoin to' t') := ⟨fun F H ω σ ρ Q Q' rp rs w k =>
  ho.go rp rs w fun x ω1 v H1 rp1 fr1 rs1 rv1 ⟨z, e, q1⟩ => by
    subst e
    cases rv_str rv1
    refine ⟨rfl, ht.go rp1 rs1 q1 fun ys ω2 vs H2 rp2 fr2 rs2 rv2 ⟨y, ss, e1, e2, e3, q⟩ => ?_⟩
    subst e1
    obtain ⟨u, rfl, r⟩ := rvs1 rv2
    obtain ⟨a, us, rfl, q1, q2⟩ := dats_of rp2 r e2
    cases dats_strs_eq q2
    exact ⟨z, a, ss, rfl, rfl, .inl (.inl q1), e3, (k.fr (fr1.trans fr2)).str rp2 q⟩⟩
def aEnds (to : AE) (t : AA) : AE := fun ρ ω Q => to ρ ω fun x ω1 => ∃ z, x = .d (.str z) ∧ t ρ ω1 fun ys ω2 => ∃ y, ys = [.d (.str y)] ∧ Q (.d (.bl (Txt.endswith z y))) ω2
theorem aEnds_eq (to : AE) (t : AA) (ρ : SA) (ω : Om) (Q : AV → Om → Prop) : aEnds to t ρ ω Q = (to ρ ω fun x ω1 => ∃ z, x = .d (.str z) ∧ t ρ ω1 fun ys ω2 => ∃ y, ys = [.d (.str y)] ∧ Q (.d (.bl (Txt.endswith z y))) ω2) := rfl
def aIxZ : A2 := fun x y ω Q => ∃ z i c, x = .d (.str z) ∧ y = .d (.int i) ∧ z.length ≤ sizeLine ∧ atI z.cps.toList i = some c ∧ Q (.d (.str (tx [c]))) ω
theorem aIxZ_eq (x y : AV) (ω : Om) (Q : AV → Om → Prop) : aIxZ x y ω Q = (∃ z i c, x = .d (.str z) ∧ y = .d (.int i) ∧ z.length ≤ sizeLine ∧ atI z.cps.toList i = some c ∧ Q (.d (.str (tx [c]))) ω) := rfl
def aSlX (te : AE) (tl th : AO) : AE := fun ρ ω Q => te ρ ω fun x ω1 => tl ρ ω1 fun lo ω2 => th ρ ω2 fun hi ω3 => ∃ z : Str, x = .d (.str z) ∧ z.length ≤ sizeLine ∧ Q (.d (.str (Txt.slice z lo hi))) ω3
theorem aSlX_eq (te : AE) (tl th : AO) (ρ : SA) (ω : Om) (Q : AV → Om → Prop) : aSlX te tl th ρ ω Q = (te ρ ω fun x ω1 => tl ρ ω1 fun lo ω2 => th ρ ω2 fun hi ω3 => ∃ z : Str, x = .d (.str z) ∧ z.length ≤ sizeLine ∧ Q (.d (.str (Txt.slice z lo hi))) ω3) := rfl
def aMulS : A2 := fun x y ω Q => ∃ (z : Str) (i : Int), x = .d (.str z) ∧ y = .d (.int i) ∧ 0 ≤ i ∧ i ≤ 1 ∧ z.length ≤ sizeLine ∧ Q (.d (.str (if i = 1 then z else Str.empty))) ω
theorem aMulS_eq (x y : AV) (ω : Om) (Q : AV → Om → Prop) : aMulS x y ω Q = (∃ (z : Str) (i : Int), x = .d (.str z) ∧ y = .d (.int i) ∧ 0 ≤ i ∧ i ≤ 1 ∧ z.length ≤ sizeLine ∧ Q (.d (.str (if i = 1 then z else Str.empty))) ω) := rfl
def aOrS (ta tb : AE) : AE := fun ρ ω Q => ta ρ ω fun x ω1 => ∃ z : Str, x = .d (.str z) ∧ z.length ≤ sizeLine ∧ if z.length = 0 then tb ρ ω1 Q else Q x ω1
theorem aOrS_eq (ta tb : AE) (ρ : SA) (ω : Om) (Q : AV → Om → Prop) : aOrS ta tb ρ ω Q = (ta ρ ω fun x ω1 => ∃ z : Str, x = .d (.str z) ∧ z.length ≤ sizeLine ∧ if z.length = 0 then tb ρ ω1 Q else Q x ω1) := rfl
inductive PFs (X : Cx) : List Expr → List TE → Prop
  | nil : PFs X [] []
  | cons {e : Expr} {t : TE} {es : List Expr} {ts : List TE} : PE X e t → PFs X es ts → PFs X (e :: es) (t :: ts)
def fmtA (x : AV) : Option Str := match x with
  | .d (.int i) => if i.natAbs.log2 < 1920 then some (Str.ofString (toString i)) else none
  | .d (.str z) => if z.length ≤ sizeLine then some z else none
  | _ => none
def aFmt (te : AE) : AE := fun ρ ω Q => te ρ ω fun x ω1 => ∃ z, fmtA x = some z ∧ Q (.d (.str z)) ω1
theorem aFmt_eq (te : AE) (ρ : SA) (ω : Om) (Q : AV → Om → Prop) : aFmt te ρ ω Q = (te ρ ω fun x ω1 => ∃ z, fmtA x = some z ∧ Q (.d (.str z)) ω1) := rfl
def aFs : List AE → Str → AE
  | [], acc => fun ρ ω Q => Q (.d (.str acc)) ω
  | t :: ts, acc => fun ρ ω Q => t ρ ω fun x ω1 => ∃ y : Str, x = .d (.str y) ∧ acc.length + y.length ≤ sizeLine ∧ aFs ts (acc ++ y) ρ ω1 Q
theorem aFs_nil (acc : Str) (ρ : SA) (ω : Om) (Q : AV → Om → Prop) : aFs [] acc ρ ω Q = Q (.d (.str acc)) ω := rfl
theorem aFs_cons (t : AE) (ts : List AE) (acc : Str) (ρ : SA) (ω : Om) (Q : AV → Om → Prop) : aFs (t :: ts) acc ρ ω Q = (t ρ ω fun x ω1 => ∃ y : Str, x = .d (.str y) ∧ acc.length + y.length ≤ sizeLine ∧ aFs ts (acc ++ y) ρ ω1 Q) := rfl
inductive RefFs : List TE → List AE → Prop
  | nil : RefFs [] []
  | cons {t : TE} {t' : AE} {ts : List TE} {ts' : List AE} : RefE t t' → RefFs ts ts' → RefFs (t :: ts) (t' :: ts')
theorem foldlA_sum (z : Str) : ∀ (ss : List Str) (a : Nat), ss.foldl (fun (n : Nat) (y : Str) => n + y.length + z.length) a = a + (ss.map fun y => y.length + z.length).sum
  | [], a => by simp
  | x :: ss, a => by rw [List.foldl_cons, foldlA_sum z ss, List.map_cons, List.sum_cons]; omega
theorem sum_le {B : Nat} (f : Str → Nat) : ∀ {ss : List Str}, (∀ y ∈ ss, f y ≤ B) → (ss.map f).sum ≤ ss.length * B
  | [], _ => by simp
  | x :: ss, h => by
    have h1 := h x (by simp)
    have h2 := sum_le f (ss := ss) fun y hy => h y (List.mem_cons_of_mem _ hy)
    rw [List.map_cons, List.sum_cons, List.length_cons, Nat.add_mul]
    omega
theorem joinOk_of {z : Str} {ss : List Str} (B : Nat) (h : ∀ y ∈ ss, y.length + z.length ≤ B) (h2 : ss.length * B ≤ 200000) : JoinOk z ss = true := by
  unfold JoinOk
  have e : ss.toArray.foldl (fun (n : Nat) (y : Str) => n + y.length + z.length) 0 = (ss.map fun y => y.length + z.length).sum := by
    rw [List.foldl_toArray, foldlA_sum, Nat.zero_add]
  have h3 := sum_le (fun y => y.length + z.length) h
  have h4 : (200000 : Nat) ≤ sizeLine := by decide
  show (!Builtin.Str.tooLong (ss.toArray.foldl (fun (n : Nat) (y : Str) => n + y.length + z.length) 0)) = true
  rw [e]
  unfold Builtin.Str.tooLong
  simp only [Bool.not_eq_true', decide_eq_false_iff_not]
  omega
end L2
set_option Elab.async false
set_option linter.all false
set_option autoImplicit false
set_option maxRecDepth 100000
set_option maxHeartbeats 1000000
namespace L2
open PySem PySem.Spec PyProof.Rows
end L2
set_option Elab.async false
set_option linter.all false
set_option autoImplicit false
set_option maxRecDepth 100000
set_option maxHeartbeats 1000000
namespace L2
open PySem PySem.Spec PyProof.Rows
theorem RVs.takeA {G : Hp} : ∀ {xs : List AV} {us : List V} (j : Nat), RVs G xs us → RVs G (xs.take j) (us.take j) ∧ RVs G (xs.drop j) (us.drop j)
  | xs, us, 0, h => ⟨by simp [RVs], by simpa using h⟩
  | [], us, j + 1, h => by cases h; exact ⟨rfl, rfl⟩
  | x :: xs, us, j + 1, h => by
    obtain ⟨v, r, rfl, h1, h2⟩ := h
    obtain ⟨h3, h4⟩ := RVs.takeA j h2
    exact ⟨⟨v, _, rfl, h1, h3⟩, h4⟩
def aInsert (to : AE) (t : AA) : AE := fun ρ ω Q => to ρ ω fun x ω1 => ∃ l, x = .r (.ref l) ∧ (∃ zs, ω1 l = some (.own zs)) ∧ t ρ ω1 fun ys ω2 => ∃ (xs : List AV) (j : Nat) (y : AV), ys = [.d (.int j), y] ∧ ω2 l = some (.own xs) ∧ j ≤ xs.length ∧ xs.length < sizeLine ∧ Q (.d .non) (ω2.put l (.own (xs.take j ++ y :: xs.drop j)))
theorem aInsert_eq (to : AE) (t : AA) (ρ : SA) (ω : Om) (Q : AV → Om → Prop) : aInsert to t ρ ω Q = (to ρ ω fun x ω1 => ∃ l, x = .r (.ref l) ∧ (∃ zs, ω1 l = some (.own zs)) ∧ t ρ ω1 fun ys ω2 => ∃ (xs : List AV) (j : Nat) (y : AV), ys = [.d (.int j), y] ∧ ω2 l = some (.own xs) ∧ j ≤ xs.length ∧ xs.length < sizeLine ∧ Q (.d .non) (ω2.put l (.own (xs.take j ++ y :: xs.drop j)))) := rfl
def aPopAt (to : AE) (t : AA) : AE := fun ρ ω Q => to ρ ω fun x ω1 => ∃ l, x = .r (.ref l) ∧ (∃ zs, ω1 l = some (.own zs)) ∧ t ρ ω1 fun ys ω2 => ∃ (xs : List AV) (j : Nat) (y : AV), ys = [.d (.int j)] ∧ ω2 l = some (.own xs) ∧ xs.length ≤ 1000000 ∧ xs[j]? = some y ∧ Q y (ω2.put l (.own (xs.eraseIdx j)))
theorem aPopAt_eq (to : AE) (t : AA) (ρ : SA) (ω : Om) (Q : AV → Om → Prop) : aPopAt to t ρ ω Q = (to ρ ω fun x ω1 => ∃ l, x = .r (.ref l) ∧ (∃ zs, ω1 l = some (.own zs)) ∧ t ρ ω1 fun ys ω2 => ∃ (xs : List AV) (j : Nat) (y : AV), ys = [.d (.int j)] ∧ ω2 l = some (.own xs) ∧ xs.length ≤ 1000000 ∧ xs[j]? = some y ∧ Q y (ω2.put l (.own (xs.eraseIdx j)))) := rfl
def aReverse (to : AE) : AE := fun ρ ω Q => to ρ ω fun x ω1 => ∃ l xs, x = .r (.ref l) ∧ ω1 l = some (.own xs) ∧ Q (.d .non) (ω1.put l (.own xs.reverse))
theorem aReverse_eq (to : AE) (ρ : SA) (ω : Om) (Q : AV → Om → Prop) : aReverse to ρ ω Q = (to ρ ω fun x ω1 => ∃ l xs, x = .r (.ref l) ∧ ω1 l = some (.own xs) ∧ Q (.d .non) (ω1.put l (.own xs.reverse))) := rfl
section
variable {K : PySem.W.Frag} {to : TE} {to' : AE} {t : TA} {t' : AA}
end
end L2
set_option Elab.async false
set_option linter.all false
set_option autoImplicit false
set_option maxRecDepth 100000
set_option maxHeartbeats 1000000
namespace L2
open PySem PySem.Spec PyProof.Rows PySem.W
def CXx (P : Program) (w : World) : CXT := fun outer H s E e s' => ∃ (a C t : Addr) (H' : Hp) (B : Heap), e = .ref a ∧ s'.os = s.os ∧ AllBare s'.gens ∧ Un (frs outer) [] H H' s.heap s'.heap ∧ HOk P w H' B ∧
  Heap.FlyingW B outer a (.ref C) (.ref t) s'.heap ∧ (∀ b o, s.heap.get? b = some o → H b = none → b ∉ frs outer → B.get? b = some o) ∧ (∀ b o, s.heap.get? b = some o → b ∉ frs outer → ∃ o', B.get? b = some o') ∧ E (.ref a) (some C) H'
section
variable {P : Program} {w : World} {K : PySem.W.Frag} {mg : Str → Option Value} {base : Heap} {N : List Str} {qual : Str} {scope : Scope} {f : Addr} {cd : Value} {A : Around} {outer : List Env} {s₀ : Shared} {H₀ : Hp} {E : XK}
end
abbrev vErr : List Value := [.type "ValueError", .type "Exception", .type "BaseException", .type "object"]
section
variable {P : Program} {w : World} {K : PySem.W.Frag} {mg : Str → Option Value} {base : Heap} {N : List Str} {qual : Str} {scope : Scope} {f : Addr} {cd : Value} {A : Around} {outer : List Env} {s₀ : Shared} {H₀ : Hp} {E : XK}
end
end L2
set_option Elab.async false
set_option linter.all false
set_option autoImplicit false
set_option maxRecDepth 100000
set_option maxHeartbeats 1000000
namespace L2
open PySem PySem.Spec PySem.Calls PyProof.Rows PySem.W PySem.Builtin PySem.Builtin.ObjectAttr PySem.Builtin.Getset_descriptor
def excOk (K : PySem.W.Frag) (D : Addr) : Bool := (findIn K (.ref D) "__getattribute__" == some (some (.builtin "BaseException.__getattribute__")) && findIn K (.ref D) "__getattr__" == some none) && (clsIn K D).isSome && (findIn K (.ref D) "__class__" == some (some (.builtin "object.__class__"))) && (specialIn K (.builtin "object.__class__") "__get__" == some (some (.builtin "getset_descriptor.__get__"))) && (takesIn K (.builtin "object.__class__") == some true) && (mroIn K D (.type "object") == some true && mroIn K D (.type "BaseException") == some true) && excIn K D vErr "ValueError.__new__"
def ExcAt (x D : Addr) (h : Heap) : Prop := ∃ o, h.get? x = some o ∧ o.cls = .ref D
theorem ExcAt.ty {x D : Addr} {h : Heap} (e : ExcAt x D h) (M : Model) : Looks M h (typeOf (.ref x)) (.ref D) := by
  obtain ⟨o, h1, h2⟩ := e
  exact h2 ▸ (Looks.ld h1).andThen .now
section
variable {prog : Program} {w : World} {A : Around} {E : Value → Shared → Prop} {s : Shared} {K : PySem.W.Frag} {x D : Addr}
end
def excO (a C : Addr) : HO := .ext (ExcAt a C)
def clV : V → Option Value
  | .ref a => some (.ref a)
  | .ty n => some (.type n)
  | _ => none
def isX (K : PySem.W.Frag) (H : Hp) (f : Value → Option Bool) (x : V) (b : Bool) : Prop := (x = .non ∧ f (.type "NoneType") = some b) ∨ ∃ a C, x = .ref a ∧ H a = some (excO a C) ∧ excOk K C = true ∧ f (.ref C) = some b
def clVs : List V → Option (List Value)
  | [] => some []
  | v :: r => match clV v, clVs r with
    | some c, some cs => some (c :: cs)
    | _, _ => none
section
variable {X : Cx} {CX : CXT} {k : Nat} {f : Addr} {fd : FuncData} {ps : List Str} {sp : Sp} {x : Str} {p pos : Pos} {e : Expr} {es : List Expr} {t : TA}
end
end L2
set_option Elab.async false
set_option linter.all false
set_option autoImplicit false
set_option maxRecDepth 100000
set_option maxHeartbeats 1000000
namespace L2
open PySem PySem.Spec PySem.Calls PyProof.Rows PySem.W
section
variable {X : Cx} {pins : List (Addr × Obj)} {σ : St} {H : Hp} {s : Shared}
end
section
variable {X : Cx} {CX : CXT} {e : Expr} {te : XK → TE} {pos : Pos}
end
end L2
set_option Elab.async false
set_option linter.all false
set_option autoImplicit false
set_option maxRecDepth 100000
set_option maxHeartbeats 1000000
namespace L2
open PySem PySem.Spec PyProof.Rows
abbrev ASpX := List AV → Om → (AV → Om → Prop) → (Addr → Om → Prop) → Prop
def LX (F : Fs) (H : Hp) (ω : Om) (Ex : Addr → Om → Prop) (E : XK) : Prop := ∀ C ω' a H', Rep F H' ω' → Fr F H ω H' ω' → Ex C ω' → E (.ref a) (some C) H'
theorem LX.fr {F : Fs} {H H1 : Hp} {ω ω1 : Om} {Ex : Addr → Om → Prop} {E : XK} (k : LX F H ω Ex E) (f : Fr F H ω H1 ω1) : LX F H1 ω1 Ex E := fun C ω' a H' rp fr q => k C ω' a H' rp (f.trans fr) q
def liftX (sp : ASpX) : Sp := fun vs H Q E => ∃ (F : Fs) (xs : List AV) (ω : Om) (Q' : AV → Om → Prop) (Ex : Addr → Om → Prop), Rep F H ω ∧ RVs (cut F H ω) xs vs ∧ sp xs ω Q' Ex ∧ LP RV F H ω Q' Q ∧ LX F H ω Ex E
def spN (sp : ASpX) : ASp := fun xs ω Q => sp xs ω Q fun _ _ => False
theorem FnOk.calm {P : Program} {w : World} {K : PySem.W.Frag} {mg : Str → Option Value} {base : Heap} {k : Nat} {f : Addr} {fd : FuncData} {ps : List Str} {sp : ASpX} (F : FnOk P w K mg base (CXx P w) k f fd ps (liftX sp)) : FnOk P w K mg base CX0 k f fd ps (lift (spN sp)) := by
  refine ⟨fun vs H Q E h => ?_, fun A outer s H args us vs Q E hr he hb hv h => ?_⟩
  · obtain ⟨F', xs, ω, Q', rp, rv, h, kq⟩ := h
    exact F.len vs H Q (fun _ _ _ => False) ⟨F', xs, ω, Q', _, rp, rv, h, kq, fun _ _ _ _ _ _ z => z⟩
  · obtain ⟨F', xs, ω, Q', rp, rv, h, kq⟩ := h
    refine codeAny_mono (F.run A outer s H args us vs Q (fun _ _ _ => False) hr he hb hv ⟨F', xs, ω, Q', _, rp, rv, h, kq, fun _ _ _ _ _ _ z => z⟩) fun r s' q => ?_
    cases r with
    | error e =>
      obtain ⟨_, _, _, _, _, _, _, _, _, _, _, _, _, z⟩ := q
      exact z.elim
    | ok fl => cases fl <;> exact q
abbrev AXS := AEnds → (Addr → Om → Prop) → SA → Om → Prop
structure RefSX (E : XK) (t : TS) (t' : AXS) : Prop where
  run : ∀ (F : Fs) (H : Hp) (ω : Om) (σ : St) (ρ : SA) (D : Ends) (D' : AEnds) (Ex : Addr → Om → Prop), Rep F H ω → RS (cut F H ω) ρ σ → t' D' Ex ρ ω → LE F H ω D' D → LX F H ω Ex E → t D σ H
def axOf (t : AS) : AXS := fun D _ ρ ω => t D ρ ω
def axSeq (t u : AXS) : AXS := fun D Ex ρ ω => t { D with nx := u D Ex } Ex ρ ω
def axIf (c : AT) (t u : AXS) : AXS := fun D Ex ρ ω => c ρ ω fun b ω1 => if b = true then t D Ex ρ ω1 else u D Ex ρ ω1
def axRaise (C : Addr) (ta : AA) : AXS := fun _ Ex ρ ω => ta ρ ω fun xs ω1 => xs.length ≤ 1000 ∧ Ex C ω1
def axAsg (sp : ASpX) (ta : AA) (i : Nat) : AXS := fun D Ex ρ ω => ta ρ ω fun xs ω1 => sp xs ω1 (fun v ω2 => D.nx (ρ.set i (some v)) ω2) Ex
def axRet (sp : ASpX) (ta : AA) : AXS := fun D Ex ρ ω => ta ρ ω fun xs ω1 => sp xs ω1 D.rt Ex
theorem axOf_eq (t : AS) (D : AEnds) (Ex : Addr → Om → Prop) (ρ : SA) (ω : Om) : axOf t D Ex ρ ω = t D ρ ω := rfl
theorem axSeq_eq (t u : AXS) (D : AEnds) (Ex : Addr → Om → Prop) (ρ : SA) (ω : Om) : axSeq t u D Ex ρ ω = t { D with nx := u D Ex } Ex ρ ω := rfl
theorem axIf_eq (c : AT) (t u : AXS) (D : AEnds) (Ex : Addr → Om → Prop) (ρ : SA) (ω : Om) : axIf c t u D Ex ρ ω = c ρ ω fun b ω1 => if b = true then t D Ex ρ ω1 else u D Ex ρ ω1 := rfl
theorem axRaise_eq (C : Addr) (ta : AA) (D : AEnds) (Ex : Addr → Om → Prop) (ρ : SA) (ω : Om) : axRaise C ta D Ex ρ ω = ta ρ ω fun xs ω1 => xs.length ≤ 1000 ∧ Ex C ω1 := rfl
theorem axAsg_eq (sp : ASpX) (ta : AA) (i : Nat) (D : AEnds) (Ex : Addr → Om → Prop) (ρ : SA) (ω : Om) : axAsg sp ta i D Ex ρ ω = ta ρ ω fun xs ω1 => sp xs ω1 (fun v ω2 => D.nx (ρ.set i (some v)) ω2) Ex := rfl
theorem axRet_eq (sp : ASpX) (ta : AA) (D : AEnds) (Ex : Addr → Om → Prop) (ρ : SA) (ω : Om) : axRet sp ta D Ex ρ ω = ta ρ ω fun xs ω1 => sp xs ω1 D.rt Ex := rfl
section
variable {E : XK} {t u : TS} {t' u' : AXS} {ta : TA} {ta' : AA} {tc : TT} {tc' : AT} {sp : ASpX} {C : Addr}
end
theorem PS.nox {X : Cx} {st : Stmt} {t : TS} (h : PS X.nox st t) : PS X st t := .mk <| fun pins s σ H D I hw =>
  wpAny_mono (h pins s σ H D (I.wish _) hw) (fun _ _ q => q.unwish) fun _ _ z => False.elim z
theorem PA.nox {X : Cx} {es : List Expr} {t : TA} (h : PA X.nox es t) : PA X es t := .mk <| fun pos pins s σ H Q I hw =>
  wpAny_mono (h pos pins s σ H Q (I.wish _) hw) (fun _ _ ⟨v, H', I', r, q⟩ => ⟨v, H', I'.unwish, r, q⟩) fun _ _ z => False.elim z
def excA (a C : Addr) : AV := .p (.ref a) (fun G => G a = some (excO a C))
def aTry (K : PySem.W.Frag) (T : Addr) (i j : Nat) (y : Option Nat) (sp : ASpX) (ta : AA) : AS := fun D ρ ω => ta ρ ω fun xs ω1 => sp xs ω1 (fun v ω2 => D.nx (match y with | none => ρ | some k => ρ.set k (some v)) ω2)
  (fun c ω2 => PySem.W.exmOne K (.ref c) (.ref T) = some true ∧ ∀ a, D.nx ((ρ.set i none).set j (some (excA a c))) ω2)
theorem aTryN_eq (K : PySem.W.Frag) (T : Addr) (i j : Nat) (sp : ASpX) (ta : AA) (D : AEnds) (ρ : SA) (ω : Om) : aTry K T i j none sp ta D ρ ω = ta ρ ω fun xs ω1 => sp xs ω1 (fun v ω2 => D.nx ρ ω2) (fun c ω2 => PySem.W.exmOne K (.ref c) (.ref T) = some true ∧ ∀ a, D.nx ((ρ.set i none).set j (some (excA a c))) ω2) := rfl
theorem aTryS_eq (K : PySem.W.Frag) (T : Addr) (i j k : Nat) (sp : ASpX) (ta : AA) (D : AEnds) (ρ : SA) (ω : Om) : aTry K T i j (some k) sp ta D ρ ω = ta ρ ω fun xs ω1 => sp xs ω1 (fun v ω2 => D.nx (ρ.set k (some v)) ω2) (fun c ω2 => PySem.W.exmOne K (.ref c) (.ref T) = some true ∧ ∀ a, D.nx ((ρ.set i none).set j (some (excA a c))) ω2) := rfl
theorem RS.setN {G : Hp} {ρ : SA} {σ : St} {i : Nat} (h : RS G ρ σ) : RS G (ρ.set i none) (σ.set i none) := by
  refine ⟨by simp [h.1], fun j b e => ?_⟩
  by_cases hj : j = i
  · subst hj
    rw [List.getElem?_set] at e
    simp only [if_true] at e
    split at e <;> cases e
  · rw [List.getElem?_set_ne (Ne.symm hj)] at e
    rw [List.getElem?_set_ne (Ne.symm hj)]
    exact h.2 j b e
section
variable {K : PySem.W.Frag} {T : Addr} {i j : Nat} {sp : ASpX} {ta : TA} {ta' : AA}
theorem LE.caught {F : Fs} {H H1 : Hp} {ω ω1 : Om} {σ : St} {ρ : SA} {D : Ends} {D' : AEnds} (k : LE F H ω D' D) (fr1 : Fr F H ω H1 ω1) (rs1 : RS (cut F H1 ω1) ρ σ) :
    LX F H1 ω1 (fun c ω2 => PySem.W.exmOne K (.ref c) (.ref T) = some true ∧ ∀ a, D'.nx ((ρ.set i none).set j (some (excA a c))) ω2) (fun x C H' => ∀ a c, x = .ref a → C = some c → H' a = none → PySem.W.exmOne K (.ref c) (.ref T) = some true ∧ D.nx ((σ.set i none).set j (some (.ref a))) (upd H' a (excO a c))) := by
  intro C ω2 a H2 rp2 fr2 q a' c' e1 e2 hn
  cases e1
  cases e2
  obtain ⟨rp3, fr3, hc⟩ := rp2.lay (o := excO a C) hn
  have rx : RV (cut F (upd H2 a (excO a C)) ω2) (excA a C) (.ref a) := ⟨rfl, fun G' s => s _ _ hc⟩
  exact ⟨q.1, k.nx _ ω2 _ _ rp3 ((fr1.trans fr2).trans fr3) (((rs1.same fr2.same).same fr3.same).setN.set rx) (q.2 a)⟩
end
def isXA (K : PySem.W.Frag) (f : Value → Option Bool) (x : AV) (b : Bool) : Prop := (x = .d .non ∧ f (.type "NoneType") = some b) ∨ ∃ a C, x = excA a C ∧ excOk K C = true ∧ f (.ref C) = some b
theorem isXA.of {K : PySem.W.Frag} {f : Value → Option Bool} {x : AV} {b : Bool} {F : Fs} {H : Hp} {ω : Om} {v : V} (h : isXA K f x b) (r : RV (cut F H ω) x v) : isX K H f v b := by
  rcases h with ⟨rfl, hb⟩ | ⟨a, C, rfl, ok, hb⟩
  · exact .inl ⟨rv_non r, hb⟩
  · obtain ⟨rfl, h2⟩ := r
    exact .inr ⟨a, C, rfl, (cut_some.mp (h2 _ (Same.refl _))).2.2, ok, hb⟩
def aIsX (K : PySem.W.Frag) : AC := fun xs ω Q => ∃ x c cv b, xs = [x, .r c] ∧ clV c = some cv ∧ isXA K (fun t => PySem.W.kitOne K t cv) x b ∧ Q (.d (.bl b)) ω
theorem aIsX_eq (K : PySem.W.Frag) (xs : List AV) (ω : Om) (Q : AV → Om → Prop) : aIsX K xs ω Q = ∃ x c cv b, xs = [x, .r c] ∧ clV c = some cv ∧ isXA K (fun t => PySem.W.kitOne K t cv) x b ∧ Q (.d (.bl b)) ω := rfl
def aIsXT (K : PySem.W.Frag) (tx : AE) (tcs : AA) : AE := fun ρ ω Q => tx ρ ω fun x ω1 => tcs ρ ω1 fun cs ω2 => ∃ vs cvs b, cs = vs.map AV.r ∧ vs.length ≤ 1000 ∧ clVs vs = some cvs ∧ isXA K (fun t => PySem.W.kitAny K t cvs) x b ∧ Q (.d (.bl b)) ω2
theorem aIsXT_eq (K : PySem.W.Frag) (tx : AE) (tcs : AA) (ρ : SA) (ω : Om) (Q : AV → Om → Prop) : aIsXT K tx tcs ρ ω Q = tx ρ ω fun x ω1 => tcs ρ ω1 fun cs ω2 => ∃ vs cvs b, cs = vs.map AV.r ∧ vs.length ≤ 1000 ∧ clVs vs = some cvs ∧ isXA K (fun t => PySem.W.kitAny K t cvs) x b ∧ Q (.d (.bl b)) ω2 := rfl
def nonA : AV → Option Bool
  | .d a => some (eqD a .non)
  | .p (.ref _) _ => some false
  | _ => none
def aIsNX (neg : Bool) : A2 := fun x y ω Q => ∃ b, nonA x = some b ∧ y = .d .non ∧ Q (.d (.bl (if neg then !b else b))) ω
theorem aIsNX_eq (neg : Bool) (x y : AV) (ω : Om) (Q : AV → Om → Prop) : aIsNX neg x y ω Q = ∃ b, nonA x = some b ∧ y = .d .non ∧ Q (.d (.bl (if neg then !b else b))) ω := rfl
theorem nonA_d (a : D) : nonA (.d a) = some (eqD a .non) := rfl
theorem nonA_x (a C : Addr) : nonA (excA a C) = some false := rfl
theorem RVs.cut {G : Hp} {xs : List AV} {vs : List V} {lo hi : Option Int} (h : RVs G xs vs) : RVs G (cutL xs lo hi) (cutV vs lo hi) := by
  unfold cutL cutV
  rw [h.length]
  exact (RVs.takeA _ (RVs.takeA _ h).2).1
def aSlO (te : AE) (tl th : AO) : AE := fun ρ ω Q => te ρ ω fun x ω1 => tl ρ ω1 fun lo ω2 => th ρ ω2 fun hi ω3 => ∃ xs, lstA ω3 x = some xs ∧ ∀ p, ω3 p = none → Q (.r (.ref p)) (ω3.put p (.own (cutL xs lo hi)))
theorem aSlO_eq (te : AE) (tl th : AO) (ρ : SA) (ω : Om) (Q : AV → Om → Prop) : aSlO te tl th ρ ω Q = te ρ ω fun x ω1 => tl ρ ω1 fun lo ω2 => th ρ ω2 fun hi ω3 => ∃ xs, lstA ω3 x = some xs ∧ ∀ p, ω3 p = none → Q (.r (.ref p)) (ω3.put p (.own (cutL xs lo hi))) := rfl
def aSortedE : AC := fun xs ω Q => ∃ (x : AV) (W : List (List Int)), xs = [x] ∧ datA ω x = some (.lst (W.map wdD)) ∧ (2 ≤ W.length → ∀ y ∈ W, y ≠ []) ∧ W.length < 64 ∧ Q (.d (.lst ((srtW W).map wdD))) ω
theorem aSortedE_eq (xs : List AV) (ω : Om) (Q : AV → Om → Prop) : aSortedE xs ω Q = ∃ (x : AV) (W : List (List Int)), xs = [x] ∧ datA ω x = some (.lst (W.map wdD)) ∧ (2 ≤ W.length → ∀ y ∈ W, y ≠ []) ∧ W.length < 64 ∧ Q (.d (.lst ((srtW W).map wdD))) ω := rfl
end L2
set_option Elab.async false
set_option linter.all false
set_option autoImplicit false
set_option maxRecDepth 100000
set_option maxHeartbeats 1000000
namespace L2
open PySem PySem.Spec PySem.Calls PyProof.Rows PySem.W
structure CloX (P : Program) (w : World) (K : PySem.W.Frag) (mg : Str → Option Value) (base : Heap) (H₀ : Hp) (k : Nat) (f : Addr) (n : Nat) (sp : Sp) : Prop where
  fn : ∃ (oc : Value) (od : Option Addr) (fd : FuncData) (sl : Array (Option Value)) (u : HO), H₀ f = some (.frz ⟨oc, od, .func fd, sl⟩ u)
  len : ∀ vs H Q E, sp vs H Q E → vs.length = n
  run : ∀ (A : Around) (outer : List Env) (s : Shared) (H : Hp) (us : List Value) (vs : List V) (Q : VK) (E : XK), Room k A → Env0 P w K mg base A outer s H → Frz H₀ H → Vals vs us → sp vs H Q E →
    codeAny (model P w) A (.call (.ref f) ⟨us, []⟩) (CR (CXx P w) outer P w H s Q E) s
end L2
set_option Elab.async false
set_option linter.all false
set_option autoImplicit false
set_option maxRecDepth 100000
set_option maxHeartbeats 1000000
namespace L2
open PySem PySem.Spec PySem.Calls PyProof.Rows
section
variable {prog : Program} {w : World} {A : Around} {E : Value → Shared → Prop} {S : Shared} {z u o i j l p q r : Addr} {m n : Nat} {xs ys zs : Array Value} {x y v a b c : Value} {Ii Ij Il : Nat → Heap → Prop} {Sp Sq Sr : Heap → Prop}
end
section
variable {c1 c2 c3 : String} {S1 S2 S3 : PySem.W.Frag → Hp → Addr → List V → Prop} {I1 I2 I3 : Heap → Addr → Addr → Nat → Prop} {Is1 Is2 Is3 : Heap → Addr → Array Value → Prop}
end
section
variable {K : PySem.W.Frag} {sa : TA} {sa' : AA}
def zip3A (ds es fs : List D) : List AV := (ds.zip (es.zip fs)).map fun p => AV.d (.tup [p.1, p.2.1, p.2.2])
def aiZip3 (ta : AA) : AI := fun ρ ω R => ta ρ ω fun xs ω1 => ∃ x y z, xs = [x, y, z] ∧ frzA ω1 x fun d ω2 => frzA ω2 y fun e ω3 => frzA ω3 z fun f ω4 => ∃ ds es fs, d = .lst ds ∧ e = .lst es ∧ f = .lst fs ∧ R (zip3A ds es fs) ω4
theorem aiZip3_eq (ta : AA) (ρ : SA) (ω : Om) (R : List AV → Om → Prop) : aiZip3 ta ρ ω R = (ta ρ ω fun xs ω1 => ∃ x y z, xs = [x, y, z] ∧ frzA ω1 x fun d ω2 => frzA ω2 y fun e ω3 => frzA ω3 z fun f ω4 => ∃ ds es fs, d = .lst ds ∧ e = .lst es ∧ f = .lst fs ∧ R (zip3A ds es fs) ω4) := rfl
end
def aBits (to : AE) : AE := fun ρ ω Q => to ρ ω fun x ω1 => ∃ i, x = .d (.int i) ∧ Q (.d (.int ((Builtin.Int.intBits i : Nat) : Int))) ω1
theorem aBits_eq (to : AE) (ρ : SA) (ω : Om) (Q : AV → Om → Prop) : aBits to ρ ω Q = (to ρ ω fun x ω1 => ∃ i, x = .d (.int i) ∧ Q (.d (.int ((Builtin.Int.intBits i : Nat) : Int))) ω1) := rfl
end L2
set_option Elab.async false
set_option linter.all false
set_option autoImplicit false
set_option maxRecDepth 100000
set_option maxHeartbeats 1000000
namespace L2
open PySem PySem.Spec PyProof.Rows
inductive O where
  | d (x : D) | box (b : Bool) | tup (os : List O)
mutual
def Odd (G : Hp) : O → V → Prop
  | .d x, v => Dat G x v
  | .box t, v => ∃ a, v = .ref a ∧ ((t = false ∧ ∃ xs, G a = some (.lst xs)) ∨ (t = true ∧ ∃ ks, G a = some (.dK ks)))
  | .tup os, v => ∃ a xs, v = .ref a ∧ G a = some (.tup xs) ∧ Odds G os xs
def Odds (G : Hp) : List O → List V → Prop
  | [], xs => xs = []
  | o :: os, xs => ∃ x r, xs = x :: r ∧ Odd G o x ∧ Odds G os r
end
mutual
theorem Odd.same {G G' : Hp} (e : Same G G') : ∀ {o : O} {v : V}, Odd G o v → Odd G' o v
  | .d x, v, h => by simp only [Odd] at h ⊢; exact h.same e
  | .box t, v, h => by
    simp only [Odd] at h ⊢
    obtain ⟨a, rfl, h⟩ := h
    refine ⟨a, rfl, h.imp (fun ⟨h1, xs, h2⟩ => ⟨h1, xs, e _ _ h2⟩) fun ⟨h1, xs, h2⟩ => ⟨h1, xs, e _ _ h2⟩⟩
  | .tup os, v, h => by
    simp only [Odd] at h ⊢
    obtain ⟨a, xs, rfl, h1, h2⟩ := h
    exact ⟨a, xs, rfl, e _ _ h1, Odds.same e h2⟩
theorem Odds.same {G G' : Hp} (e : Same G G') : ∀ {os : List O} {vs : List V}, Odds G os vs → Odds G' os vs
  | [], vs, h => by simpa only [Odds] using h
  | o :: os, vs, h => by
    simp only [Odds] at h ⊢
    obtain ⟨x, r, rfl, h1, h2⟩ := h
    exact ⟨x, r, rfl, Odd.same e h1, Odds.same e h2⟩
end
theorem Odds.length : ∀ {G : Hp} {os : List O} {vs : List V}, Odds G os vs → vs.length = os.length
  | G, [], vs, h => by simp only [Odds] at h; rw [h]; rfl
  | G, o :: os, vs, h => by
    simp only [Odds] at h
    obtain ⟨x, r, rfl, _, h2⟩ := h
    rw [List.length_cons, List.length_cons, Odds.length h2]
def oA : O → V → AV
  | .d x, _ => .d x
  | .box t, v => .p v (fun G => Odd G (.box t) v)
  | .tup os, v => .p v (fun G => Odd G (.tup os) v)
def isO (x : AV) (o : O) : Prop := ∃ v, x = oA o v
theorem isO_oA {o : O} {v : V} : isO (oA o v) o := ⟨v, rfl⟩
theorem isO_d {d : D} : isO (.d d) (.d d) := ⟨.non, rfl⟩
theorem rv_oA {G : Hp} {o : O} {v : V} (h : Odd G o v) : RV G (oA o v) v := by
  cases o with
  | d x => simpa only [oA, RV, Odd] using h
  | _ => exact ⟨rfl, fun G' s => h.same s⟩
theorem isO.odd {G : Hp} {x : AV} {o : O} {v : V} (h : isO x o) (r : RV G x v) : Odd G o v := by
  obtain ⟨u, rfl⟩ := h
  cases o with
  | d x => simp only [Odd]; exact r
  | _ => obtain ⟨rfl, h⟩ := r; exact h G (Same.refl _)
def isOs : List AV → List O → Prop
  | [], os => os = []
  | x :: xs, os => ∃ o r, os = o :: r ∧ isO x o ∧ isOs xs r
theorem isOs.odds {G : Hp} : ∀ {xs : List AV} {os : List O} {vs : List V}, isOs xs os → RVs G xs vs → Odds G os vs
  | [], os, vs, h, r => by cases (show os = [] from h); cases (show vs = [] from r); simp only [Odds]
  | x :: xs, os, vs, ⟨o, r, e1, h1, h2⟩, ⟨v, us, e2, r1, r2⟩ => by
    subst e1 e2
    simp only [Odds]
    exact ⟨v, us, rfl, h1.odd r1, isOs.odds h2 r2⟩
theorem rvs_oA {G : Hp} : ∀ {os : List O} {vs : List V}, Odds G os vs → RVs G (List.zipWith oA os vs) vs
  | [], vs, h => by simp only [Odds] at h; subst h; rfl
  | o :: os, vs, h => by
    simp only [Odds] at h
    obtain ⟨x, r, rfl, h1, h2⟩ := h
    exact ⟨x, r, rfl, rv_oA h1, rvs_oA h2⟩
def tyO : O → String
  | .d x => tyD x
  | .box t => if t then "dict" else "list"
  | .tup _ => "tuple"
def isDO (T : String) (o : O) : Bool := tyO o == T || (tyO o == "bool" && T == "int")
theorem ty_odd {G : Hp} {o : O} {v : V} (h : Odd G o v) : tyName G v = some (tyO o) := by
  cases o with
  | d x => simp only [Odd] at h; exact ty_of h
  | box t =>
    simp only [Odd] at h
    obtain ⟨a, rfl, ⟨rfl, xs, h⟩ | ⟨rfl, ks, h⟩⟩ := h <;> simp [tyName, h, tyO]
  | tup os =>
    simp only [Odd] at h
    obtain ⟨a, xs, rfl, h, _⟩ := h
    simp [tyName, h, tyO]
def aIsO : AC := fun xs ω Q => ∃ x o T, xs = [x, .r (.ty T)] ∧ isO x o ∧ T ∈ kinds ∧ Q (.d (.bl (isDO T o))) ω
theorem c_isO : RefC (fun xs H Q => ∃ x T, xs = [x, .ty T] ∧ T ∈ kinds ∧ (tyName H x).isSome = true ∧ Q (.bl (isA H x T)) H) aIsO := ⟨fun F H ω vs xs Q Q' rp rv ⟨x, o, T, e1, e2, e3, q⟩ k => by
  subst e1
  obtain ⟨v, u, rfl, r1, r2⟩ := rvs2 rv
  cases (show u = .ty T from r2)
  have ht := ty_odd ((e2.odd r1).same cut_same)
  refine ⟨v, T, rfl, e3, by rw [ht]; rfl, ?_⟩
  have : isA H v T = isDO T o := by simp [isA, ht, isDO]
  rw [this]
  exact k.bl rp q⟩
def seqO : O → Option (List O)
  | .d (.tup ds) => some (ds.map O.d)
  | .tup os => some os
  | _ => none
theorem odds_d {G : Hp} : ∀ {ds : List D} {vs : List V}, Dats G ds vs → Odds G (ds.map O.d) vs
  | [], vs, h => by simp only [Dats] at h; subst h; simp only [List.map_nil, Odds]
  | d :: ds, vs, h => by
    simp only [Dats] at h
    obtain ⟨x, r, rfl, h1, h2⟩ := h
    simp only [List.map_cons, Odds, Odd]
    exact ⟨x, r, rfl, h1, odds_d h2⟩
theorem seqO_of {G : Hp} {o : O} {os : List O} {v : V} (h : Odd G o v) (e : seqO o = some os) : ∃ a xs, v = .ref a ∧ G a = some (.tup xs) ∧ Odds G os xs := by
  cases o with
  | box t => cases e
  | tup os' => cases e; simpa only [Odd] using h
  | d x =>
    cases x with
    | tup ds =>
      cases e
      simp only [Odd, Dat] at h
      obtain ⟨a, xs, e, h1, h2⟩ := h
      exact ⟨a, xs, e, h1, odds_d h2⟩
    | _ => cases e
def aLenP : AC := fun xs ω Q => ∃ x o os, xs = [x] ∧ isO x o ∧ seqO o = some os ∧ Q (.d (.int os.length)) ω
theorem c_lenP {K : PySem.W.Frag} : RefC (fun xs H Q => ∃ x n, xs = [x] ∧ LenV K x H n ∧ Q (.int n) H) aLenP := ⟨fun F H ω vs xs Q Q' rp rv ⟨x, o, os, e1, e2, e3, q⟩ k => by
  subst e1
  obtain ⟨v, rfl, r⟩ := rvs1 rv
  obtain ⟨a, us, rfl, q1, q2⟩ := seqO_of (e2.odd r) e3
  exact ⟨_, os.length, rfl, .inr ⟨us, .inl (.inl (cut_same _ _ q1)), q2.length.symm⟩, k.int rp q⟩⟩
theorem it_odd {K : PySem.W.Frag} {G : Hp} {os : List O} {us : List V} {a : Addr} (h1 : G a = some (.tup us)) (h2 : Odds G os us) : ItOk G (List.zipWith oA os us) (Itt K a) := fun F H ω rp s => by
  have hq : SqT K H a us := .inl (.inl (cut_same _ _ (s _ _ h1)))
  have hr := rvs_oA (h2.same s)
  refine ⟨⟨us, hq, by rw [← hr.length]; exact Nat.le_refl _⟩, fun i x hx => ?_⟩
  obtain ⟨v, e1, e2⟩ := hr.get hx
  refine ⟨⟨us, v, hq, e1⟩, fun y H' hy => ?_⟩
  obtain ⟨rfl, hy⟩ := hy
  have := hy us hq
  rw [e1] at this
  cases this
  exact ⟨rp, .refl, e2⟩
def aiSeqO (te : AE) : AI := fun ρ ω R => te ρ ω fun x ω1 => ∃ o os, isO x o ∧ seqO o = some os ∧ ∀ us : List V, us.length = os.length → R (List.zipWith oA os us) ω1
theorem i_seqO {K : PySem.W.Frag} {te : TE} {te' : AE} (h : RefE te te') : RefI (iSeq K te) (aiSeqO te') := ⟨fun F H ω σ ρ R R' rp rs w k => h.go rp rs w fun x ω1 v H1 rp1 fr1 rs1 rv ⟨o, os, e1, e2, q⟩ => by
  obtain ⟨a, us, rfl, q1, q2⟩ := seqO_of (e1.odd rv) e2
  exact .inr ⟨a, rfl, ⟨us, .inl (.inl (cut_same _ _ q1))⟩, k _ ω1 _ H1 rp1 fr1 (it_odd q1 q2) (q us q2.length)⟩⟩
def aTupP (t : AA) : AE := fun ρ ω Q => t ρ ω fun xs ω1 => xs.length ≤ sizeLine ∧ ∃ os, isOs xs os ∧ ∀ v, Q (oA (.tup os) v) ω1
theorem e_tupP {s : TA} {s' : AA} (hs : RefA s s') : RefE (tTup s) (aTupP s') := ⟨fun F H ω σ ρ Q Q' rp rs h k =>
  hs.go rp rs h fun xs ω1 vs H1 rp1 fr1 rs1 rv1 ⟨z, os, ho, q1⟩ => ⟨by rw [rv1.length]; exact z, fun p hp => by
    obtain ⟨rp2, fr2, hc⟩ := rp1.lay (o := .tup vs) hp
    refine k _ ω1 _ _ rp2 (fr1.trans fr2) (rv_oA (o := .tup os) ?_) (q1 (.ref p))
    simp only [Odd]
    exact ⟨p, vs, rfl, hc, (ho.odds rv1).same fr2.same⟩⟩⟩
def aLstP (t : AA) : AE := fun ρ ω Q => t ρ ω fun xs ω1 => xs.length ≤ sizeLine ∧ ∀ v, Q (oA (.box false) v) ω1
theorem e_lstP {s : TA} {s' : AA} (hs : RefA s s') : RefE (tLst s) (aLstP s') := ⟨fun F H ω σ ρ Q Q' rp rs h k =>
  hs.go rp rs h fun xs ω1 vs H1 rp1 fr1 rs1 rv1 ⟨z, q1⟩ => ⟨by rw [rv1.length]; exact z, fun p hp => by
    obtain ⟨rp2, fr2, hc⟩ := rp1.lay (o := .lst vs) hp
    refine k _ ω1 _ _ rp2 (fr1.trans fr2) (rv_oA (o := .box false) ?_) (q1 (.ref p))
    simp only [Odd]
    exact ⟨p, rfl, .inl ⟨trivial, vs, hc⟩⟩⟩⟩
def Om.del (ω : Om) (l : Addr) : Om := fun b => if b = l then none else ω b
theorem Om.del_same {ω : Om} {l : Addr} : ω.del l l = none := by unfold Om.del; rw [if_pos rfl]
theorem Om.del_ne {ω : Om} {l b : Addr} (h : b ≠ l) : ω.del l b = ω b := by unfold Om.del; rw [if_neg h]
theorem Om.del_put {ω : Om} {l : Addr} {c : OC} (h : ω l = none) : (ω.put l c).del l = ω := by
  funext b
  by_cases hb : b = l
  · subst hb; rw [Om.del_same, h]
  · rw [Om.del_ne hb, Om.put_ne hb]
section
variable {F : Fs} {H : Hp} {ω : Om}
theorem Rep.give (R : Rep F H ω) {l : Addr} {o : HO} (h : ow (ω l) = true) : Rep F (upd H l o) (ω.del l) ∧ Fr F H ω (upd H l o) (ω.del l) ∧ cut F (upd H l o) (ω.del l) l = some o := by
  have hn : ω l ≠ none := fun z => by rw [z] at h; cases h
  have hF : F l = false := by
    cases e : F l with
    | false => rfl
    | true => exact absurd (R.hid l e).1 hn
  have fr : Fr F H ω (upd H l o) (ω.del l) := by
    refine ⟨fun b o' x f e => ?_, fun b f => ?_⟩
    · have hb : b ≠ l := fun z => by subst z; rw [h] at x; cases x
      exact ⟨by rw [upd_ne hb]; exact e, by rw [Om.del_ne hb]; exact x⟩
    · have hb : b ≠ l := fun z => by subst z; rw [hF] at f; cases f
      rw [upd_ne hb]
  refine ⟨⟨fun k zs e => ?_, fun k es e => ?_, fun b f => ?_, fun k ks e => ?_⟩, fr, cut_some.mpr ⟨by rw [Om.del_same]; rfl, hF, upd_same⟩⟩
  · have hk : k ≠ l := fun z => by subst z; rw [Om.del_same] at e; cases e
    rw [Om.del_ne hk] at e
    obtain ⟨us, q1, q2⟩ := R.own k zs e
    exact ⟨us, by rw [upd_ne hk]; exact q1, q2.same fr.same⟩
  · have hk : k ≠ l := fun z => by subst z; rw [Om.del_same] at e; cases e
    rw [Om.del_ne hk] at e
    exact (R.frz k es e).same fr.same
  · obtain ⟨x, vs, q⟩ := R.hid b f
    have hb : b ≠ l := fun z => hn (by rw [← z]; exact x)
    exact ⟨by rw [Om.del_ne hb]; exact x, vs, by rw [upd_ne hb]; exact q⟩
  · have hk : k ≠ l := fun z => by subst z; rw [Om.del_same] at e; cases e
    rw [Om.del_ne hk] at e
    obtain ⟨us, q1, q2⟩ := R.dic k ks e
    exact ⟨us, by rw [upd_ne hk]; exact q1, q2.same fr.same⟩
end
def aDct0 : AE := fun _ ω Q => ∀ v, Q (oA (.box true) v) ω
theorem e_dct0 : RefE tDNewK aDct0 := ⟨fun F H ω σ ρ Q Q' rp rs h k p hp => by
  obtain ⟨rp2, fr2, hc⟩ := rp.lay (o := .dK []) hp
  refine k _ ω _ _ rp2 fr2 (rv_oA (o := .box true) ?_) (h (.ref p))
  simp only [Odd]
  exact ⟨p, rfl, .inr ⟨trivial, [], hc⟩⟩⟩
def aiGive (te : AE) : AI := fun ρ ω R => te ρ ω fun x ω1 => ∃ l xs, x = .r (.ref l) ∧ ω1 l = some (.own xs) ∧ R xs (ω1.del l)
theorem it_lstA {K : PySem.W.Frag} {G : Hp} {xs : List AV} {us : List V} {a : Addr} (h1 : G a = some (.lst us)) (h2 : RVs G xs us) : ItOk G xs (Itl K a) := fun F H ω rp s => by
  have hq : SqL K H a us := .inl (.inl (cut_same _ _ (s _ _ h1)))
  have hr := h2.same s
  refine ⟨⟨us, hq, by rw [← hr.length]; exact Nat.le_refl _⟩, fun i x hx => ?_⟩
  obtain ⟨v, e1, e2⟩ := hr.get hx
  refine ⟨⟨us, v, hq, e1⟩, fun y H' hy => ?_⟩
  obtain ⟨rfl, hy⟩ := hy
  have := hy us hq
  rw [e1] at this
  cases this
  exact ⟨rp, .refl, e2⟩
theorem i_give {K : PySem.W.Frag} {te : TE} {te' : AE} (h : RefE te te') : RefI (iSeq K te) (aiGive te') := ⟨fun F H ω σ ρ R R' rp rs w k => h.go rp rs w fun x ω1 v H1 rp1 fr1 rs1 rv ⟨l, xs, e1, e2, q⟩ => by
  subst e1
  cases (show v = .ref l from rv)
  obtain ⟨us, z1, z2⟩ := rp1.own l xs e2
  obtain ⟨rp2, fr2, hc⟩ := rp1.give (l := l) (o := .lst us) (by rw [e2]; rfl)
  have eu : upd H1 l (.lst us) = H1 := by
    funext b
    by_cases hb : b = l
    · subst hb; rw [upd_same, z1]
    · rw [upd_ne hb]
  rw [eu] at rp2 fr2 hc
  exact .inl ⟨l, rfl, ⟨us, .inl (.inl z1)⟩, k _ _ _ H1 rp2 (fr1.trans fr2) (it_lstA hc (z2.same fr2.same)) q⟩⟩
theorem Odds.append : ∀ {G : Hp} {os ps : List O} {xs ys : List V}, Odds G os xs → Odds G ps ys → Odds G (os ++ ps) (xs ++ ys)
  | G, [], ps, xs, ys, h, h' => by simp only [Odds] at h; subst h; exact h'
  | G, o :: os, ps, xs, ys, h, h' => by
    simp only [Odds] at h
    obtain ⟨x, r, rfl, h1, h2⟩ := h
    show Odds G (o :: (os ++ ps)) (x :: (r ++ ys))
    simp only [Odds]
    exact ⟨x, r ++ ys, rfl, h1, Odds.append h2 h'⟩
def aAddP : A2 := fun x y ω Q => ∃ o o' os ps, isO x o ∧ isO y o' ∧ seqO o = some os ∧ seqO o' = some ps ∧ os.length + ps.length ≤ sizeLine ∧ ∀ v, Q (oA (.tup (os ++ ps)) v) ω
theorem o_addP {r1 r2 : R2} : Ref2 (rOr r1 (rOr rCat3 r2)) aAddP := ⟨fun F H ω v u x y Q Q' rp h1 h2 ⟨o, o', os, ps, e1, e2, e3, e4, hz, q⟩ k => by
  obtain ⟨a, xs, rfl, q1, q2⟩ := seqO_of (e1.odd h1) e3
  obtain ⟨b, ys, rfl, q3, q4⟩ := seqO_of (e2.odd h2) e4
  have l1 := q2.length
  have l2 := q4.length
  refine .inr (.inl ⟨a, b, xs, ys, rfl, rfl, cut_same _ _ q1, cut_same _ _ q3, by omega, fun e => ?_, fun e => ?_, fun p hp => ?_⟩)
  · subst e
    have : os = [] := List.length_eq_zero_iff.mp (by simpa using l1.symm)
    subst this
    refine k _ ω _ H rp .refl (rv_oA (o := .tup ps) ?_) (q (.ref b))
    simp only [Odd]
    exact ⟨b, ys, rfl, q3, q4⟩
  · subst e
    have : ps = [] := List.length_eq_zero_iff.mp (by simpa using l2.symm)
    subst this
    rw [List.append_nil] at q
    refine k _ ω _ H rp .refl (rv_oA (o := .tup os) ?_) (q (.ref a))
    simp only [Odd]
    exact ⟨a, xs, rfl, q1, q2⟩
  · obtain ⟨rp2, fr2, hc⟩ := rp.lay (o := .tup (xs ++ ys)) hp
    refine k _ ω _ _ rp2 fr2 (rv_oA (o := .tup (os ++ ps)) ?_) (q (.ref p))
    simp only [Odd]
    exact ⟨p, _, rfl, hc, (q2.append q4).same fr2.same⟩⟩
theorem Fun.okO {P : Program} {w : World} {K : PySem.W.Frag} {mg : Str → Option Value} {base : Heap} {x qual : Str} {st : Stmt} {f : Addr} {fd : FuncData} {N ps : List Str} {k : Nat} {sp : ASp} (F : Fun K x qual st f fd) (S : FnScope N ps (defScope st)) (len : ∀ xs ω Q, sp xs ω Q → xs.length = ps.length)
    (hbody : ∀ (cdv : Value) (A : Around) (outer : List Env) (s : Shared) (H : Hp) (E : XK), Room k (A.deeper (envOfC qual (defScope st) s.heap.objs.size f cdv)) →
      ∃ t t', PSs (cxOf CX0 P w K mg base N qual (defScope st) f cdv A outer s H E).nox (defBody st) t ∧ RefS t t' ∧ ∀ xs ω Q', sp xs ω Q' → t' { nx := fun _ ω' => Q' (.d .non) (ω'.only ω), rt := fun a ω' => Q' a (ω'.only ω) } (startA N xs) ω) : FnOk P w K mg base CX0 (k + 1) f fd ps (lift sp) := by
  refine F.ok S (fun vs H Q E h => ?_) (fun cdv A outer s H vs Q E hr h => ?_)
  · obtain ⟨F, xs, ω, Q', rp, rv, h, _⟩ := h
    rw [rv.length, len xs ω Q' h]
  · obtain ⟨t, t', h1, h2, h3⟩ := hbody cdv A outer s H E hr
    obtain ⟨F, xs, ω, Q', rp, rv, h, kq⟩ := h
    refine ⟨t, h1, h2.run F H ω _ _ _ _ rp (RS.start rv) (h3 xs ω Q' h) ⟨?_, ?_, fun _ _ _ _ _ _ _ z => z.elim, fun _ _ _ _ _ _ _ z => z.elim⟩⟩
    · exact fun ρ' ω' σ' H' e1 e2 e3 q => kq (.d .non) (ω'.only ω) .non H' e1.only.1 e2.only (by simp [RV, Dat]) q
    · exact fun a ω' v H' e1 e2 e3 q => kq a (ω'.only ω) v H' e1.only.1 e2.only (e3.same e1.only.2) q
end L2
set_option Elab.async false
set_option linter.all false
set_option autoImplicit false
set_option maxRecDepth 100000
set_option maxHeartbeats 1000000
namespace L2
open PySem PySem.Spec PyProof.Rows AutoSeq1
section
variable {A : Around} {s : Shared}
end
def aDctK (tk te : AE) : AE := fun ρ ω Q => ∀ p, ω p = none → tk ρ (ω.put p (.dic [])) fun kx ω0 => ((∃ z, kx = .d (.str z)) ∨ ∃ n, kx = .d (.int n)) ∧ te ρ ω0 fun _ ω1 => ω1 p = some (.dic []) ∧ ∀ v, Q (oA (.box true) v) (ω1.del p)
theorem e_dctK {tk te : TE} {tk' te' : AE} (hk : RefE tk tk') (he : RefE te te') : RefE (tDisp [(tk, te)]) (aDctK tk' te') := ⟨fun F H ω σ ρ Q Q' rp rs h k p hp => by
  obtain ⟨rp1, fr1⟩ := rp.mkD (xs := []) (vs := []) hp rfl
  refine hk.go rp1 (rs.same fr1.same) (h p (rp.free hp).1) fun kx ω0 kv H0 rp0 fr0 rs0 rv0 ⟨hkey, h0⟩ => ?_
  refine he.go rp0 rs0 h0 fun x ω1 v H1 rp2 fr2 rs2 rv2 ⟨e1, q⟩ => ?_
  obtain ⟨k0, z1, z2⟩ := rp2.dic p [] e1
  cases z2
  obtain ⟨key, hkv⟩ : ∃ key : Key, kv = kV key := by
    rcases hkey with ⟨z, rfl⟩ | ⟨n, rfl⟩
    · exact ⟨.inr z, rv_str rv0⟩
    · exact ⟨.inl n, rv_int rv0⟩
  refine ⟨z1, [(key, v)], by rw [hkv]; rfl, by simp, ?_⟩
  obtain ⟨rp3, fr3, hc⟩ := rp2.give (l := p) (o := .dK (mergeK [] [(key, v)])) (by rw [e1]; rfl)
  refine k _ _ _ _ rp3 (((fr1.trans fr0).trans fr2).trans fr3) (rv_oA (o := .box true) ?_) (q (.ref p))
  simp only [Odd]
  exact ⟨p, rfl, .inr ⟨trivial, _, hc⟩⟩⟩
end L2
set_option Elab.async false
set_option linter.all false
set_option autoImplicit false
set_option maxRecDepth 100000
set_option maxHeartbeats 1000000
namespace L2
open PySem PySem.Spec PyProof.Rows AutoSeq1
theorem tup_norev : typeLookup (.type "tuple") "__reversed__" = pure none := by rw [typeLookup_type, builtinLookup_eq_fast]; kernel_rfl
theorem sub_tuple_dict : isSubtype (.type "tuple") (.type "dict") = pure false := by rw [isSubtype_type]; kernel_rfl
theorem owner_rev : Manifest.owners.lookup (String.ofList ['d', 'e', 's', 'r', 'e', 'v', 'e', 'r'].reverse) = some Manifest.sig_reversed := by kernel_rfl
theorem slot_rev_next : Slot "reversed" "__next__" "reversed.__next__" :=
  .of (owner := "reversed") (n := "__next__") (by rw [typeLookup_type, builtinLookup_eq_fast]; kernel_rfl) (by decide +kernel) (by decide +kernel) (by decide +kernel)
    (by first | exact .inl (by decide +kernel) | exact .inr (by decide +kernel)) (by rw [isSubtype_type]; kernel_rfl)
theorem entry_rev_next : entryFor table "reversed.__next__" = some Builtin.«reversed.__next__» := entryFor_of_tree (by kernel_rfl)
theorem args_rev_next (a : Value) : argsOk "reversed.__next__" ⟨[a], []⟩ := by
  unfold argsOk; rw [signature?_of (id := "reversed.__next__") (n := ['_', '_', 't', 'x', 'e', 'n', '_', '_']) (o := ['d', 'e', 's', 'r', 'e', 'v', 'e', 'r']) (by kernel_rfl) owner_rev]; kernel_rfl
theorem slot_rev_iter : Slot "reversed" "__iter__" "reversed.__iter__" :=
  .of (owner := "reversed") (n := "__iter__") (by rw [typeLookup_type, builtinLookup_eq_fast]; kernel_rfl) (by decide +kernel) (by decide +kernel) (by decide +kernel)
    (by first | exact .inl (by decide +kernel) | exact .inr (by decide +kernel)) (by rw [isSubtype_type]; kernel_rfl)
theorem args_rev_iter (a : Value) : argsOk "reversed.__iter__" ⟨[a], []⟩ := by
  unfold argsOk; rw [signature?_of (id := "reversed.__iter__") (n := ['_', '_', 'r', 'e', 't', 'i', '_', '_']) (o := ['d', 'e', 's', 'r', 'e', 'v', 'e', 'r']) (by kernel_rfl) owner_rev]; kernel_rfl
theorem entry_rev_iter : entryFor table "reversed.__iter__" = some Builtin.«dict_keyiterator.__iter__» :=
  entryFor_alias (id' := "dict_keyiterator.__iter__") (by kernel_rfl) (by first | rfl | decide +kernel | (unfold String.splitOn; simp +decide [String.splitOnAux])) (by decide +kernel) (by kernel_rfl)
theorem rev_nolen : typeLookup (.type "reversed") "__len__" = pure none := by rw [typeLookup_type, builtinLookup_eq_fast]; kernel_rfl
theorem slot_rev_hint : Slot "reversed" "__length_hint__" "reversed.__length_hint__" :=
  .of (owner := "reversed") (n := "__length_hint__") (by rw [typeLookup_type, builtinLookup_eq_fast]; kernel_rfl) (by decide +kernel) (by decide +kernel) (by decide +kernel)
    (by first | exact .inl (by decide +kernel) | exact .inr (by decide +kernel)) (by rw [isSubtype_type]; kernel_rfl)
theorem entry_rev_hint : entryFor table "reversed.__length_hint__" = some Builtin.«reversed.__length_hint__» := entryFor_of_tree (by kernel_rfl)
theorem args_rev_hint (a : Value) : argsOk "reversed.__length_hint__" ⟨[a], []⟩ := by
  unfold argsOk; rw [signature?_of (id := "reversed.__length_hint__") (n := ['_', '_', 't', 'n', 'i', 'h', '_', 'h', 't', 'g', 'n', 'e', 'l', '_', '_']) (o := ['d', 'e', 's', 'r', 'e', 'v', 'e', 'r']) (by kernel_rfl) owner_rev]; kernel_rfl
theorem slot_rev_init : Slot "reversed" "__init__" "object.__init__" :=
  .of (owner := "object") (n := "__init__") (by rw [typeLookup_type, builtinLookup_eq_fast]; kernel_rfl) (by decide +kernel) (by decide +kernel) (by decide +kernel)
    (by first | exact .inl (by decide +kernel) | exact .inr (by decide +kernel)) (by rw [isSubtype_type]; kernel_rfl)
theorem called_rev : TypeCalled "reversed" "reversed.__new__" "object.__init__" :=
  ⟨by decide +kernel, by decide +kernel, ⟨_, _, F.mro_reversed⟩, F.made_reversed, by decide +kernel, by rw [isSubtype_type]; kernel_rfl, slot_rev_init⟩
abbrev IsRev (h : Heap) (it l : Addr) (i : Int) : Prop := h.get? it = some { cls := .type "reversed", data := .fields #[.ref l, rawInt i] }
theorem rev_new {l : Addr} {items : Array Value} (hz : (items.size : Int) < 2 ^ 63) :
    Meets (Builtin.«reversed.__new__» ⟨[.type "reversed", .ref l], []⟩) (fun _ R S => S.heap.IsTuple l items ∧ R (.ok (.ret (.ref S.heap.objs.size))) { S with heap := S.heap.push { cls := .type "reversed", data := .fields #[.ref l, rawInt ((items.size : Int) - 1)] }, toks := S.toks + 1 + 1 }) :=
  .of_wp fun prog w A R S h => by
    obtain ⟨hl, h⟩ := h
    have hT : S.TypeIs (.ref l) "tuple" := let ⟨o, e, c, _⟩ := hl; ⟨o, e, c⟩
    unfold Builtin.«reversed.__new__»
    refine wpAny_bind (wpAny_of_eq (newClass_reversed _) ?_)
    try dsimp only
    refine wpAny_bind (wpAny_of_eq (a := ()) (by first | rfl | kernel_rfl) ?_)
    refine wpAny_bind (wpAny_of_eq (a := ()) (by first | rfl | kernel_rfl) ?_)
    try dsimp only
    refine wpAny_bind (wpAny_specialOf hT tup_norev ?_)
    try dsimp only
    refine wpAny_bind ?_
    wp_delta
    refine wpAny_bind (wpAny_isInstance (b := false) hT sub_tuple_dict ?_)
    rw [if_neg (by decide)]
    refine wpAny_bind (wpAny_specialOf hT slot_tuple_getitem.lookup ?_)
    dsimp only
    rw [if_pos (by decide +kernel)]
    refine wpAny_pure ?_
    rw [if_neg (by decide)]
    refine wpAny_bind (len_tuple hl hz ?_)
    refine wpAny_bind (m := asInt? _) (wpAny_pure ?_)
    dsimp only
    unfold Builtin.SmallTypes.newRecord
    exact wpAny_bind (wpAny_newObj_type (wpAny_pure ⟨_, rfl, h⟩))
section
variable {prog : Program} {w : World} {A : Around} {E : Value → Shared → Prop} {s : Shared}
theorem call_rev {l : Addr} {items : Array Value} {Q : Value → Shared → Prop} (hl : s.heap.IsTuple l items) (hz : (items.size : Int) < 2 ^ 63)
    (h : Q (.ref s.heap.objs.size) { s with heap := s.heap.push { cls := .type "reversed", data := .fields #[.ref l, rawInt ((items.size : Int) - 1)] }, toks := s.toks + 1 + 1 }) : wpAny (model prog w) A (call (.type "reversed") [.ref l]) Q E s :=
  callType_new called_rev (by decide) (F.typeCall_reversed_1 _) (F.newCall_reversed_1 _) (fun obj => F.args_object_init_2 obj _) F.entry_reversed_new (rev_new hz) ⟨hl, ⟨_, Heap.get?_push_size _ rfl, rfl⟩, h⟩
theorem rev_item {it l : Addr} {i : Nat} {items : Array Value} {x : Value} {Q : Option Value → Shared → Prop} (hit : IsRev s.heap it l (i : Int)) (hl : s.heap.IsTuple l items) (hx : items[i]? = some x) (hz : (items.size : Int) < 2 ^ 63)
    (hQ : ∀ h' tk, IsRev h' it l ((i : Int) - 1) → Heap.SameBut it s.heap h' → s.toks ≤ tk → Q (some x) { s with heap := h', toks := tk }) : wpAny (model prog w) A (pyNext (.ref it)) Q E s := by
  have hT : s.TypeIs (.ref it) "reversed" := ⟨_, hit, rfl⟩
  have hTl : s.TypeIs (.ref l) "tuple" := let ⟨o, e, c, _⟩ := hl; ⟨o, e, c⟩
  unfold pyNext
  refine wpAny_bind (wpAny_attempt (wpAny_callSpecial?_slot (name := Str.ofString "__next__") hT slot_rev_next
    (wpAny_call_entry slot_rev_next hT entry_rev_next ?_ (args_rev_next _))))
  unfold Builtin.«reversed.__next__»
  refine wpAny_bind (wpAny_of_eq (a := (Value.ref it, [])) rfl ?_)
  try dsimp only
  refine wpAny_bind (wpAny_field hit (x := .ref l) rfl rfl ?_)
  refine wpAny_bind (wpAny_field hit (x := rawInt (i : Int)) rfl rfl ?_)
  show wpAny _ _ (if (i : Int) < 0 then _ else _) _ _ s
  rw [if_neg (by omega)]
  refine wpAny_bind (wpAny_specialOf hTl slot_tuple_getitem.lookup ?_)
  rw [if_neg (show ¬ ((some (Value.builtin "tuple.__getitem__")).isNone = true) from Bool.false_ne_true)]
  refine wpAny_bind (m := mkInt _) (wpAny_mkInt ?_)
  refine wpAny_bind (wpAny_attempt (getItem_tuple (s := { s with toks := s.toks + 1 }) (j := i) hl (by omega) ?_ (seqIndex_of (by omega) ?_) hx ?_))
  · have := (Array.getElem?_eq_some_iff.mp hx).1; omega
  · have := (Array.getElem?_eq_some_iff.mp hx).1; omega
  show wpAny _ _ (field (.ref it) 1 >>= _) _ _ _
  refine wpAny_bind (wpAny_field (s := { s with toks := s.toks + 1 }) hit (x := rawInt (i : Int)) rfl rfl ?_)
  show wpAny _ _ (setField (.ref it) 1 (rawInt ((i : Int) - 1)) >>= _) _ _ _
  refine wpAny_bind (wpAny_setField_rec (s := { s with toks := s.toks + 1 }) hit (by simp) fun k1 z1 b1 => ?_)
  exact wpAny_pure ⟨x, rfl, wpAny_pure (hQ k1 _ z1 b1 (Nat.le_succ _))⟩
theorem rev_end {it l : Addr} {Q : Option Value → Shared → Prop} (hh : A.handled = none) (hit : IsRev s.heap it l (-1))
    (hQ : ∀ h', Heap.ExtBut it s.heap h' → Q none { s with heap := h' }) : wpAny (model prog w) A (pyNext (.ref it)) Q E s := by
  have hT : s.TypeIs (.ref it) "reversed" := ⟨_, hit, rfl⟩
  unfold pyNext
  refine wpAny_bind (wpAny_attempt (wpAny_callSpecial?_slot (name := Str.ofString "__next__") hT slot_rev_next
    (wpAny_call_entry slot_rev_next hT entry_rev_next ?_ (args_rev_next _))))
  unfold Builtin.«reversed.__next__»
  refine wpAny_bind (wpAny_of_eq (a := (Value.ref it, [])) rfl ?_)
  try dsimp only
  refine wpAny_bind (wpAny_field hit (x := .ref l) rfl rfl ?_)
  refine wpAny_bind (wpAny_field hit (x := rawInt (-1)) rfl rfl ?_)
  show wpAny _ _ (if (-1 : Int) < 0 then _ else _) _ _ s
  rw [if_pos (by decide)]
  refine wpAny_bind (wpAny_rule ?_)
  refine wpAny_bind ?_
  wp_delta
  refine wpAny_bind (wpAny_setField_rec hit (by simp) fun k1 z1 b1 => ?_)
  refine wpAny_setField_rec z1 (by simp) fun k2 z2 b2 => ?_
  refine wpAny_bind ?_
  first
  | show wpAny _ _ (newExc (.type "StopIteration") [] >>= _) _ _ _
  | (refine wpAny_bind ?_; show wpAny _ _ (newExc (.type "StopIteration") [] >>= _) _ _ _)
  refine wpAny_bind ?_
  simp only [newExc, newTuple]
  refine wpAny_bind (wpAny_newObj_type ?_ (by size_fits))
  refine wpAny_bind (m := firstArgMember _ _) (wpAny_of_eq (a := Value.none) (by first | rfl | (simp only [firstArgMember]; rfl)) ?_)
  refine wpAny_newObj_type ?_ (by size_fits)
  simp only [raiseNew]
  refine wpAny_bind (wpAny_handled ?_)
  first | rw [show A.in1.handled = none from hh] | rw [hh]
  refine wpAny_bind (wpAny_pure (wpAny_throw ?_))
  refine wpAny_bind (wpAny_isInstance (T := "StopIteration") (b := true) ⟨_, Heap.get?_push_size _ rfl, rfl⟩ isSubtype_stop ?_)
  have hx : Heap.ExtBut it s.heap k2 := fun c ob h1 h2 => b2.extBut c ob h1 (b1.extBut c ob h1 h2)
  exact wpAny_pure (hQ _ ((hx.push _).push _))
theorem rev_self {it l : Addr} {i : Int} {Q : Value → Shared → Prop} (hit : IsRev s.heap it l i) (h : Q (.ref it) s) : wpAny (model prog w) A (pyIter (.ref it)) Q E s := by
  have hT : s.TypeIs (.ref it) "reversed" := ⟨_, hit, rfl⟩
  refine wpAny_pyIter_slot hT slot_rev_iter (wpAny_call_entry slot_rev_iter hT entry_rev_iter ?_ (args_rev_iter _))
  show wpAny _ _ (ret (.ref it)) _ _ s
  exact wpAny_pure ⟨_, rfl, "reversed", _, hT, slot_rev_next.lookup, h⟩
theorem rev_hint {it l : Addr} {items : Array Value} {Q : Value → Shared → Prop} (hit : IsRev s.heap it l ((items.size : Int) - 1)) (hl : s.heap.IsTuple l items) (hz : (items.size : Int) < 2 ^ 63)
    (h : ∀ u tk, s.toks ≤ tk → Q (.int (items.size : Int) u) { s with toks := tk }) : wpAny (model prog w) A (call (.builtin "reversed.__length_hint__") [.ref it]) Q E s := by
  have hT : s.TypeIs (.ref it) "reversed" := ⟨_, hit, rfl⟩
  refine wpAny_call_entry slot_rev_hint hT entry_rev_hint ?_ (args_rev_hint _)
  unfold Builtin.«reversed.__length_hint__»
  refine wpAny_bind (wpAny_of_eq (a := Value.ref it) (by first | rfl | kernel_rfl) ?_)
  refine wpAny_bind (wpAny_field hit (x := .ref l) rfl rfl ?_)
  rw [if_neg (show ¬ ((Value.ref l == Value.none) = true) from Bool.false_ne_true)]
  refine wpAny_bind (len_tuple hl hz ?_)
  refine wpAny_bind (m := asInt? _) (wpAny_pure ?_)
  dsimp only
  refine wpAny_bind (wpAny_field (s := { s with toks := s.toks + 1 + 1 }) hit (x := rawInt ((items.size : Int) - 1)) rfl rfl ?_)
  show wpAny _ _ (if (items.size : Int) < (items.size : Int) - 1 + 1 then _ else _) _ _ _
  rw [if_neg (by omega), show (items.size : Int) - 1 + 1 = (items.size : Int) from by omega]
  unfold retInt
  exact wpAny_bind (wpAny_mkInt (wpAny_pure ⟨_, rfl, h _ _ (show s.toks ≤ s.toks + 1 + 1 + 1 by omega)⟩))
theorem walks_rev (hh : A.handled = none) (I l : Addr) (hne : l ≠ I) (items : Array Value) (hz : (items.size : Int) < 2 ^ 63) :
    WalksS prog w A I [I, l] [I] (fun a b => b = a) items.size (fun i v => items[items.size - 1 - i]? = some v) (fun i s => i ≤ items.size ∧ IsRev s.heap I l ((items.size : Int) - 1 - (i : Int)) ∧ s.heap.IsTuple l items) where
  sub := fun b hb => by simp at hb; simp [hb]
  grefl := fun _ => rfl
  gtrans := fun _ _ _ h1 h2 => h2.trans h1
  frame := fun i s h' tk x htk hk => ⟨x.1, hk I (by simp) _ x.2.1, let ⟨o, e, r⟩ := x.2.2; ⟨o, hk l (by simp) o e, r⟩⟩
  item := fun i s Q E hi x hQ => by
    have e : (items.size : Int) - 1 - (i : Int) = ((items.size - 1 - i : Nat) : Int) := by omega
    have hit := x.2.1
    rw [e] at hit
    have hx : items[items.size - 1 - i]? = some (items[items.size - 1 - i]'(by omega)) := Array.getElem?_eq_getElem (by omega)
    refine rev_item hit x.2.2 hx hz fun h' tk hit' hs' htk => ?_
    have e2 : ((items.size - 1 - i : Nat) : Int) - 1 = (items.size : Int) - 1 - ((i + 1 : Nat) : Int) := by omega
    rw [e2] at hit'
    exact hQ _ _ hx ⟨hi, hit', let ⟨o, eo, r⟩ := x.2.2; ⟨o, (hs'.2 l hne).trans eo, r⟩⟩ ⟨fun b o hb eo => hs'.extBut b o (fun h => hb (by simp [h])) eo, rfl, rfl, rfl, htk⟩
  done := fun s Q E x hQ => by
    have e : (items.size : Int) - 1 - (items.size : Int) = -1 := by omega
    have hit := x.2.1
    rw [e] at hit
    exact rev_end hh hit fun h' he' => hQ _ ⟨fun b o hb eo => he' b o (fun h => hb (by simp [h])) eo, rfl, rfl, rfl, Nat.le_refl _⟩
  self := fun _ _ _ _ x hQ => rev_self x.2.1 hQ
end
section
variable {prog : Program} {w : World} {A : Around} {E : Value → Shared → Prop} {s : Shared}
theorem touch1 {S : Addr} {c : Nat} {Q : Unit → Shared → Prop} (hS : s.heap.get? S = some { cls := .type "list", data := .seq #[] c }) (h : ∀ k c', k.get? S = some { cls := .type "list", data := .seq #[Value.none] c' } → Heap.SameBut S s.heap k → Q () { s with heap := k }) :
    wpAny (model prog w) A (Builtin.List.listUpdate (.ref S) (·.push .none)) Q E s := by
  show wpAny _ _ (updateSeq S (·.push .none)) _ _ _
  have e := Heap.get?_update_self (Obj.mapSeq (·.push Value.none)) hS rfl
  simp only [Obj.mapSeq] at e
  exact wpAny_updateSeq hS rfl (h _ _ e (Heap.SameBut.update ..)) (show 0 ≤ sizeLine by decide) (show 1 ≤ sizeLine + 1 by decide)
theorem touch2 {S : Addr} {c : Nat} {Q : Unit → Shared → Prop} (hS : s.heap.get? S = some { cls := .type "list", data := .seq #[Value.none] c }) (h : ∀ k c', k.get? S = some { cls := .type "list", data := .seq #[] c' } → Heap.SameBut S s.heap k → Q () { s with heap := k }) :
    wpAny (model prog w) A (Builtin.List.listUpdate (.ref S) (·.pop)) Q E s := by
  show wpAny _ _ (updateSeq S (·.pop)) _ _ _
  have e := Heap.get?_update_self (Obj.mapSeq (·.pop)) hS rfl
  simp only [Obj.mapSeq] at e
  exact wpAny_updateSeq hS rfl (h _ _ e (Heap.SameBut.update ..)) (show 1 ≤ sizeLine by decide) (show 0 ≤ sizeLine + 1 by decide)
theorem coll_rev {Q : List Value → Shared → Prop} {I l : Addr} {items : Array Value} (hh : A.handled = none) (hne : l ≠ I) (hit : IsRev s.heap I l ((items.size : Int) - 1)) (hl : s.heap.IsTuple l items) (hz : items.size ≤ 1000) (h0 : 0 < items.size)
    (hQ : ∀ s' acc, Moved [I] (fun a b => b = a) s s' → ItemsOf (fun i v => items[items.size - 1 - i]? = some v) acc items.size → Q acc.toList s') : wpAny (model prog w) A (collect (.ref I)) Q E s := by
  have hz2 : (items.size : Int) < 2 ^ 63 := by omega
  have W := walks_rev (prog := prog) (w := w) (A := A.in1) hh I l hne items hz2
  have hn : items.size ≤ sizeLine := Nat.le_of_lt (small1000 hz)
  have hst : items.size ≥ 0 ∧ True := ⟨Nat.zero_le _, trivial⟩
  have hT : ∀ i (s : Shared), (i ≤ items.size ∧ IsRev s.heap I l ((items.size : Int) - 1 - (i : Int)) ∧ s.heap.IsTuple l items) → s.TypeIs (.ref I) "reversed" := fun i s x => ⟨_, x.2.1, rfl⟩
  have hfp : ∀ b ∈ [I, l], b < s.heap.objs.size := fun b hb => by
    rcases (by simpa using hb : b = I ∨ b = l) with rfl | rfl
    · exact Heap.lt_size hit
    · obtain ⟨o, e, _⟩ := hl; exact Heap.lt_size e
  have hst : 0 ≤ items.size ∧ IsRev s.heap I l ((items.size : Int) - 1 - ((0 : Nat) : Int)) ∧ s.heap.IsTuple l items := ⟨Nat.zero_le _, by rw [show (items.size : Int) - 1 - ((0 : Nat) : Int) = (items.size : Int) - 1 from by omega]; exact hit, hl⟩
  have hSf : s.heap.objs.size ∉ [I, l] := fun hm => Nat.lt_irrefl _ (hfp _ hm)
  have hSI : s.heap.objs.size ≠ I := fun e => hSf (by simp [e])
  unfold collect
  refine wpAny_bind (wpAny_runValue (codeAny_builtin F.entry_proto_collect ?_))
  rw [Around.under_plainId F.plain_proto_collect _]
  show wpAny _ A.in1 (newList [] >>= fun l => again (.builtin "list.__iadd__" ⟨[l, .ref I], []⟩)) _ _ s
  refine wpAny_bind (wpAny_newObj_type ?_)
  refine wpAny_pure ⟨plainId_quiet F.plain_list_iadd _, codeAny_builtin F.entry_list_iadd ?_⟩
  rw [Around.under_plainId F.plain_list_iadd _]
  have hst₁ := W.frame 0 s (s.heap.push { cls := .type "list", data := .seq ([] : List Value).toArray }) s.toks hst (Nat.le_refl _) fun b _ o e => Heap.get?_push_of_some _ e
  have hS₁ : (s.heap.push { cls := .type "list", data := .seq ([] : List Value).toArray }).get? s.heap.objs.size = some { cls := .type "list", data := .seq ([] : List Value).toArray } := Heap.get?_push_size _ rfl
  have h1 : Builtin.List.listSameRef (.ref s.heap.objs.size) (.ref I) = false := by simp [Builtin.List.listSameRef, hSI]
  show wpAny _ A.in1 (Builtin.List.listExtendWith (.ref s.heap.objs.size) (.ref I) (.ref s.heap.objs.size)) _ _ _
  unfold Builtin.List.listExtendWith
  refine wpAny_bind (wpAny_typeOf (hT 0 _ hst₁) ?_)
  rw [if_neg (by rw [h1]; decide)]
  refine wpAny_bind (W.self 0 _ _ _ hst₁ ?_)
  refine wpAny_bind (wpAny_holding ?_)
  unfold Builtin.List.listLengthHint
  refine wpAny_bind (wpAny_specialOf (hT 0 _ hst₁) rev_nolen ?_)
  show wpAny _ A.in1 (specialOf (Value.ref I) (Str.ofString "__length_hint__") >>= _) _ _ _
  refine wpAny_bind (wpAny_specialOf (hT 0 _ hst₁) slot_rev_hint.lookup ?_)
  (generalize hid : ("reversed.__length_hint__" : String) = id0; (fail_if_success (clear hid id0)); wp_delta; rw [show splitId id0 = some ("reversed", "__length_hint__") from by subst hid; decide +kernel]; subst hid)
  refine wpAny_bind (wpAny_isInstance (b := true) (hT 0 _ hst₁) (by rw [isSubtype_type]; kernel_rfl) ?_)
  rw [if_neg (by decide)]
  dsimp only
  split
  · rename_i hsil
    exact absurd hsil (by decide +kernel)
  refine wpAny_bind (wpAny_rule ?_)
  refine wpAny_bind (wpAny_of_eq (slot_rev_hint.bind _) ?_)
  dsimp only
  refine wpAny_bind (wpAny_attempt (rev_hint (items := items) (by simpa using hst₁.2.1) hst₁.2.2 hz2 fun u tk htk => ?_))
  show wpAny _ _ (asInt? (Value.int (items.size : Int) u) >>= _) _ _ _
  generalize hN : (items.size : Int) = N at *
  refine wpAny_bind (m := asInt? (.int N u)) (wpAny_pure ?_)
  dsimp only
  subst hN
  have hf : Builtin.List.listFitsIndex (items.size : Int) = true := by
    unfold Builtin.List.listFitsIndex
    rw [Bool.and_eq_true]
    exact ⟨decide_eq_true (by omega), decide_eq_true hz2⟩
  have hlong : Builtin.List.listTooLong (items.size : Int).toNat = false := decide_eq_false (by rw [Int.toNat_natCast]; omega)
  rw [hf, if_neg (show ¬ ((!true) = true) from Bool.false_ne_true), if_neg (show ¬ (items.size : Int) < 0 from by omega), hlong, if_neg Bool.false_ne_true]
  refine wpAny_pure ?_
  rw [if_pos (by rw [Bool.or_eq_true]; exact .inl (bne_iff_ne.mpr (by omega)))]
  refine wpAny_bind (wpAny_rule ?_)
  refine wpAny_bind ?_
  unfold Builtin.List.listTouch
  refine wpAny_bind (touch1 (s := { s with heap := s.heap.push { cls := .type "list", data := .seq #[] }, toks := tk }) hS₁ fun k1 c1 z1 b1 => ?_)
  refine touch2 (s := { s with heap := k1, toks := tk }) z1 fun k2 c2 z2 b2 => ?_
  have hst₂ := W.frame 0 _ k2 tk hst₁ htk fun b hb o e => b2.extBut b o (fun z => hSf (z ▸ hb)) (b1.extBut b o (fun z => hSf (z ▸ hb)) e)
  refine wpAny_pure ⟨plainId_quiet F.plain_extend_loop _, codeAny_extend_loopS W hn _ hSf _ items.size 0 _ _ _ rfl (Nat.zero_le _) hst₂ z2 (ItemsOf.nil _) fun s' acc' c' hm hS' hacc => ?_⟩
  show wpAny _ A (load s.heap.objs.size >>= _) _ _ s'
  refine wpAny_bind (wpAny_load hS' ?_)
  refine wpAny_pure (hQ s' acc' ⟨fun b ob hb e => ?_, hm.gens, hm.drawn, hm.os, Nat.le_trans htk hm.toks⟩ hacc)
  have hbS : b ≠ s.heap.objs.size := Nat.ne_of_lt (Heap.lt_size e)
  exact hm.heap b ob (fun hmm => by
    rcases List.mem_cons.mp hmm with e1 | hmm
    · exact hbS e1
    · exact hb hmm) (b2.extBut b ob hbS (b1.extBut b ob hbS (Heap.get?_push_of_some _ e)))
end
theorem tup_new_rev (I l : Addr) (items : Array Value) (hz : items.size ≤ 1000) (h0 : 0 < items.size) :
    Meets (Builtin.«tuple.__new__» ⟨[.type "tuple", .ref I], []⟩)
      (fun A R s => A.handled = none ∧ l ≠ I ∧ IsRev s.heap I l ((items.size : Int) - 1) ∧ s.heap.IsTuple l items ∧ ∀ (h' : Heap) (tk : Nat) (its : Array Value), (∀ b o, b ≠ I → s.heap.get? b = some o → h'.get? b = some o) → ItemsOf (fun i v => items[items.size - 1 - i]? = some v) its items.size → R (.ok (.ret (.ref h'.objs.size))) { s with heap := h'.push { cls := .type "tuple", data := .seq its }, toks := tk }) :=
  .of_wp fun prog w A R s h => by
    obtain ⟨hp, g, d, tk0, os⟩ := s; obtain ⟨hh, hne, ht, hl, h⟩ := h
    have hsub := sub_tuple_self; have hinit := init_tuple_lookup; have hmh := madeHere_tuple
    have hT : Shared.TypeIs ⟨hp, g, d, tk0, os⟩ (.ref I) "reversed" := ⟨_, ht, rfl⟩
    wp_walk using AutoSeq1.wpAny_loadPart' ht, wpAny_typeOf hT, coll_rev (A := A.in1) hh hne ht hl hz h0
    intro s' its hm hi
    obtain ⟨h', g', d', tk', os'⟩ := s'
    obtain ⟨m1, m2, m3, m4, m5⟩ := hm
    simp only at m1 m2 m3 m4 m5
    subst m2 m3 m4
    have hzz : its.size ≤ sizeLine := by rw [hi.1]; exact Nat.le_of_lt (small1000 hz)
    show wpAny _ _ (Builtin.Tuple.tupleExact its.toList.toArray >>= fun v => ret v) _ _ _
    unfold Builtin.Tuple.tupleExact; refine wpAny_bind (wpAny_newObj_type ?_ (by show its.toList.toArray.size ≤ sizeLine; simpa using hzz))
    refine wpAny_pure ⟨_, rfl, ?_⟩
    rw [show its.toList.toArray = its from by simp]
    exact h h' tk' its (fun b o hb e => m1 b o (by simpa using hb) e) hi
theorem call_tup_rev {prog : Program} {w : World} {A : Around} {E : Value → Shared → Prop} {s : Shared} {Q : Value → Shared → Prop} {I l : Addr} {items : Array Value} (hh : A.handled = none) (hne : l ≠ I) (hr : IsRev s.heap I l ((items.size : Int) - 1)) (hl : s.heap.IsTuple l items) (hz : items.size ≤ 1000) (h0 : 0 < items.size)
    (hQ : ∀ (h' : Heap) (tk : Nat) (its : Array Value), (∀ b o, b ≠ I → s.heap.get? b = some o → h'.get? b = some o) → ItemsOf (fun i v => items[items.size - 1 - i]? = some v) its items.size → Q (.ref h'.objs.size) { s with heap := h'.push { cls := .type "tuple", data := .seq its }, toks := tk }) :
    wpAny (model prog w) A (call (.type "tuple") [.ref I]) Q E s :=
  callType_new F.called_tuple (by decide) (F.typeCall_tuple_1 _) (F.newCall_tuple_1 _) (fun obj => F.args_object_init_2 obj _) F.entry_tuple_new (tup_new_rev I l items hz h0) ⟨hh, hne, hr, hl, fun h' tk its hk hi => ⟨⟨_, Heap.get?_push_size _ rfl, rfl⟩, hQ h' tk its hk hi⟩⟩
def tTupRev (K : PySem.W.Frag) (ta : TA) : TE := fun σ H Q => ta σ H fun vs H1 => ∃ a xs, vs = [.ref a] ∧ SqT K H1 a xs ∧ 0 < xs.length ∧ xs.length ≤ 1000 ∧ ∀ p, H1 p = none → Q (.ref p) (upd H1 p (.tup xs.reverse))
theorem vals_app : ∀ {xs ys : List V} {us vs : List Value}, Vals xs us → Vals ys vs → Vals (xs ++ ys) (us ++ vs)
  | [], _, _, _, .nil, h => h
  | _ :: _, _, _, _, .cons r t, h => .cons r (vals_app t h)
theorem vals_rev : ∀ {xs : List V} {us : List Value}, Vals xs us → Vals xs.reverse us.reverse
  | [], _, .nil => .nil
  | _ :: _, _, .cons r t => by
    rw [List.reverse_cons, List.reverse_cons]
    exact vals_app (vals_rev t) (.cons r .nil)
theorem pe_tupRev {X : Cx} {a : Expr} {ta : TA} {p p2 pos pos2 : Pos} (hc : X.calm = true) (hg : Gl X "tuple") (hm : X.mg "tuple" = none) (hg2 : Gl X "reversed") (hm2 : X.mg "reversed" = none) (ha : PA X [a] ta) (hs : starEach [a] X.env = [(false, eval a X.env)] := by rfl)
    (hs2 : starEach [.Call (.Name "reversed" p2) [a] [] pos2] X.env = [(false, eval (.Call (.Name "reversed" p2) [a] [] pos2) X.env)] := by rfl) : PE X (.Call (.Name "tuple" p) [.Call (.Name "reversed" p2) [a] [] pos2] [] pos) (tTupRev X.K ta) := .mk <| by
  intro pins s σ H Q I h
  refine wpAny_Call_Name_kw (ld_blt I hg hm PyProof.Rows.boot_tuple ?_ (by decide) (by decide))
  refine PyProof.Rows.callWith_type1 ?_ hs2 rfl
  rw [hs2]
  show wpAny _ _ (spliced [(false, eval (.Call (.Name "reversed" p2) [a] [] pos2) X.env)]) _ _ s
  refine Calls.spliced_cons (Call_ (ld_blt I hg2 hm2 boot_reversed (PyProof.Rows.callWith_type1 (thn (ha pos2 pins s σ H _ I h) fun us s1 ⟨vs, H1, I1, r1, q1⟩ => ?_) hs rfl)))
  obtain ⟨l, xs, e, hq, x0, x1, q⟩ := q1
  subst e
  cases r1 with
  | cons r rr =>
    cases rr
    cases r
    obtain ⟨its, rv, pl, hz⟩ := I1.tuple hq
    have hlen := rv.length
    have hsz : its.toArray.size = xs.length := by rw [List.size_toArray, ← hlen]
    refine call_rev (show s1.heap.IsTuple l its.toArray from pl) (by rw [hsz]; omega) (Calls.spliced_nil ?_)
    have hne : l ≠ s1.heap.objs.size := by
      obtain ⟨o, e, _⟩ := (show s1.heap.IsTuple l its.toArray from pl)
      exact Nat.ne_of_lt (Heap.lt_size e)
    refine call_tup_rev (items := its.toArray) (I.ok.hd hc) hne (Heap.get?_push_size _ rfl) (by
      obtain ⟨o, e, r⟩ := (show s1.heap.IsTuple l its.toArray from pl)
      exact ⟨o, Heap.get?_push_of_some _ e, r⟩) (by omega) (by omega) fun h' tk acc hk hi => ?_
    have I3 : Inv X pins σ H1 { s1 with heap := h', toks := tk } := I1.kept (h' := h') (t' := tk) fun b o e => hk b o (Nat.ne_of_lt (Heap.lt_size e)) (Heap.get?_push_of_some _ e)
    have ea : acc.toList = its.reverse := by
      refine List.ext_getElem? fun j => ?_
      by_cases hj : j < its.length
      · have hja : j < acc.size := by rw [hi.1, List.size_toArray]; exact hj
        have h2 := hi.2 j acc[j] (Array.getElem?_eq_getElem hja)
        rw [List.getElem?_reverse hj, Array.getElem?_toList, Array.getElem?_eq_getElem hja, ← h2]
        simp
      · rw [List.getElem?_eq_none (by rw [Array.length_toList, hi.1, List.size_toArray]; omega), List.getElem?_eq_none (by simp; omega)]
    have hr := vals_rev rv
    rw [← ea] at hr
    have I4 : Inv X pins σ (upd H1 h'.objs.size (.tup xs.reverse)) { s1 with heap := h'.push { cls := .type "tuple", data := .seq acc }, toks := tk } :=
      I3.laid (t' := tk) (fun b o e => Heap.get?_push_of_some _ e) (Nat.le_refl _) (show ObjOk X.prog X.w _ _ _ (.tup _) from ⟨by rw [List.length_reverse]; exact Nat.le_of_lt (small1000 x1), acc.toList, hr, by simpa using IsTup.new h' acc⟩)
    exact ⟨.ref h'.objs.size, _, I4, rfl, q _ (I3.hok.fresh (Nat.le_refl _))⟩
theorem pe_tupRevK {X : Cx} (K : PySem.W.Frag) (hK : X.K = K) {a : Expr} {ta : TA} {p p2 pos pos2 : Pos} (hc : X.calm = true) (hg : Gl X "tuple") (hm : X.mg "tuple" = none) (hg2 : Gl X "reversed") (hm2 : X.mg "reversed" = none) (ha : PA X [a] ta) (hs : starEach [a] X.env = [(false, eval a X.env)] := by rfl)
    (hs2 : starEach [.Call (.Name "reversed" p2) [a] [] pos2] X.env = [(false, eval (.Call (.Name "reversed" p2) [a] [] pos2) X.env)] := by rfl) : PE X (.Call (.Name "tuple" p) [.Call (.Name "reversed" p2) [a] [] pos2] [] pos) (tTupRev K ta) := hK ▸ pe_tupRev hc hg hm hg2 hm2 ha hs hs2
def aTupRev (ta : AA) : AE := fun ρ ω Q => ta ρ ω fun xs ω1 => ∃ ds, xs = [.d (.tup ds)] ∧ 0 < ds.length ∧ ds.length ≤ 1000 ∧ Q (.d (.tup ds.reverse)) ω1
theorem dats_rev : ∀ {G : Hp} {ds : List D} {vs : List V}, Dats G ds vs → Dats G ds.reverse vs.reverse
  | G, [], vs, h => by simp only [Dats] at h; subst h; simp only [List.reverse_nil, Dats]
  | G, d :: ds, vs, h => by
    simp only [Dats] at h
    obtain ⟨x, r, rfl, h1, h2⟩ := h
    rw [List.reverse_cons, List.reverse_cons]
    exact (dats_rev h2).append (Dats.one h1)
theorem e_tupRev {K : PySem.W.Frag} {ta : TA} {ta' : AA} (h : RefA ta ta') : RefE (tTupRev K ta) (aTupRev ta') := ⟨fun F H ω σ ρ Q Q' rp rs w k => h.go rp rs w fun xs ω1 vs H1 rp1 fr1 rs1 rv q => by
  obtain ⟨ds, rfl, j0, j1, q⟩ := q
  obtain ⟨v, rfl, r1⟩ := rvs1 rv
  simp only [RV, Dat] at r1
  obtain ⟨a, us, rfl, q1, q2⟩ := r1
  have hl := q2.length
  exact ⟨a, us, rfl, .inl (.inl (cut_same _ _ q1)), by omega, by omega, (k.fr fr1).tup rp1 (dats_rev q2) q⟩⟩
end L2
set_option maxHeartbeats 4000000
namespace My
open PySem PySem.Spec L2
set_option linter.all false
set_option maxHeartbeats 4000000
def top (i : Nat) : Stmt := PySem.Challenge.pw_unlikeplace_k01_words_known.main.body.getD i (.Pass ⟨0, 0, 0, 0⟩)
abbrev s_is_whole : Stmt := top 2
abbrev s_is_bit : Stmt := top 3
abbrev s_are_places : Stmt := top 4
abbrev s_is_word : Stmt := top 5
abbrev s_l_pen : Stmt := top 7
abbrev s_l_pick : Stmt := top 8
abbrev s_l_odd : Stmt := top 9
abbrev s_l_due : Stmt := top 10
abbrev s_l_nested : Stmt := top 11
abbrev s_l_same : Stmt := top 12
abbrev s_law : Stmt := top 13
theorem sc_is_whole : FnScope ["thing"] ["thing"] (defScope s_is_whole) := ⟨rfl, rfl, rfl, by decide +kernel, rfl, by decide +kernel, by decide +kernel⟩
theorem sc_is_bit : FnScope ["thing"] ["thing"] (defScope s_is_bit) := ⟨rfl, rfl, rfl, by decide +kernel, rfl, by decide +kernel, by decide +kernel⟩
theorem sc_are_places : FnScope ["thing"] ["thing"] (defScope s_are_places) := ⟨rfl, rfl, rfl, by decide +kernel, rfl, by decide +kernel, by decide +kernel⟩
theorem sc_is_word : FnScope ["places", "thing"] ["places", "thing"] (defScope s_is_word) := ⟨rfl, rfl, rfl, by decide +kernel, rfl, by decide +kernel, by decide +kernel⟩
theorem sc_l_pen : FnScope ["_law_script", "_law_at", "_law_cell", "_law_far"] ["_law_script", "_law_at"] (defScope s_l_pen) := ⟨rfl, rfl, rfl, by decide +kernel, rfl, by decide +kernel, by decide +kernel⟩
theorem sc_l_pick : FnScope ["_law_pen_here", "_law_many", "_law_digit", "_law_turn", "_law_mixed"] ["_law_pen_here", "_law_many"] (defScope s_l_pick) := ⟨rfl, rfl, rfl, by decide +kernel, rfl, by decide +kernel, by decide +kernel⟩
theorem sc_l_odd : FnScope ["_law_pen_here", "_law_some"] ["_law_pen_here"] (defScope s_l_odd) := ⟨rfl, rfl, rfl, by decide +kernel, rfl, by decide +kernel, by decide +kernel⟩
theorem sc_l_due : FnScope ["_law_places", "_law_thing", "_law_bit"] ["_law_places", "_law_thing"] (defScope s_l_due) := ⟨rfl, rfl, rfl, by decide +kernel, rfl, by decide +kernel, by decide +kernel⟩
theorem sc_l_nested : FnScope ["_law_pen_here", "_law_far", "_law_thing", "_law_k"] ["_law_pen_here", "_law_far"] (defScope s_l_nested) := ⟨rfl, rfl, rfl, by decide +kernel, rfl, by decide +kernel, by decide +kernel⟩
theorem sc_l_same : FnScope ["_law_places", "_law_thing", "_law_found"] ["_law_places", "_law_thing"] (defScope s_l_same) := ⟨rfl, rfl, rfl, by decide +kernel, rfl, by decide +kernel, by decide +kernel⟩
theorem sc_law : FnScope ["_law_script", "_law_at", "_law_pen_here", "_law_places", "_law_word", "_law_things", "_law_k", "_law_bit", "_law_thing"] ["_law_script"] (defScope s_law) := ⟨rfl, rfl, rfl, by decide +kernel, rfl, by decide +kernel, by decide +kernel⟩
structure Adr where
  a_is_whole : Addr
  d_is_whole : FuncData
  a_is_bit : Addr
  d_is_bit : FuncData
  a_are_places : Addr
  d_are_places : FuncData
  a_is_word : Addr
  d_is_word : FuncData
  a_l_pen : Addr
  d_l_pen : FuncData
  a_l_pick : Addr
  d_l_pick : FuncData
  a_l_odd : Addr
  d_l_odd : FuncData
  a_l_due : Addr
  d_l_due : FuncData
  a_l_nested : Addr
  d_l_nested : FuncData
  a_l_same : Addr
  d_l_same : FuncData
  a_law : Addr
  d_law : FuncData
  k_MOST_PLACES : Tok
structure Txt (K : PySem.W.Frag) (mg : Str → Option Value) (t : Adr) : Prop where
  m_is_whole : mg "is_whole" = some (.ref t.a_is_whole)
  f_is_whole : Fun K "is_whole" "is_whole" s_is_whole t.a_is_whole t.d_is_whole
  k_is_whole : PySem.W.keepIn K (.ref t.a_is_whole) = true
  p_is_whole : Binds K t.d_is_whole ["thing"] []
  m_is_bit : mg "is_bit" = some (.ref t.a_is_bit)
  f_is_bit : Fun K "is_bit" "is_bit" s_is_bit t.a_is_bit t.d_is_bit
  k_is_bit : PySem.W.keepIn K (.ref t.a_is_bit) = true
  p_is_bit : Binds K t.d_is_bit ["thing"] []
  m_are_places : mg "are_places" = some (.ref t.a_are_places)
  f_are_places : Fun K "are_places" "are_places" s_are_places t.a_are_places t.d_are_places
  k_are_places : PySem.W.keepIn K (.ref t.a_are_places) = true
  p_are_places : Binds K t.d_are_places ["thing"] []
  m_is_word : mg "is_word" = some (.ref t.a_is_word)
  f_is_word : Fun K "is_word" "is_word" s_is_word t.a_is_word t.d_is_word
  k_is_word : PySem.W.keepIn K (.ref t.a_is_word) = true
  p_is_word : Binds K t.d_is_word ["places", "thing"] []
  m_l_pen : mg "_law_pen" = some (.ref t.a_l_pen)
  f_l_pen : Fun K "_law_pen" "_law_pen" s_l_pen t.a_l_pen t.d_l_pen
  k_l_pen : PySem.W.keepIn K (.ref t.a_l_pen) = true
  p_l_pen : Binds K t.d_l_pen ["_law_script", "_law_at"] []
  m_l_pick : mg "_law_pick" = some (.ref t.a_l_pick)
  f_l_pick : Fun K "_law_pick" "_law_pick" s_l_pick t.a_l_pick t.d_l_pick
  k_l_pick : PySem.W.keepIn K (.ref t.a_l_pick) = true
  p_l_pick : Binds K t.d_l_pick ["_law_pen_here", "_law_many"] []
  m_l_odd : mg "_law_odd" = some (.ref t.a_l_odd)
  f_l_odd : Fun K "_law_odd" "_law_odd" s_l_odd t.a_l_odd t.d_l_odd
  k_l_odd : PySem.W.keepIn K (.ref t.a_l_odd) = true
  p_l_odd : Binds K t.d_l_odd ["_law_pen_here"] []
  m_l_due : mg "_law_due" = some (.ref t.a_l_due)
  f_l_due : Fun K "_law_due" "_law_due" s_l_due t.a_l_due t.d_l_due
  k_l_due : PySem.W.keepIn K (.ref t.a_l_due) = true
  p_l_due : Binds K t.d_l_due ["_law_places", "_law_thing"] []
  m_l_nested : mg "_law_nested" = some (.ref t.a_l_nested)
  f_l_nested : Fun K "_law_nested" "_law_nested" s_l_nested t.a_l_nested t.d_l_nested
  k_l_nested : PySem.W.keepIn K (.ref t.a_l_nested) = true
  p_l_nested : Binds K t.d_l_nested ["_law_pen_here", "_law_far"] []
  m_l_same : mg "_law_same" = some (.ref t.a_l_same)
  f_l_same : Fun K "_law_same" "_law_same" s_l_same t.a_l_same t.d_l_same
  k_l_same : PySem.W.keepIn K (.ref t.a_l_same) = true
  p_l_same : Binds K t.d_l_same ["_law_places", "_law_thing"] []
  m_law : mg "law" = some (.ref t.a_law)
  f_law : Fun K "law" "law" s_law t.a_law t.d_law
  k_law : PySem.W.keepIn K (.ref t.a_law) = true
  p_law : Binds K t.d_law ["_law_script"] []
  bl_law : ∀ (s : Shared) (v : Value), BindsTo s t.d_law ⟨[v], []⟩ [("_law_script", v)]
  b_abs : mg "abs" = none
  b_all : mg "all" = none
  b_bool : mg "bool" = none
  b_int : mg "int" = none
  b_isinstance : mg "isinstance" = none
  b_len : mg "len" = none
  b_list : mg "list" = none
  b_max : mg "max" = none
  b_min : mg "min" = none
  b_range : mg "range" = none
  b_reversed : mg "reversed" = none
  b_str : mg "str" = none
  b_tuple : mg "tuple" = none
  c_MOST_PLACES : mg "MOST_PLACES" = some (.int 5 t.k_MOST_PLACES)
local macro_rules | `(tactic| walk_at "ab") => `(tactic| simp only [aNext_eq, aSeq_eq, aBreak_eq, aCont_eq, aDrop_eq, aRet_eq, aRetN_eq, aIfS_eq, aAsg_eq, agName_eq, agNil_eq, agCons_eq, aFor_eq, aNoTest_eq, aLast_eq, aLFor_eq, aVar_eq, aVarF_eq, aC_eq, aOp_eq, aNil_eq, aCons_eq, aTup_eq, aLst_eq, aLstO_eq, aCall_eq, aCallV_eq, aFold_eq, aFoldD_eq, aDGet_eq, aNilS_eq, aStrI_eq, aJoin_eq, aEnds_eq, aIxZ_eq, aSlX_eq, aMulS_eq, aOrS_eq, aFmt_eq, aFs_nil, aFs_cons, aDPut_eq, aDisp_eq, aVals_nil, aVals_cons, aAddS_eq, aIntS_eq, aiStr_eq, aiRng3_eq, aLenSet_eq, aTupRng_eq, aPar_eq, aIxS_eq, aLenS_eq, aListS_eq, aMaxU_eq, aMinU_eq, aRepO_eq, aTest_eq, aAnd_eq, aOr_eq, aNot_eq, aAndV_eq, aOrV_eq, aNotV_eq, aIf_eq, aRaw_eq, aTru_eq, aI0_eq, aI_eq, aEq_eq, aNe_eq, aEqD_eq, aIn_eq, aCatT_eq, aIxL_eq, aIxT_eq, aIx_eq, aIsN_eq, aIsB_eq, aLen_eq, aAll_eq, aSum_eq, aSumT_eq, aF2_eq, aF1_eq, aInt_eq, aBool_eq, aTupOf_eq, aListOf_eq, aListO_eq, aiList_eq, aiTup_eq, aiRng1_eq, aiRng2_eq, aiEnumL_eq, aiEnumT_eq, agTup_eq, agLst_eq, agSub_eq, aoNone_eq, aoSome_eq, aSlL_eq, aSlT_eq, aRev_eq, aAppend_eq, aExtend_eq, aPop_eq2, emp_concat, last_concat, dropl_concat, aClear_eq, axOf_eq, axIf_eq, axRaise_eq, axAsg_eq, axRet_eq, aTryN_eq, aTryS_eq, aIsX_eq, aIsXT_eq, aIsNX_eq, aSlO_eq, aSortedE_eq, nonA_d, nonA_x, aInsert_eq, aPopAt_eq, aReverse_eq, aRepr_eq, aSorted_eq, aIsA_eq, aCatL_eq, aCatLO_eq, aRepL_eq, aChain_eq, aOrG_eq, aAndG_eq, aNotG_eq, aiSeq_eq, aiEnum_eq, aiZip_eq, aiZip3_eq, aBits_eq, aReprX_eq, aSumU_eq, aComp_eq, aCompO_eq, aUn_eq, aCB_eq, aU_eq, aSGet_eq, aAdd_int, aAdd_tup, sne_0_1, sne_0_2, sne_0_3, sne_0_4, sne_0_5, sne_0_6, sne_0_7, sne_0_8, sne_0_9, sne_1_0, sne_1_2, sne_1_3, sne_1_4, sne_1_5, sne_1_6, sne_1_7, sne_1_8, sne_1_9, sne_2_0, sne_2_1, sne_2_3, sne_2_4, sne_2_5, sne_2_6, sne_2_7, sne_2_8, sne_2_9, sne_3_0, sne_3_1, sne_3_2, sne_3_4, sne_3_5, sne_3_6, sne_3_7, sne_3_8, sne_3_9, sne_4_0, sne_4_1, sne_4_2, sne_4_3, sne_4_5, sne_4_6, sne_4_7, sne_4_8, sne_4_9, sne_5_0, sne_5_1, sne_5_2, sne_5_3, sne_5_4, sne_5_6, sne_5_7, sne_5_8, sne_5_9, sne_6_0, sne_6_1, sne_6_2, sne_6_3, sne_6_4, sne_6_5, sne_6_7, sne_6_8, sne_6_9, sne_7_0, sne_7_1, sne_7_2, sne_7_3, sne_7_4, sne_7_5, sne_7_6, sne_7_8, sne_7_9, sne_8_0, sne_8_1, sne_8_2, sne_8_3, sne_8_4, sne_8_5, sne_8_6, sne_8_7, sne_8_9, sne_9_0, sne_9_1, sne_9_2, sne_9_3, sne_9_4, sne_9_5, sne_9_6, sne_9_7, sne_9_8, aAdd_wd, aAdd_wds, tupA_wd, lstA_wd, lenA_wd, seqD_wd, slA_wd, truA_wd, eqD_wd, dep_wd, aAdd_lst, aAdd_ref, aAddO_int, aAddO_lst, aAddO_ref, aMul_int, aMul_lst, aSl_eq, slA_tup, slA_lst, slA_ref, frzA_d, frzA_r, datA_d, datA_r, lstA_l, lstA_t, lstA_r, tupA_t, tupA_l, tupA_r, truA_b, truA_i, truA_n, truA_t, truA_l, truA_r, und_cons, und_nil, und_map, lenA_t, lenA_l, lenA_r, seqD_t, seqD_l, aForL_nil, aForL_cons, aLoop_nil, aLoop_cons, startA, blkA, Om.put_same, Om.put_put, sz1, sz2, sz3, sz4, sz5, sz6, sz7, sz8, sz9, sz10, sz11, sz12, Int.toNat_natCast, ixN_30, ixN_31, ixN_32, atI_0, atI_1, atI_2, atI_3, eqD_int, eqD_str, eqD_bl, eqD_nn, eqD_tn, eqD_ln, dep_int, dep_str, dep_bl, dep_non, intD_int, intD_bl, boolD_int, boolD_bl, Nat.zero_le, AV.d.injEq, AV.r.injEq, D.int.injEq, D.bl.injEq, D.str.injEq, D.tup.injEq, D.lst.injEq, OC.own.injEq, OC.frz.injEq, V.ref.injEq, V.ty.injEq, V.int.injEq, V.str.injEq, V.bl.injEq, List.map_cons, List.map_nil, List.cons_append, List.nil_append, List.length_cons, List.length_nil, List.length_map, List.length_append, List.replicate, List.getElem?_cons_zero, List.getElem?_cons_succ, List.set_cons_zero, List.set_cons_succ, Option.some.injEq, Option.map_some, Option.join_some, exists_eq', exists_eq, exists_eq_left', exists_eq_left, exists_eq_right, exists_eq_right', List.cons.injEq, and_true, true_and, and_assoc, exists_and_left, exists_and_right, Nat.sub_self, Nat.reduceAdd, Nat.reduceSub, Nat.reduceLeDiff, Int.reduceLT, Int.reduceLE, Int.reduceAdd, Int.reduceSub, Int.reduceToNat, Nat.reduceLT, decide_eq_true_eq, Bool.not_eq_true, Bool.not_true, Bool.not_false, if_true, if_false, Bool.false_eq_true, reduceCtorEq, false_and, and_false, or_false, false_or, exists_false, beq_iff_eq, bne_iff_ne, ne_eq, Bool.true_eq_false])
local macro_rules | `(tactic| walk_at "a1") => `(tactic| simp only [aNext_eq, aBreak_eq, aCont_eq, aDrop_eq, aRet_eq, aRetN_eq, aIfS_eq, aAsg_eq, agName_eq, agNil_eq, agCons_eq, aFor_eq, aNoTest_eq, aLast_eq, aLFor_eq, aVar_eq, aVarF_eq, aC_eq, aOp_eq, aNil_eq, aCons_eq, aTup_eq, aLst_eq, aLstO_eq, aCall_eq, aCallV_eq, aFold_eq, aFoldD_eq, aDGet_eq, aNilS_eq, aStrI_eq, aJoin_eq, aEnds_eq, aIxZ_eq, aSlX_eq, aMulS_eq, aOrS_eq, aFmt_eq, aFs_nil, aFs_cons, aDPut_eq, aDisp_eq, aVals_nil, aVals_cons, aAddS_eq, aIntS_eq, aiStr_eq, aiRng3_eq, aLenSet_eq, aTupRng_eq, aPar_eq, aIxS_eq, aLenS_eq, aListS_eq, aMaxU_eq, aMinU_eq, aRepO_eq, aTest_eq, aAnd_eq, aOr_eq, aNot_eq, aAndV_eq, aOrV_eq, aNotV_eq, aIf_eq, aRaw_eq, aTru_eq, aI0_eq, aI_eq, aEq_eq, aNe_eq, aEqD_eq, aIn_eq, aCatT_eq, aIxL_eq, aIxT_eq, aIx_eq, aIsN_eq, aIsB_eq, aLen_eq, aAll_eq, aSum_eq, aSumT_eq, aF2_eq, aF1_eq, aInt_eq, aBool_eq, aTupOf_eq, aListOf_eq, aListO_eq, aiList_eq, aiTup_eq, aiRng1_eq, aiRng2_eq, aiEnumL_eq, aiEnumT_eq, agTup_eq, agLst_eq, agSub_eq, aoNone_eq, aoSome_eq, aSlL_eq, aSlT_eq, aRev_eq, aAppend_eq, aExtend_eq, aPop_eq2, emp_concat, last_concat, dropl_concat, aClear_eq, axOf_eq, axIf_eq, axRaise_eq, axAsg_eq, axRet_eq, aTryN_eq, aTryS_eq, aIsX_eq, aIsXT_eq, aIsNX_eq, aSlO_eq, aSortedE_eq, nonA_d, nonA_x, aInsert_eq, aPopAt_eq, aReverse_eq, aRepr_eq, aSorted_eq, aIsA_eq, aCatL_eq, aCatLO_eq, aRepL_eq, aChain_eq, aOrG_eq, aAndG_eq, aNotG_eq, aiSeq_eq, aiEnum_eq, aiZip_eq, aiZip3_eq, aBits_eq, aReprX_eq, aSumU_eq, aComp_eq, aCompO_eq, aUn_eq, aCB_eq, aU_eq, aSGet_eq, aAdd_int, aAdd_tup, sne_0_1, sne_0_2, sne_0_3, sne_0_4, sne_0_5, sne_0_6, sne_0_7, sne_0_8, sne_0_9, sne_1_0, sne_1_2, sne_1_3, sne_1_4, sne_1_5, sne_1_6, sne_1_7, sne_1_8, sne_1_9, sne_2_0, sne_2_1, sne_2_3, sne_2_4, sne_2_5, sne_2_6, sne_2_7, sne_2_8, sne_2_9, sne_3_0, sne_3_1, sne_3_2, sne_3_4, sne_3_5, sne_3_6, sne_3_7, sne_3_8, sne_3_9, sne_4_0, sne_4_1, sne_4_2, sne_4_3, sne_4_5, sne_4_6, sne_4_7, sne_4_8, sne_4_9, sne_5_0, sne_5_1, sne_5_2, sne_5_3, sne_5_4, sne_5_6, sne_5_7, sne_5_8, sne_5_9, sne_6_0, sne_6_1, sne_6_2, sne_6_3, sne_6_4, sne_6_5, sne_6_7, sne_6_8, sne_6_9, sne_7_0, sne_7_1, sne_7_2, sne_7_3, sne_7_4, sne_7_5, sne_7_6, sne_7_8, sne_7_9, sne_8_0, sne_8_1, sne_8_2, sne_8_3, sne_8_4, sne_8_5, sne_8_6, sne_8_7, sne_8_9, sne_9_0, sne_9_1, sne_9_2, sne_9_3, sne_9_4, sne_9_5, sne_9_6, sne_9_7, sne_9_8, aAdd_wd, aAdd_wds, tupA_wd, lstA_wd, lenA_wd, seqD_wd, slA_wd, truA_wd, eqD_wd, dep_wd, aAdd_lst, aAdd_ref, aAddO_int, aAddO_lst, aAddO_ref, aMul_int, aMul_lst, aSl_eq, slA_tup, slA_lst, slA_ref, frzA_d, frzA_r, datA_d, datA_r, lstA_l, lstA_t, lstA_r, tupA_t, tupA_l, tupA_r, truA_b, truA_i, truA_n, truA_t, truA_l, truA_r, und_cons, und_nil, und_map, lenA_t, lenA_l, lenA_r, seqD_t, seqD_l, aForL_nil, aLoop_nil, startA, blkA, Om.put_same, Om.put_put, sz1, sz2, sz3, sz4, sz5, sz6, sz7, sz8, sz9, sz10, sz11, sz12, Int.toNat_natCast, ixN_30, ixN_31, ixN_32, atI_0, atI_1, atI_2, atI_3, eqD_int, eqD_str, eqD_bl, eqD_nn, eqD_tn, eqD_ln, dep_int, dep_str, dep_bl, dep_non, intD_int, intD_bl, boolD_int, boolD_bl, Nat.zero_le, AV.d.injEq, AV.r.injEq, D.int.injEq, D.bl.injEq, D.str.injEq, D.tup.injEq, D.lst.injEq, OC.own.injEq, OC.frz.injEq, V.ref.injEq, V.ty.injEq, V.int.injEq, V.str.injEq, V.bl.injEq, List.map_cons, List.map_nil, List.cons_append, List.nil_append, List.length_cons, List.length_nil, List.length_map, List.length_append, List.replicate, List.getElem?_cons_zero, List.getElem?_cons_succ, List.set_cons_zero, List.set_cons_succ, Option.some.injEq, Option.map_some, Option.join_some, exists_eq', exists_eq, exists_eq_left', exists_eq_left, exists_eq_right, exists_eq_right', List.cons.injEq, and_true, true_and, and_assoc, exists_and_left, exists_and_right, Nat.sub_self, Nat.reduceAdd, Nat.reduceSub, Nat.reduceLeDiff, Int.reduceLT, Int.reduceLE, Int.reduceAdd, Int.reduceSub, Int.reduceToNat, Nat.reduceLT, decide_eq_true_eq, Bool.not_eq_true, Bool.not_true, Bool.not_false, if_true, if_false, Bool.false_eq_true, reduceCtorEq, false_and, and_false, or_false, false_or, exists_false, beq_iff_eq, bne_iff_ne, ne_eq, Bool.true_eq_false])
local macro_rules | `(tactic| walk_at "s1") => `(tactic| (try walk_at "a1"); (first | rw [aSeq_eq] | rw [axSeq_eq]); walk_at "a1")
section
variable {P : Program} {w : World} {K : PySem.W.Frag} {mg : Str → Option Value} {base : Heap} {t : Adr}
def Cn (c : Pn) (b : Nat) : Prop := 0 ≤ c.i ∧ c.i ≤ b
def PnAt (ω : Om) (p : Addr) (b : Nat) : Prop := ∃ c, Cn c b ∧ ω p = some (penO c)
theorem PnAt.up {ω : Om} {p : Addr} {b b' : Nat} (h : PnAt ω p b) (hb : b ≤ b') : PnAt ω p b' := by
  obtain ⟨c, ⟨h1, h2⟩, h3⟩ := h
  exact ⟨c, ⟨h1, by omega⟩, h3⟩
theorem pnAt_put {ω : Om} {p : Addr} {b : Nat} {c : Pn} (h : Cn c b) : PnAt (ω.put p (penO c)) p b := ⟨c, h, Om.put_same⟩
theorem PnAt.some {ω : Om} {p : Addr} {b : Nat} (h : PnAt ω p b) : (ω p).isSome = true := by obtain ⟨c, _, h⟩ := h; rw [h]; rfl
theorem PnAt.ne {ω : Om} {p l : Addr} {b : Nat} (h : PnAt ω p b) (hl : ω l = none) : p ≠ l := fun e => by subst e; obtain ⟨c, _, e⟩ := h; rw [e] at hl; cases hl
theorem PnAt.other {ω : Om} {p l : Addr} {b : Nat} {o : OC} (h : PnAt ω p b) (e : p ≠ l) : PnAt (ω.put l o) p b := by
  obtain ⟨c, h1, h2⟩ := h
  exact ⟨c, h1, by rw [Om.put_ne e]; exact h2⟩
theorem nth_int {ns : List Int} {i : Int} (h0 : 0 ≤ i) (h1 : i < ns.length) : ∃ x, atI ns i = some x := by
  obtain ⟨x, _, hx, _⟩ := map_nth (f := fun z : Int => AV.d (.int z)) (xs := ns) h0 h1
  exact ⟨x, atI_of i.toNat (by omega) hx⟩
def sp_pen (K : PySem.W.Frag) : ASp := fun xs ω Q => ∃ (a : Addr) (ns : List Int) (i : Int), xs = [scrL K a ns, .d (.int i)] ∧ 0 ≤ i ∧ ∀ p c, Cn c 0 → ω p = none → Q (.r (.ref p)) (ω.put p (penO c))
theorem ok_pen (T : Txt K mg t) : FnOk P w K mg base CX0 1 t.a_l_pen t.d_l_pen ["_law_script", "_law_at"] (lift (sp_pen K)) := by
  refine T.f_l_pen.okA sc_l_pen (fun xs ω Q h => by obtain ⟨a, ns, i, rfl, _⟩ := h; rfl) (fun cdv A outer s H E hr => ⟨_, _, (pss_cons (ps_set (i := 2) sc_l_pen.nd rfl (Or.inl rfl) pe_int)
      (pss_cons (ps_if (pt_cmpR op_lt (pv 1) (pe_callB (call_lenK K rfl) (by rfl) T.b_len (by kernel_rfl) (pa_cons (pv 0) pa_nil)) (nomark _)) (pss_one (ps_set (i := 2) sc_l_pen.nd rfl (Or.inl rfl) (pe_ix (ix_seqK K rfl) (pv 0) (pv 1) (fun _ _ => rfl)))) pss_nil)
      (pss_cons (ps_set (i := 3) sc_l_pen.nd rfl (Or.inl rfl) (pe_callB call_abs (by rfl) T.b_abs (by kernel_rfl) (pa_cons (pv 2) pa_nil)))
      (pss_cons (ps_if (pt_cmpR op_lt (pv 3) (pe_op op_pow pe_int pe_int) (nomark _)) (pss_one (ps_set (i := 3) sc_l_pen.nd rfl (Or.inl rfl) pe_int)) pss_nil)
      (pss_one (ps_ret (pe_lst (pa_cons (pv 3) (pa_cons (pe_op op_mod (pe_op (op_alt op_add (op_alt op_cat3 op_cat)) (pe_op (op_alt op_add (op_alt op_cat3 op_cat)) (pe_op (op_alt op_mul op_rep) (pe_op op_mod (pv 2) pe_int) pe_int) (pe_op (op_alt op_mul op_rep) pe_int (pv 1))) pe_int) pe_int) (pa_consC pe_int pa_nil)))))))))), (s_seq (s_asg e_int g_name)
      (s_seq (s_if (t_test (e_op o_I0b e_var (e_cb c_lenS (a_cons e_var a_nil)))) (s_asg (e_op o_ixS e_var e_var) g_name) s_next)
      (s_seq (s_asg (e_cb c_F1 (a_cons e_var a_nil)) g_name)
      (s_seq (s_if (t_test (e_op o_I0b e_var (e_op o_Ii e_int e_int))) (s_asg e_int g_name) s_next)
      (s_ret (e_lstO (a_cons e_var (a_cons (e_op o_Ii (e_op o_add (e_op o_add (e_op o_mul (e_op o_Ii e_var e_int) e_int) (e_op o_mul e_int e_var)) e_int) e_int) (a_cons e_int a_nil))))))))), fun xs ω Q h => ?_⟩)
  obtain ⟨a, ns, i, rfl, hi, k⟩ := h
  walk_at "s1"
  refine seq_cut (fun ρ' ω' => ω' = ω ∧ ∃ x : Int, ρ' = [some (scrL K a ns), some (.d (.int i)), some (.d (.int x)), none]) (fun M kM => ?_) ?_
  · walk_at "a1"
    refine ⟨_, _, rfl, ite2 (fun h => ?_) (fun h => kM _ _ ⟨rfl, _, rfl⟩)⟩
    obtain ⟨x, ex⟩ := nth_int (ns := ns) hi (by omega)
    exact ⟨_, _, rfl, _, ex, kM _ _ ⟨rfl, _, rfl⟩⟩
  rintro ρ' ω' ⟨rfl, x, rfl⟩
  have absn : ∀ z : Int, 0 ≤ (if z < 0 then -z else z) := fun z => by split <;> omega
  walk_at "s1"
  refine seq_cut (fun ρ' ω2 => ω2 = ω' ∧ ∃ y : Int, 0 ≤ y ∧ ρ' = [some (scrL K a ns), some (.d (.int i)), some (.d (.int x)), some (.d (.int y))]) (fun M kM => ?_) ?_
  · walk_at "a1"
    exact ⟨⟨by decide, by decide, by decide⟩, ite2 (fun h => kM _ _ ⟨rfl, 0, Int.le_refl _, rfl⟩) (fun h => kM _ _ ⟨rfl, _, absn x, rfl⟩)⟩
  rintro ρ' ω2 ⟨rfl, y, hy, rfl⟩
  walk_at "a1"
  exact ⟨cmul_mod (by decide) (by decide), cmul_l (by decide), fun p hp => k p ⟨y, _, 0, hy⟩ ⟨Int.le_refl _, Int.le_refl _⟩ hp⟩
def sp_draw : ASp := fun xs ω Q => ∃ (p : Addr) (m : Int) (b : Nat), xs = [.r (.ref p), .d (.int m)] ∧ PnAt ω p b ∧ b < 1000000 ∧ 0 < m ∧ m < 1073741824 ∧ ∀ (r : Int) (c : Pn), Cn c (b + 1) → 0 ≤ r → r < m → Q (.d (.int r)) (ω.put p (penO c))
theorem ok_draw (T : Txt K mg t) : FnOk P w K mg base CX0 1 t.a_l_pick t.d_l_pick ["_law_pen_here", "_law_many"] (lift sp_draw) := by
  refine T.f_l_pick.okA sc_l_pick (fun xs ω Q h => by obtain ⟨p, m, b, rfl, _⟩ := h; rfl) (fun cdv A outer s H E hr => ⟨_, _, (pss_cons (ps_if (pt_cmpR op_gt (pe_ix (ix_seqK K rfl) (pv 0) pe_int (fun _ _ => rfl)) pe_int (nomark _)) (pss_cons (ps_set (i := 2) sc_l_pick.nd rfl (Or.inl rfl) (pe_op op_mod (pe_ix (ix_seqK K rfl) (pv 0) pe_int (fun _ _ => rfl)) (pv 1)))
      (pss_cons (ps_asg (pe_op op_fdiv (pe_ix (ix_seqK K rfl) (pv 0) pe_int (fun _ _ => rfl)) (pv 1)) (pg_sub (pv 0) pe_int set_list))
      (pss_one (ps_ret (pv 2))))) pss_nil)
      (pss_cons (ps_set (i := 3) sc_l_pick.nd rfl (Or.inl rfl) (pe_op (op_alt op_add (op_alt op_cat3 op_cat)) (pe_ix (ix_seqK K rfl) (pv 0) pe_int (fun _ _ => rfl)) pe_int))
      (pss_cons (ps_asg (pv 3) (pg_sub (pv 0) pe_int set_list))
      (pss_cons (ps_set (i := 4) sc_l_pick.nd rfl (Or.inl rfl) (pe_op op_mod (pe_op (op_alt op_add (op_alt op_cat3 op_cat)) (pe_op (op_alt op_add (op_alt op_cat3 op_cat)) (pe_ix (ix_seqK K rfl) (pv 0) pe_int (fun _ _ => rfl)) (pe_op (op_alt op_mul op_rep) (pe_op (op_alt op_mul op_rep) pe_int (pv 3)) (pv 3))) (pe_op (op_alt op_mul op_rep) pe_int (pv 3))) pe_int))
      (pss_cons (ps_set (i := 4) sc_l_pick.nd rfl (Or.inl rfl) (pe_op op_mod (pe_op (op_alt op_add (op_alt op_cat3 op_cat)) (pe_op (op_alt op_add (op_alt op_cat3 op_cat)) (pe_op (op_alt op_mul op_rep) (pv 4) (pv 4)) (pe_op (op_alt op_mul op_rep) pe_int (pv 4))) (pv 3)) pe_int))
      (pss_cons (ps_set (i := 4) sc_l_pick.nd rfl (Or.inl rfl) (pe_op op_mod (pe_op (op_alt op_add (op_alt op_cat3 op_cat)) (pe_op (op_alt op_mul op_rep) (pv 4) (pv 4)) (pe_op (op_alt op_mul op_rep) pe_int (pv 4))) pe_int))
      (pss_one (ps_ret (pe_op op_mod (pe_op op_fdiv (pv 4) pe_int) (pv 1)))))))))), (s_seq (s_if (t_test (e_op o_I0b (e_op o_ix e_var e_int) e_int)) (s_seq (s_asg (e_op o_Ii (e_op o_ix e_var e_int) e_var) g_name)
      (s_seq (s_asg (e_op o_Ii (e_op o_ix e_var e_int) e_var) (g_sub e_var e_int))
      (s_ret e_var))) s_next)
      (s_seq (s_asg (e_op o_add (e_op o_ix e_var e_int) e_int) g_name)
      (s_seq (s_asg e_var (g_sub e_var e_int))
      (s_seq (s_asg (e_op o_Ii (e_op o_add (e_op o_add (e_op o_ix e_var e_int) (e_op o_mul (e_op o_mul e_int e_var) e_var)) (e_op o_mul e_int e_var)) e_int) g_name)
      (s_seq (s_asg (e_op o_Ii (e_op o_add (e_op o_add (e_op o_mul e_var e_var) (e_op o_mul e_int e_var)) e_var) e_int) g_name)
      (s_seq (s_asg (e_op o_Ii (e_op o_add (e_op o_mul e_var e_var) (e_op o_mul e_int e_var)) e_int) g_name)
      (s_ret (e_op o_Ii (e_op o_Ii e_var e_int) e_var)))))))), fun xs ω Q h => ?_⟩)
  obtain ⟨p, m, b, rfl, ⟨c, ⟨c0, c1⟩, hp⟩, hb, hm, hm2, k⟩ := h
  have fin : ∀ (r : Int) (c : Pn), Cn c (b + 1) → Q (.d (.int (r % m))) (ω.put p (penO c)) := fun r c hc => k _ c hc (Int.emod_nonneg _ (by omega)) (Int.emod_lt_of_pos _ hm)
  unfold penO at hp
  walk_at "s1"
  simp only [hp]
  walk_at "a1"
  refine ite2 (fun h1 => ?_) (fun h1 => ?_)
  · walk_at "ab"
    simp only [hp]
    walk_at "ab"
    exact ⟨hm, ⟨hm, hm2⟩, fin _ ⟨c.f / m, c.x, c.i, Int.ediv_nonneg c.h (by omega)⟩ ⟨c0, by simp only []; omega⟩⟩
  · walk_at "s1"
    simp only [hp]
    walk_at "a1"
    walk_at "s1"
    simp only [hp]
    walk_at "s1"
    refine ⟨cmul_l (by decide), cmul_r ⟨by omega, by omega⟩, cmul_l (by decide), ?_⟩
    walk_at "ab"
    exact ⟨cmul_mod (by decide) (by decide), cmul_l (by decide), cmul_mod (by decide) (by decide), cmul_l (by decide), ⟨by decide, by decide⟩, hm, fin _ ⟨c.f, c.x, c.i + 1, c.h⟩ ⟨by simp only []; omega, by simp only []; omega⟩⟩
theorem scr_start {H : Hp} {a : Addr} {ns : List Int} (h : SqL K H a (ns.map V.int)) : RV (cut (fun _ => false) H (fun _ => none)) (scrL K a ns) (.ref a) := by
  refine ⟨rfl, fun G' s => ?_⟩
  have s2 : Same H G' := fun b o e => s b o (cut_some.mpr ⟨rfl, rfl, e⟩)
  rcases h with (h | ⟨o, h⟩) | h
  · exact .inl (.inl (s2 _ _ h))
  · exact .inl (.inr ⟨o, s2 _ _ h⟩)
  · exact .inr h
theorem rep0 {H : Hp} : Rep (fun _ => false) H (fun _ => none) := ⟨fun _ _ h => by simp at h, fun _ _ h => by simp at h, fun _ h => by simp at h, fun _ _ h => by simp at h⟩
def sp_lawA (K : PySem.W.Frag) : ASp := fun xs ω Q => ∃ (a : Addr) (ns : List Int), xs = [scrL K a ns] ∧ ns.length ≤ 63 ∧ ω = (fun _ => none) ∧ ∀ ω', Q (.d (.bl true)) ω'
def sp_law (K : PySem.W.Frag) : Sp := lift (sp_lawA K)
theorem start_law {K : PySem.W.Frag} {H : Hp} {a : Addr} {ns : List Int} (hl : ns.length ≤ 63) (hO : Only H) (hS : SqL K H a (ns.map V.int)) : sp_law K [.ref a] H (fun v _ => v = .bl true) fun _ _ _ => False :=
  ⟨fun _ => false, [scrL K a ns], fun _ => none, fun a _ => a = .d (.bl true), rep0, ⟨_, _, rfl, scr_start hS, rfl⟩, ⟨a, ns, rfl, hl, rfl, fun _ => rfl⟩, fun a ω' v H' _ _ rv q => by subst q; exact rv_bl rv⟩
end
section
variable {P : Program} {w : World} {K : PySem.W.Frag} {mg : Str → Option Value} {base : Heap} {t : Adr}
def wholeO (o : O) : Bool := match o with
  | .d (.int _) => true
  | _ => false
def bitO (o : O) : Bool := match o with
  | .d (.int i) => decide (0 ≤ i) && decide (i ≤ 1)
  | _ => false
theorem whole_of (o : O) : (isDO "int" o = true ∧ isDO "bool" o = false ↔ wholeO o = true) ∧ (wholeO o = true → ∃ i, o = .d (.int i)) := by
  cases o with
  | d x => cases x <;> simp [isDO, tyO, tyD, wholeO]
  | box t =>
    cases t <;> simp [isDO, tyO, wholeO]
  | tup os => simp [isDO, tyO, wholeO]
def sp_whole : ASp := fun xs ω Q => ∃ x o, xs = [x] ∧ isO x o ∧ Q (.d (.bl (wholeO o))) ω
theorem ok_whole (T : Txt K mg t) : FnOk P w K mg base CX0 1 t.a_is_whole t.d_is_whole ["thing"] (lift sp_whole) := by
  refine T.f_is_whole.okD sc_is_whole (fun xs ω Q h => by obtain ⟨x, o, rfl, _⟩ := h; rfl) (fun cdv A outer s H E hr => ⟨_, _, (pss_one (ps_ret (pe_andG K rfl (pe_callB call_isA (by rfl) T.b_isinstance (by kernel_rfl) (pa_cons (pv 0) (pa_cons (pe_bltn (v := .ty "int") (by rfl) T.b_int (by kernel_rfl) (by rfl)) pa_nil))) (pe_one (pe_notG K rfl (pe_callB call_isA (by rfl) T.b_isinstance (by kernel_rfl) (pa_cons (pv 0) (pa_cons (pe_bltn (v := .ty "bool") (by rfl) T.b_bool (by kernel_rfl) (by rfl)) pa_nil)))))))), (s_ret (e_andG (e_cb c_isO (a_cons e_var (a_cons e_raw a_nil))) (e_notG (e_cb c_isO (a_cons e_var (a_cons e_raw a_nil)))))), fun xs ω Q h => ?_⟩)
  obtain ⟨x, o, rfl, hx, k⟩ := h
  obtain ⟨h1, _⟩ := whole_of o
  walk_at "a1"
  refine ⟨x, o, "int", rfl, hx, by decide, isDO "int" o, rfl, ?_⟩
  by_cases hi : isDO "int" o = true
  · rw [if_pos hi]
    refine ⟨x, o, "bool", rfl, hx, by decide, isDO "bool" o, rfl, ?_⟩
    rw [only_self]
    have : (!isDO "bool" o) = wholeO o := by
      cases hb : isDO "bool" o with
      | false => exact (h1.mp ⟨hi, hb⟩).symm
      | true =>
        cases hw : wholeO o with
        | false => rfl
        | true => have := (h1.mpr hw).2; rw [hb] at this; cases this
    rw [this]
    exact k
  · rw [if_neg hi]
    refine ⟨_, rfl, ?_⟩
    rw [only_self]
    have hi2 : isDO "int" o = false := by simpa using hi
    have : isDO "int" o = wholeO o := by
      rw [hi2]
      cases hw : wholeO o with
      | false => rfl
      | true => exact absurd (h1.mpr hw).1 hi
    rw [this]
    exact k
def sp_bit : ASp := fun xs ω Q => ∃ x o, xs = [x] ∧ isO x o ∧ Q (.d (.bl (bitO o))) ω
theorem ok_bit (T : Txt K mg t) : FnOk P w K mg base CX0 2 t.a_is_bit t.d_is_bit ["thing"] (lift sp_bit) := by
  have G_is_whole : FnOk P w K mg base CX0 1 t.a_is_whole t.d_is_whole ["thing"] (lift sp_whole) := ok_whole T
  refine T.f_is_bit.okD sc_is_bit (fun xs ω Q h => by obtain ⟨x, o, rfl, _⟩ := h; rfl) (fun cdv A outer s H E hr => ⟨_, _, (pss_one (ps_ret (pe_andG K rfl (pe_call G_is_whole (hr.mono (by omega)) (by rfl) T.m_is_whole T.k_is_whole T.p_is_whole .nil pass0 (pa_cons (pv 0) pa_nil)) (pe_one (pe_chain op_le op_le pe_int (pv 0) pe_int))))), (s_ret (e_andG (e_call (a_cons e_var a_nil)) (e_chain o_I0b o_I0b e_int e_var e_int))), fun xs ω Q h => ?_⟩)
  obtain ⟨x, o, rfl, hx, k⟩ := h
  obtain ⟨h1, h2⟩ := whole_of o
  walk_at "a1"
  refine ⟨x, o, rfl, hx, wholeO o, rfl, ?_⟩
  by_cases hw : wholeO o = true
  · obtain ⟨i, rfl⟩ := h2 hw
    obtain ⟨v, rfl⟩ := hx
    rw [if_pos hw]
    simp only [oA, bitO] at k ⊢
    walk_at "a1"
    rw [only_self]
    by_cases h0 : 0 ≤ i
    · rw [if_pos h0]
      rw [decide_eq_true h0, Bool.true_and] at k
      exact k
    · rw [if_neg h0]
      rw [decide_eq_false h0, Bool.false_and] at k
      exact k
  · rw [if_neg hw]
    have hb : bitO o = wholeO o := by
      have hw2 : wholeO o = false := by simpa using hw
      rw [hw2]
      cases o with
      | d x => cases x <;> first | rfl | (simp [wholeO] at hw)
      | _ => rfl
    refine ⟨_, rfl, ?_⟩
    rw [only_self, ← hb]
    exact k
end
section
variable {P : Program} {w : World} {K : PySem.W.Frag} {mg : Str → Option Value} {base : Heap} {t : Adr}
def sp_arep : ASp := fun xs ω Q => ∃ n : Nat, xs = [.d (.int n)] ∧ 1 ≤ n ∧ n ≤ 5 ∧ Q (.d (.bl true)) ω
theorem ok_arep (T : Txt K mg t) : FnOk P w K mg base CX0 2 t.a_are_places t.d_are_places ["thing"] (lift sp_arep) := by
  have G_is_whole : FnOk P w K mg base CX0 1 t.a_is_whole t.d_is_whole ["thing"] (lift sp_whole) := ok_whole T
  refine T.f_are_places.okD sc_are_places (fun xs ω Q h => by obtain ⟨n, rfl, _⟩ := h; rfl) (fun cdv A outer s H E hr => ⟨_, _, (pss_one (ps_ret (pe_andG K rfl (pe_call G_is_whole (hr.mono (by omega)) (by rfl) T.m_is_whole T.k_is_whole T.p_is_whole .nil pass0 (pa_cons (pv 0) pa_nil)) (pe_one (pe_chain op_le op_le pe_int (pv 0) (pe_glob (v := .int 5) rfl T.c_MOST_PLACES ⟨_, rfl⟩)))))), (s_ret (e_andG (e_call (a_cons e_var a_nil)) (e_chain o_I0b o_I0b e_int e_var e_int))), fun xs ω Q h => ?_⟩)
  obtain ⟨n, rfl, hn1, hn, k⟩ := h
  walk_at "a1"
  refine ⟨_, _, rfl, isO_d, true, rfl, ?_⟩
  rw [if_pos rfl, if_pos (by omega), only_self, decide_eq_true (by omega)]
  exact k
theorem tup_of_seq (o : O) : isDO "tuple" o = (seqO o).isSome := by
  cases o with
  | d x => cases x <;> simp [isDO, tyO, tyD, seqO]
  | box t => cases t <;> simp [isDO, tyO, seqO]
  | tup os => simp [isDO, tyO, seqO]
theorem eqI_ne {a b : Int} (h : a ≠ b) : eqD (D.int a) (D.int b) = false := by
  rw [eqD_int]
  simp [h]
def wordO (n : Nat) (o : O) : Bool := match seqO o with
  | some os => decide ((os.length : Int) = n) && os.all bitO
  | none => false
def sp_isw : ASp := fun xs ω Q => ∃ (n : Nat) (x : AV) (o : O), xs = [.d (.int n), x] ∧ isO x o ∧ 1 ≤ n ∧ n ≤ 5 ∧ Q (.d (.bl (wordO n o))) ω
theorem ok_isw (T : Txt K mg t) : FnOk P w K mg base CX0 3 t.a_is_word t.d_is_word ["places", "thing"] (lift sp_isw) := by
  have G_is_bit : FnOk P w K mg base CX0 2 t.a_is_bit t.d_is_bit ["thing"] (lift sp_bit) := ok_bit T
  have G_are_places : FnOk P w K mg base CX0 2 t.a_are_places t.d_are_places ["thing"] (lift sp_arep) := ok_arep T
  refine T.f_is_word.okD sc_is_word (fun xs ω Q h => by obtain ⟨n, x, o, rfl, _⟩ := h; rfl) (fun cdv A outer s H E hr => ⟨_, _, (pss_cons (ps_if (PW.pt (pw_or (pt_not (pt_truthK K rfl (pe_call G_are_places (hr.mono (by omega)) (by rfl) T.m_are_places T.k_are_places T.p_are_places .nil pass0 (pa_cons (pv 0) pa_nil)) (fun _ => rfl))) (pw_or1 (pt_not (pt_truthK K rfl (pe_callB call_isA (by rfl) T.b_isinstance (by kernel_rfl) (pa_cons (pv 1) (pa_cons (pe_bltn (v := .ty "tuple") (by rfl) T.b_tuple (by kernel_rfl) (by rfl)) pa_nil))) (fun _ => rfl)))))) (pss_one (ps_ret pe_bl)) pss_nil)
      (pss_one (ps_ret (pe_andG K rfl (pe_cmpR (op_eqD hr.u100) (pe_callB (call_lenK K rfl) (by rfl) T.b_len (by kernel_rfl) (pa_cons (pv 1) pa_nil)) (pv 0) (nomark _)) (pe_one (pe_callB (call_allK K rfl rfl) (by rfl) T.b_all (by kernel_rfl) (pa_cons (pe_comp (N := (["bit"] : List Str)) (src := [none]) rfl (by show blkOk _ (defScope s_is_word) _ _ (["places", "thing"] : List Str) = true; decide +kernel) (by intro g' h; cases h) (pi_seq K rfl (pv 1)) (fun _ _ _ _ _ _ => (pg_name (i := 0) (show (["bit"] : List Str).Nodup by decide +kernel) rfl (Or.inl rfl))) (fun _ _ _ _ _ _ => pts_nil) (fun _ _ _ _ _ _ => (pl_last rfl rfl (pe_call G_is_bit (hr.mono (by omega)) (by rfl) T.m_is_bit T.k_is_bit T.p_is_bit .nil pass0 (pa_cons (pv 0) pa_nil))))) pa_nil))))))), (s_seq (s_if (t_or (t_not (t_tru (e_call (a_cons e_var a_nil)))) (t_not (t_tru (e_cb c_isO (a_cons e_var (a_cons e_raw a_nil)))))) (s_ret e_bl) s_next)
      (s_ret (e_andG (e_op o_eqD (e_cb c_lenP (a_cons e_var a_nil)) e_var) (e_cb c_all (a_cons (e_comp (i_seqO e_var) g_name t_no (l_last (e_call (a_cons e_var a_nil)))) a_nil))))), fun xs ω Q h => ?_⟩)
  obtain ⟨n, x, o, rfl, hx, hn1, hn, k⟩ := h
  have ht := tup_of_seq o
  walk_at "s1"
  refine ⟨n, rfl, hn1, hn, true, rfl, ?_⟩
  rw [if_neg (by decide)]
  refine ⟨x, o, "tuple", rfl, hx, by decide, ?_⟩
  refine ⟨_, rfl, ?_⟩
  unfold wordO at k
  cases hs : seqO o with
  | none =>
    rw [hs] at ht k
    rw [ht]
    rw [only_self]
    exact k
  | some os =>
    rw [hs] at ht k
    rw [ht, if_neg (by simp)]
    refine ⟨x, o, os, rfl, hx, hs, ?_⟩
    dsimp only at k
    refine ⟨_, rfl, by simp [dep], ?_⟩
    by_cases hl : (os.length : Int) = n
    · rw [if_pos (by rw [hl]; exact eqD_refl _)]
      rw [decide_eq_true hl, Bool.true_and] at k
      refine ⟨x, rfl, o, os, hx, hs, fun us hu => ?_⟩
      refine comp_ix (rs := (os.map bitO).map D.bl) (by simp [hu]) (Nat.le_of_lt (small1000 (by simp; omega))) (fun i a r ha hr' Q q => ?_) (fun ρ => ⟨_, und_map _, os.map bitO, rfl, ?_⟩)
      · simp only [List.getElem?_map, Option.map_eq_some_iff] at hr'
        obtain ⟨_, ⟨o', h1, rfl⟩, rfl⟩ := hr'
        rw [List.getElem?_zipWith, h1] at ha
        cases e : us[i]? with
        | none => rw [e] at ha; cases ha
        | some v =>
          rw [e] at ha
          cases ha
          walk_at "a1"
          exact ⟨_, o', rfl, isO_oA, q⟩
      · rw [only_self, List.all_map]
        exact k
    · have e0 : eqD (D.int (os.length : Int)) (D.int n) = false := eqI_ne hl
      rw [e0, if_neg (by decide), only_self]
      rw [decide_eq_false hl, Bool.false_and] at k
      exact k
theorem ok_due (T : Txt K mg t) : FnOk P w K mg base CX0 1 t.a_l_due t.d_l_due ["_law_places", "_law_thing"] (lift sp_isw) := by
  refine T.f_l_due.okD sc_l_due (fun xs ω Q h => by obtain ⟨n, x, o, rfl, _⟩ := h; rfl) (fun cdv A outer s H E hr => ⟨_, _, (pss_cons (ps_if (PW.pt (pw_or (pt_not (pt_truthK K rfl (pe_callB call_isA (by rfl) T.b_isinstance (by kernel_rfl) (pa_cons (pv 1) (pa_cons (pe_bltn (v := .ty "tuple") (by rfl) T.b_tuple (by kernel_rfl) (by rfl)) pa_nil))) (fun _ => rfl))) (pw_or1 (pt_cmpR (op_neD hr.u100) (pe_callB (call_lenK K rfl) (by rfl) T.b_len (by kernel_rfl) (pa_cons (pv 1) pa_nil)) (pv 0) (nomark _))))) (pss_one (ps_ret pe_bl)) pss_nil)
      (pss_cons (ps_for PassesOwn.never rfl (pi_seq K rfl (pv 1)) (pg_name (i := 2) sc_l_due.nd rfl (Or.inl rfl)) (pss_one (ps_if (PW.pt (pw_or (pt_not (pt_truthK K rfl (pe_callB call_isA (by rfl) T.b_isinstance (by kernel_rfl) (pa_cons (pv 2) (pa_cons (pe_bltn (v := .ty "int") (by rfl) T.b_int (by kernel_rfl) (by rfl)) pa_nil))) (fun _ => rfl))) (pw_or (pt_truthK K rfl (pe_callB call_isA (by rfl) T.b_isinstance (by kernel_rfl) (pa_cons (pv 2) (pa_cons (pe_bltn (v := .ty "bool") (by rfl) T.b_bool (by kernel_rfl) (by rfl)) pa_nil))) (fun _ => rfl)) (pw_or (pt_cmpR op_lt (pv 2) pe_int (nomark _)) (pw_or1 (pt_cmpR op_gt (pv 2) pe_int (nomark _))))))) (pss_one (ps_ret pe_bl)) pss_nil)))
      (pss_one (ps_ret pe_bl)))), (s_seq (s_if (t_or (t_not (t_tru (e_cb c_isO (a_cons e_var (a_cons e_raw a_nil))))) (t_test (e_op o_eqD (e_cb c_lenP (a_cons e_var a_nil)) e_var))) (s_ret e_bl) s_next)
      (s_seq (s_for (i_seqO e_var) g_name (s_if (t_or (t_not (t_tru (e_cb c_isO (a_cons e_var (a_cons e_raw a_nil))))) (t_or (t_tru (e_cb c_isO (a_cons e_var (a_cons e_raw a_nil)))) (t_or (t_test (e_op o_I0b e_var e_int)) (t_test (e_op o_I0b e_var e_int))))) (s_ret e_bl) s_next))
      (s_ret e_bl))), fun xs ω Q h => ?_⟩)
  obtain ⟨n, x, o, rfl, hx, hn1, hn, k⟩ := h
  have ht := tup_of_seq o
  walk_at "s1"
  refine ⟨x, o, "tuple", rfl, hx, by decide, _, rfl, ?_⟩
  unfold wordO at k
  cases hs : seqO o with
  | none =>
    rw [hs] at ht k
    rw [ht]
    rw [only_self]
    exact k
  | some os =>
    rw [hs] at ht k
    rw [ht, if_neg (by simp)]
    refine ⟨x, o, os, rfl, hx, hs, ?_⟩
    dsimp only at k
    refine ⟨_, rfl, by simp [dep], ?_⟩
    by_cases hl : (os.length : Int) = n
    · rw [if_neg (by rw [hl, eqD_refl]; decide)]
      rw [decide_eq_true hl, Bool.true_and] at k
      walk_at "s1"
      refine ⟨x, rfl, o, os, hx, hs, fun us hu => ?_⟩
      refine for_ix (fun i ρ ω' => ω' = ω ∧ (os.take i).all bitO = true ∧ ∃ v1, ρ = [some (AV.d (D.int n)), some x, v1]) ⟨rfl, rfl, _, rfl⟩ ?_ ?_
      · rintro i e ρ ω1 N he ⟨rfl, hb, v1, rfl⟩ kN
        rw [List.getElem?_zipWith] at he
        cases h1 : os[i]? with
        | none => rw [h1] at he; cases he
        | some o' =>
          cases h2 : us[i]? with
          | none => rw [h1, h2] at he; cases he
          | some v =>
            rw [h1, h2] at he
            cases he
            obtain ⟨w1, w2⟩ := whole_of o'
            have no : bitO o' = false → os.all bitO = false := fun hb' => by
              rw [List.all_eq_false]
              exact ⟨o', List.mem_of_getElem? h1, by rw [hb']; decide⟩
            have st : bitO o' = true → (os.take (i + 1)).all bitO = true := fun hb' => by
              rw [List.take_succ, h1, List.all_append, hb]
              simp [hb']
            have bad : bitO o' = false → Q (AV.d (D.bl false)) (ω1.only ω1) := fun hb' => by
              rw [only_self]
              rw [no hb'] at k
              exact k
            walk_at "a1"
            refine ⟨_, o', "int", rfl, isO_oA, by decide, _, rfl, ?_⟩
            by_cases hw : wholeO o' = true
            · obtain ⟨z, rfl⟩ := w2 hw
              obtain ⟨i1, i2⟩ := w1.mpr hw
              rw [i1, if_neg (by decide)]
              refine ⟨_, _, "bool", rfl, isO_oA, by decide, _, rfl, ?_⟩
              rw [i2, if_neg (by decide)]
              simp only [oA]
              walk_at "a1"
              by_cases h0 : z < 0
              · rw [if_pos h0]
                exact bad (by simp only [bitO]; rw [decide_eq_false (by omega)]; rfl)
              · rw [if_neg h0]
                by_cases h1' : 1 < z
                · rw [if_pos h1']
                  exact bad (by simp only [bitO]; rw [decide_eq_false (p := z ≤ 1) (by omega), Bool.and_false])
                · rw [if_neg h1']
                  exact kN _ _ ⟨rfl, st (by simp only [bitO]; rw [decide_eq_true (by omega), decide_eq_true (by omega)]; rfl), _, rfl⟩
            · have hb' : bitO o' = false := by
                cases o' with
                | d x => cases x <;> first | rfl | (simp [wholeO] at hw)
                | _ => rfl
              by_cases hi : isDO "int" o' = true
              · rw [hi, if_neg (by decide)]
                refine ⟨_, o', "bool", rfl, isO_oA, by decide, _, rfl, ?_⟩
                have : isDO "bool" o' = true := by
                  cases hbb : isDO "bool" o' with
                  | true => rfl
                  | false => exact absurd (w1.mp ⟨hi, hbb⟩) hw
                rw [this, if_pos rfl]
                exact bad hb'
              · have hi : isDO "int" o' = false := by simpa using hi
                rw [hi, if_pos (by decide)]
                exact bad hb'
      · rintro ρ ω1 ⟨rfl, hb, v1, rfl⟩
        walk_at "a1"
        rw [only_self]
        rw [show (List.zipWith oA os us).length = os.length from by simp [hu], List.take_length] at hb
        rw [hb] at k
        exact k
    · rw [eqI_ne hl, if_pos (by decide), only_self]
      rw [decide_eq_false hl, Bool.false_and] at k
      exact k
def sp_same : ASp := fun xs ω Q => ∃ (n : Nat) (x : AV) (o : O), xs = [.d (.int n), x] ∧ isO x o ∧ 1 ≤ n ∧ n ≤ 5 ∧ Q (.d (.bl true)) ω
theorem ok_same (T : Txt K mg t) : FnOk P w K mg base CX0 4 t.a_l_same t.d_l_same ["_law_places", "_law_thing"] (lift sp_same) := by
  have G_is_word : FnOk P w K mg base CX0 3 t.a_is_word t.d_is_word ["places", "thing"] (lift sp_isw) := ok_isw T
  have G_l_due : FnOk P w K mg base CX0 1 t.a_l_due t.d_l_due ["_law_places", "_law_thing"] (lift sp_isw) := ok_due T
  refine T.f_l_same.okD sc_l_same (fun xs ω Q h => by obtain ⟨n, x, o, rfl, _⟩ := h; rfl) (fun cdv A outer s H E hr => ⟨_, _, (pss_cons (ps_set (i := 2) sc_l_same.nd rfl (Or.inl rfl) (pe_call G_is_word (hr.mono (by omega)) (by rfl) T.m_is_word T.k_is_word T.p_is_word .nil pass0 (pa_cons (pv 0) (pa_cons (pv 1) pa_nil))))
      (pss_one (ps_ret (pe_andG K rfl (pe_callB call_isA (by rfl) T.b_isinstance (by kernel_rfl) (pa_cons (pv 2) (pa_cons (pe_bltn (v := .ty "bool") (by rfl) T.b_bool (by kernel_rfl) (by rfl)) pa_nil))) (pe_one (pe_cmpR (op_eqD hr.u100) (pv 2) (pe_call G_l_due (hr.mono (by omega)) (by rfl) T.m_l_due T.k_l_due T.p_l_due .nil pass0 (pa_cons (pv 0) (pa_cons (pv 1) pa_nil))) (nomark _))))))), (s_seq (s_asg (e_call (a_cons e_var (a_cons e_var a_nil))) g_name)
      (s_ret (e_andG (e_cb c_isO (a_cons e_var (a_cons e_raw a_nil))) (e_op o_eqD e_var (e_call (a_cons e_var (a_cons e_var a_nil))))))), fun xs ω Q h => ?_⟩)
  obtain ⟨n, x, o, rfl, hx, hn1, hn, k⟩ := h
  walk_at "s1"
  refine ⟨n, x, o, rfl, hx, hn1, hn, ?_⟩
  walk_at "a1"
  refine ⟨_, _, "bool", rfl, isO_d, by decide, true, by cases wordO n o <;> rfl, ?_⟩
  rw [if_pos rfl]
  refine ⟨n, x, o, rfl, hx, hn1, hn, _, rfl, ?_⟩
  rw [eqD_refl, only_self]
  exact k
end
section
variable {P : Program} {w : World} {K : PySem.W.Frag} {mg : Str → Option Value} {base : Heap} {t : Adr}
def Odds1 (xs : List AV) : Prop := ∀ x ∈ xs, ∃ o, isO x o
theorem odds_at {xs : List AV} {i : Int} (h : Odds1 xs) (h0 : 0 ≤ i) (h1 : i < xs.length) : ∃ x o, atI xs i = some x ∧ isO x o := by
  have hl : i.toNat < xs.length := by omega
  obtain ⟨o, ho⟩ := h xs[i.toNat] (List.getElem_mem hl)
  exact ⟨_, o, atI_of i.toNat (by omega) (List.getElem?_eq_getElem hl), ho⟩
def sp_odd : ASp := fun xs ω Q => ∃ (p : Addr) (b : Nat), xs = [.r (.ref p)] ∧ PnAt ω p b ∧ b ≤ 10000 ∧ ∀ (x : AV) (o : O) (c : Pn), isO x o → Cn c (b + 1) → Q x (ω.put p (penO c))
theorem ok_odd (T : Txt K mg t) : FnOk P w K mg base CX0 2 t.a_l_odd t.d_l_odd ["_law_pen_here"] (lift sp_odd) := by
  have G_l_pick : FnOk P w K mg base CX0 1 t.a_l_pick t.d_l_pick ["_law_pen_here", "_law_many"] (lift sp_draw) := ok_draw T
  refine T.f_l_odd.okO sc_l_odd (fun xs ω Q h => by obtain ⟨p, b, rfl, _⟩ := h; rfl) (fun cdv A outer s H E hr => ⟨_, _, (pss_cons (ps_set (i := 1) sc_l_odd.nd rfl (Or.inl rfl) (pe_lst (pa_consC pe_non (pa_consC pe_bl (pa_consC pe_bl (pa_consC pe_int (pa_consC pe_int (pa_consC pe_int (pa_cons (pe_un un_neg pe_int) (pa_cons (pe_op op_pow pe_int pe_int) (pa_consC pe_str (pa_consC pe_str (pa_consC pe_str (pa_consT (pe_tup pa_nil) (pa_consL (pe_lst pa_nil) (pa_cons (pe_dnewK) (pa_consT (pe_tup (pa_consC pe_int pa_nil)) (pa_consL (pe_lst (pa_consC pe_int pa_nil)) (pa_consT (pe_tup (pa_consC pe_int (pa_consC pe_int pa_nil))) (pa_consL (pe_lst (pa_consT (pe_tup (pa_consC pe_int (pa_consC pe_int pa_nil))) pa_nil)) (pa_cons (pe_disp (pps_cons pe_int pe_int pps_nil) rfl rfl (by simp) (by decide)) pa_nil)))))))))))))))))))))
      (pss_one (ps_ret (pe_ix (ix_seqK K rfl) (pv 1) (pe_call G_l_pick (hr.mono (by omega)) (by rfl) T.m_l_pick T.k_l_pick T.p_l_pick .nil pass0 (pa_cons (pv 0) (pa_cons (pe_callB (call_lenK K rfl) (by rfl) T.b_len (by kernel_rfl) (pa_cons (pv 1) pa_nil)) pa_nil))) (fun _ _ => rfl))))), (s_seq (s_asg (e_lstO (a_cons e_non (a_cons e_bl (a_cons e_bl (a_cons e_int (a_cons e_int (a_cons e_int (a_cons (e_un u_i e_int) (a_cons (e_op o_Ii e_int e_int) (a_cons e_str (a_cons e_str (a_cons e_str (a_cons (e_tup a_nil) (a_cons (e_lst a_nil) (a_cons e_dct0 (a_cons (e_tup (a_cons e_int a_nil)) (a_cons (e_lst (a_cons e_int a_nil)) (a_cons (e_tup (a_cons e_int (a_cons e_int a_nil))) (a_cons (e_lst (a_cons (e_tup (a_cons e_int (a_cons e_int a_nil))) a_nil)) (a_cons (e_dctK e_int e_int) a_nil)))))))))))))))))))) g_name)
      (s_ret (e_op o_ix e_var (e_call (a_cons e_var (a_cons (e_cb c_len (a_cons e_var a_nil)) a_nil)))))), fun xs ω Q h => ?_⟩)
  obtain ⟨p, b, rfl, hp, hb, k⟩ := h
  walk_at "s1"
  refine ⟨⟨by decide, by decide, by decide⟩, fun v q hq => ⟨.inr ⟨_, rfl⟩, Om.put_same, fun v' => ?_⟩⟩
  rw [Om.del_put hq]
  refine ⟨small1000 (by decide) |> Nat.le_of_lt, fun l hl => ?_⟩
  have hpl := hp.ne hl
  generalize hL : [AV.d D.non, AV.d (D.bl true), AV.d (D.bl false), AV.d (D.int 0), AV.d (D.int 1), AV.d (D.int 2), AV.d (D.int (-1)), AV.d (D.int (10 ^ 29)), AV.d (D.str (Str.ofString "")), AV.d (D.str (Str.ofString "0")), AV.d (D.str (Str.ofString "01")), AV.d (D.tup []), AV.d (D.lst []), oA (.box true) v, AV.d (D.tup [D.int 0]), AV.d (D.lst [D.int 0]), AV.d (D.tup [D.int 1, D.int 0]), AV.d (D.lst [D.tup [D.int 0, D.int 1]]), oA (.box true) v'] = xs
  have hX : Odds1 xs := by
    subst hL
    intro x hx
    simp only [List.mem_cons, List.not_mem_nil, or_false] at hx
    rcases hx with rfl | rfl | rfl | rfl | rfl | rfl | rfl | rfl | rfl | rfl | rfl | rfl | rfl | rfl | rfl | rfl | rfl | rfl | rfl <;> first | exact ⟨_, isO_d⟩ | exact ⟨_, isO_oA⟩
  have hXl : xs.length = 19 := by subst hL; rfl
  refine ⟨p, _, b, rfl, hp.other hpl, by omega, by decide, by decide, fun r c hc r0 r1 => ?_⟩
  rw [Om.put_comm hpl]
  simp only [Om.put_same]
  obtain ⟨x, o, ex, ho⟩ := odds_at hX r0 (by rw [hXl]; exact r1)
  refine ⟨_, rfl, r, rfl, x, ex, ?_⟩
  rw [only_put ((Ex.refl _).new (by rw [Om.put_ne (Ne.symm hpl)]; exact hl)) hp.some]
  exact k x o c ho hc
def sp_nest : ASp := fun xs ω Q => ∃ (p : Addr) (b m : Nat), xs = [.r (.ref p), .d (.int m)] ∧ PnAt ω p b ∧ b ≤ 1000 ∧ m < 100 ∧ ∀ (x : AV) (o : O) (c : Pn), isO x o → Cn c (b + 1 + m) → Q x (ω.put p (penO c))
theorem ok_nest (T : Txt K mg t) : FnOk P w K mg base CX0 3 t.a_l_nested t.d_l_nested ["_law_pen_here", "_law_far"] (lift sp_nest) := by
  have G_l_pick : FnOk P w K mg base CX0 1 t.a_l_pick t.d_l_pick ["_law_pen_here", "_law_many"] (lift sp_draw) := ok_draw T
  have G_l_odd : FnOk P w K mg base CX0 2 t.a_l_odd t.d_l_odd ["_law_pen_here"] (lift sp_odd) := ok_odd T
  refine T.f_l_nested.okO sc_l_nested (fun xs ω Q h => by obtain ⟨p, b, m, rfl, _⟩ := h; rfl) (fun cdv A outer s H E hr => ⟨_, _, (pss_cons (ps_set (i := 2) sc_l_nested.nd rfl (Or.inl rfl) (pe_call G_l_odd (hr.mono (by omega)) (by rfl) T.m_l_odd T.k_l_odd T.p_l_odd .nil pass0 (pa_cons (pv 0) pa_nil)))
      (pss_cons (ps_for PassesOwn.never rfl (pi_range1 rfl T.b_range (pa_cons (pv 1) pa_nil)) (pg_name (i := 3) sc_l_nested.nd rfl (Or.inl rfl)) (pss_one (ps_set (i := 2) sc_l_nested.nd rfl (Or.inl rfl) (pe_ix (ix_seqK K rfl) (pe_lst (pa_consL (pe_lst (pa_cons (pv 2) pa_nil)) (pa_consT (pe_tup (pa_cons (pv 2) pa_nil)) (pa_cons (pe_disp (pps_cons pe_int (pv 2) pps_nil) rfl rfl (by simp) (by decide)) (pa_consL (pe_lst (pa_consC pe_int (pa_cons (pv 2) pa_nil))) (pa_consT (pe_tup (pa_cons (pv 2) (pa_consC pe_int pa_nil))) pa_nil)))))) (pe_call G_l_pick (hr.mono (by omega)) (by rfl) T.m_l_pick T.k_l_pick T.p_l_pick .nil pass0 (pa_cons (pv 0) (pa_consC pe_int pa_nil))) (fun _ _ => rfl)))))
      (pss_one (ps_ret (pv 2))))), (s_seq (s_asg (e_call (a_cons e_var a_nil)) g_name)
      (s_seq (s_for (i_rng1 (a_cons e_var a_nil)) g_name (s_asg (e_op o_ix (e_lstO (a_cons (e_lstP (a_cons e_var a_nil)) (a_cons (e_tupP (a_cons e_var a_nil)) (a_cons (e_dctK e_int e_var) (a_cons (e_lstP (a_cons e_int (a_cons e_var a_nil))) (a_cons (e_tupP (a_cons e_var (a_cons e_int a_nil))) a_nil)))))) (e_call (a_cons e_var (a_cons e_int a_nil)))) g_name))
      (s_ret e_var))), fun xs ω Q h => ?_⟩)
  obtain ⟨p, b, m, rfl, hp, hb, hm, k⟩ := h
  walk_at "s1"
  refine ⟨p, b, rfl, hp, by omega, fun x o c hx hc => ?_⟩
  walk_at "s1"
  refine ⟨by omega, by omega, for_rng (fun i ρ ω' => ∃ (x : AV) (o : O) (c : Pn) (v3 : Option AV), isO x o ∧ Cn c (b + 1 + i) ∧ Ex (ω.put p (penO c)) ω' ∧ ρ = [some (.r (.ref p)), some (.d (.int m)), some x, v3]) ⟨x, o, c, _, hx, hc, Ex.refl _, rfl⟩ ?_ ?_⟩
  · rintro i ρ ω1 N hi ⟨x, o, c, v3, hx, hc, hE, rfl⟩ kN
    walk_at "a1"
    refine ⟨x, rfl, Nat.le_of_lt (small1000 (by simp)), fun v1 => ?_⟩
    refine ⟨x, rfl, Nat.le_of_lt (small1000 (by simp)), [o], ⟨o, [], rfl, hx, rfl⟩, fun v2 => ?_⟩
    refine fun q hq => ⟨.inr ⟨_, rfl⟩, x, rfl, Om.put_same, fun v3 => ?_⟩
    rw [Om.del_put hq]
    refine ⟨x, rfl, Nat.le_of_lt (small1000 (by simp)), fun v4 => ?_⟩
    refine ⟨x, rfl, Nat.le_of_lt (small1000 (by simp)), [o, .d (.int 0)], ⟨o, _, rfl, hx, _, [], rfl, isO_d, rfl⟩, fun v5 l hl => ?_⟩
    have hp1 : PnAt ω1 p (b + 1 + i) := ⟨c, hc, (hE p (by rw [Om.put_same]; rfl)).trans Om.put_same⟩
    have hpl := hp1.ne hl
    refine ⟨p, _, b + 1 + i, rfl, hp1.other hpl, by omega, by decide, by decide, fun r c2 hc2 r0 r1 => ?_⟩
    rw [Om.put_comm hpl]
    simp only [Om.put_same]
    have hX : Odds1 [oA (.box false) v1, oA (.tup [o]) v2, oA (.box true) v3, oA (.box false) v4, oA (.tup [o, .d (.int 0)]) v5] := by
      intro x hx
      simp only [List.mem_cons, List.not_mem_nil, or_false] at hx
      rcases hx with rfl | rfl | rfl | rfl | rfl <;> exact ⟨_, isO_oA⟩
    obtain ⟨y, o', ey, ho'⟩ := odds_at hX r0 (by exact r1)
    refine ⟨_, rfl, r, rfl, y, ey, kN _ _ ⟨y, o', c2, _, ho', hc2, ?_, rfl⟩⟩
    exact hE.put2.new (by rw [Om.put_ne (Ne.symm hpl)]; exact hl)
  · rintro ρ ω1 ⟨x, o, c, v3, hx, hc, hE, rfl⟩
    walk_at "a1"
    rw [only_put hE hp.some]
    exact k x o c hx hc
end
section
variable {P : Program} {w : World} {K : PySem.W.Frag} {mg : Str → Option Value} {base : Heap} {t : Adr}
theorem comp_sti {β : Type} {te : AE} {as : List AV} {v0 : Option AV} {rest : SA} {ω : Om} {K : List AV → SA → Om → Prop} (S : Nat → Om → Prop) (enc : β → D) (R : β → Prop) (h0 : S 0 ω) (hz : as.length ≤ sizeLine)
    (he : ∀ (i : Nat) (a : AV), i < as.length → ∀ ω, S i ω → ∀ Q : AV → Om → Prop, (∀ b ω', R b → S (i + 1) ω' → Q (.d (enc b)) ω') → te (some a :: rest) ω Q)
    (hk : ∀ (bs : List β) (ρ : SA) (ω' : Om), bs.length = as.length → (∀ b ∈ bs, R b) → S as.length ω' → K ((bs.map enc).map AV.d) ρ ω') : aLoop (agName 0) aNoTest (aLast te) as [] (v0 :: rest) ω K := by
  refine loop_ix (fun i xs ρ ω' => ∃ v bs, S i ω' ∧ ρ = v :: rest ∧ xs = (bs.map enc).map AV.d ∧ bs.length = i ∧ ∀ b ∈ bs, R b) ⟨_, [], h0, rfl, rfl, rfl, fun b h => by simp at h⟩ ?_ ?_
  · rintro i a xs ρ ω' N ha ⟨v, bs, hS, rfl, rfl, hl, hR⟩ kN
    have hi := (List.getElem?_eq_some_iff.mp ha).1
    rw [agName_eq, List.set_cons_zero, aNoTest_eq, if_pos rfl, aLast_eq]
    refine he i a hi _ hS _ fun b ω2 hb hS2 => ⟨by rw [List.length_map, List.length_map]; omega, kN _ _ _ ⟨_, bs ++ [b], hS2, rfl, by simp, by simp [hl], fun b' hj => ?_⟩⟩
    rcases List.mem_append.mp hj with h | h
    · exact hR b' h
    · cases List.mem_singleton.mp h
      exact hb
  · rintro xs ρ ω' ⟨v, bs, hS, rfl, rfl, hl, hR⟩
    exact hk bs _ _ hl hR hS
theorem odds_more {ys : List AV} {x : AV} {o : O} (h : Odds1 ys) (hx : isO x o) : Odds1 (ys ++ [x]) := fun z hz => by
  rcases List.mem_append.mp hz with hz | hz
  · exact h z hz
  · cases List.mem_singleton.mp hz
    exact ⟨o, hx⟩
theorem ok_law (T : Txt K mg t) : FnOk P w K mg base CX0 30 t.a_law t.d_law ["_law_script"] (sp_law K) := by
  have G_l_pen : FnOk P w K mg base CX0 1 t.a_l_pen t.d_l_pen ["_law_script", "_law_at"] (lift (sp_pen K)) := ok_pen T
  have G_l_pick : FnOk P w K mg base CX0 1 t.a_l_pick t.d_l_pick ["_law_pen_here", "_law_many"] (lift sp_draw) := ok_draw T
  have G_l_odd : FnOk P w K mg base CX0 2 t.a_l_odd t.d_l_odd ["_law_pen_here"] (lift sp_odd) := ok_odd T
  have G_l_nested : FnOk P w K mg base CX0 3 t.a_l_nested t.d_l_nested ["_law_pen_here", "_law_far"] (lift sp_nest) := ok_nest T
  have G_l_same : FnOk P w K mg base CX0 4 t.a_l_same t.d_l_same ["_law_places", "_law_thing"] (lift sp_same) := ok_same T
  refine T.f_law.okA sc_law (fun xs ω Q h => by obtain ⟨a, ns, rfl, _⟩ := h; rfl) (fun cdv A outer s H E hr => ⟨_, _, (pss_cons (ps_for PassesOwn.never rfl (pi_range1 rfl T.b_range (pa_cons (pe_callB (call_max2 rfl) (by rfl) T.b_max (by kernel_rfl) (pa_consC pe_int (pa_cons (pe_callB (call_min2 rfl) (by rfl) T.b_min (by kernel_rfl) (pa_consC pe_int (pa_cons (pe_callB (call_lenK K rfl) (by rfl) T.b_len (by kernel_rfl) (pa_cons (pv 0) pa_nil)) pa_nil))) pa_nil))) pa_nil)) (pg_name (i := 1) sc_law.nd rfl (Or.inl rfl)) (pss_cons (ps_set (i := 2) sc_law.nd rfl (Or.inr rfl) (pe_call G_l_pen (hr.mono (by omega)) (by rfl) T.m_l_pen T.k_l_pen T.p_l_pen .nil pass0 (pa_cons (pv 0) (pa_cons (pv 1) pa_nil))))
      (pss_cons (ps_set (i := 3) sc_law.nd rfl (Or.inl rfl) (pe_op (op_alt op_add (op_alt op_cat3 op_cat)) pe_int (pe_call G_l_pick (hr.mono (by omega)) (by rfl) T.m_l_pick T.k_l_pick T.p_l_pick .nil pass0 (pa_cons (pv 2) (pa_consC pe_int pa_nil)))))
      (pss_cons (ps_set (i := 4) sc_law.nd rfl (Or.inl rfl) (pe_callTy (call_tuple_ofK K rfl) (by rfl) T.b_tuple (by kernel_rfl) (pa_cons (pe_comp (N := (["_law_k", "_law_pen_here"] : List Str)) (src := [none, some 2]) rfl (by show blkOk _ (defScope s_law) _ _ (["_law_script", "_law_at", "_law_pen_here", "_law_places", "_law_word", "_law_things", "_law_k", "_law_bit", "_law_thing"] : List Str) = true; decide +kernel) (by intro g' h; cases h) (pi_range1 rfl T.b_range (pa_cons (pv 3) pa_nil)) (fun _ _ _ _ _ _ => (pg_name (i := 0) (show (["_law_k", "_law_pen_here"] : List Str).Nodup by decide +kernel) rfl (Or.inl rfl))) (fun _ _ _ _ _ _ => pts_nil) (fun _ _ _ _ _ _ => (pl_last rfl rfl (pe_call G_l_pick (hr.mono (by omega)) (by rfl) T.m_l_pick T.k_l_pick T.p_l_pick .nil pass0 (pa_cons (pv 1) (pa_consC pe_int pa_nil)))))) pa_nil)))
      (pss_cons (ps_set (i := 5) sc_law.nd rfl (Or.inl rfl) (pe_lst (pa_cons (pv 4) (pa_cons (pe_callTy (call_list_ofK K rfl) (by rfl) T.b_list (by kernel_rfl) (pa_cons (pv 4) pa_nil)) (pa_cons (pe_bm PySem.F.plainAttrs_str PySem.F.slot_str_join PySem.F.type_str_join (mt_joinS K rfl) pe_str (pa_cons (pe_comp (N := (["_law_bit"] : List Str)) (src := [none]) rfl (by show blkOk _ (defScope s_law) _ _ (["_law_script", "_law_at", "_law_pen_here", "_law_places", "_law_word", "_law_things", "_law_k", "_law_bit", "_law_thing"] : List Str) = true; decide +kernel) (by intro g' h; cases h) (pi_seq K rfl (pv 4)) (fun _ _ _ _ _ _ => (pg_name (i := 0) (show (["_law_bit"] : List Str).Nodup by decide +kernel) rfl (Or.inl rfl))) (fun _ _ _ _ _ _ => pts_nil) (fun _ _ _ _ _ _ => (pl_last rfl rfl (pe_callTy call_str_int (by rfl) T.b_str (by kernel_rfl) (pa_cons (pv 0) pa_nil))))) pa_nil)) (pa_consT (pe_tup (pa_cons (pv 4) pa_nil)) (pa_cons (pe_op (op_alt op_add (op_alt op_cat3 op_cat)) (pv 4) (pv 4)) (pa_cons (pe_tupRevK K rfl rfl (by rfl) T.b_tuple (by rfl) T.b_reversed (pa_cons (pv 4) pa_nil)) pa_nil))))))))
      (pss_cons (ps_for PassesOwn.never rfl (pi_range1 rfl T.b_range (pa_cons (pv 3) pa_nil)) (pg_name (i := 6) sc_law.nd rfl (Or.inl rfl)) (pss_cons (ps_for PassesOwn.never rfl (pi_seq K rfl (pe_lst (pa_consC pe_int (pa_consC pe_int (pa_consC pe_int (pa_cons (pe_un un_neg pe_int) (pa_consC pe_bl (pa_consC pe_bl (pa_consC pe_non (pa_consC pe_str (pa_consT (pe_tup (pa_consC pe_int pa_nil)) (pa_cons (pe_op op_pow pe_int pe_int) pa_nil)))))))))))) (pg_name (i := 7) sc_law.nd rfl (Or.inl rfl)) (pss_one (ps_expr (pe_bm PySem.F.plainAttrs_list PySem.F.slot_list_append PySem.F.type_list_append mt_append (pv 5) (pa_cons (pe_op (op_alt op_add (op_alt op_cat3 op_cat)) (pe_op (op_alt op_add (op_alt op_cat3 op_cat)) (pe_slice (sl_any K rfl) (pv 4) po_none (po_some (pv 6))) (pe_tup (pa_cons (pv 7) pa_nil))) (pe_slice (sl_any K rfl) (pv 4) (po_some (pe_op (op_alt op_add (op_alt op_cat3 op_cat)) (pv 6) pe_int)) po_none)) pa_nil)))))
      (pss_cons (ps_expr (pe_bm PySem.F.plainAttrs_list PySem.F.slot_list_append PySem.F.type_list_append mt_append (pv 5) (pa_cons (pe_op (op_alt op_add (op_alt op_cat3 op_cat)) (pe_slice (sl_any K rfl) (pv 4) po_none (po_some (pv 6))) (pe_slice (sl_any K rfl) (pv 4) (po_some (pe_op (op_alt op_add (op_alt op_cat3 op_cat)) (pv 6) pe_int)) po_none)) pa_nil)))
      (pss_one (ps_expr (pe_bm PySem.F.plainAttrs_list PySem.F.slot_list_append PySem.F.type_list_append mt_append (pv 5) (pa_cons (pe_op (op_alt op_add (op_alt op_cat3 op_cat)) (pe_op (op_alt op_add (op_alt op_cat3 op_cat)) (pe_slice (sl_any K rfl) (pv 4) po_none (po_some (pv 6))) (pe_tup (pa_cons (pe_call G_l_pick (hr.mono (by omega)) (by rfl) T.m_l_pick T.k_l_pick T.p_l_pick .nil pass0 (pa_cons (pv 2) (pa_consC pe_int pa_nil))) pa_nil))) (pe_slice (sl_any K rfl) (pv 4) (po_some (pv 6)) po_none)) pa_nil)))))))
      (pss_cons (ps_expr (pe_bm PySem.F.plainAttrs_list PySem.F.slot_list_append PySem.F.type_list_append mt_append (pv 5) (pa_cons (pe_call G_l_odd (hr.mono (by omega)) (by rfl) T.m_l_odd T.k_l_odd T.p_l_odd .nil pass0 (pa_cons (pv 2) pa_nil)) pa_nil)))
      (pss_cons (ps_expr (pe_bm PySem.F.plainAttrs_list PySem.F.slot_list_append PySem.F.type_list_append mt_append (pv 5) (pa_cons (pe_call G_l_nested (hr.mono (by omega)) (by rfl) T.m_l_nested T.k_l_nested T.p_l_nested .nil pass0 (pa_cons (pv 2) (pa_cons (pe_call G_l_pick (hr.mono (by omega)) (by rfl) T.m_l_pick T.k_l_pick T.p_l_pick .nil pass0 (pa_cons (pv 2) (pa_consC pe_int pa_nil))) pa_nil))) pa_nil)))
      (pss_one (ps_for PassesOwn.never rfl (pi_seq K rfl (pv 5)) (pg_name (i := 8) sc_law.nd rfl (Or.inl rfl)) (pss_one (ps_if (PW.pt (pw_or (pt_not (pt_truthK K rfl (pe_call G_l_same (hr.mono (by omega)) (by rfl) T.m_l_same T.k_l_same T.p_l_same .nil pass0 (pa_cons (pv 3) (pa_cons (pv 8) pa_nil))) (fun _ => rfl))) (pw_or1 (pt_not (pt_truthK K rfl (pe_call G_l_same (hr.mono (by omega)) (by rfl) T.m_l_same T.k_l_same T.p_l_same .nil pass0 (pa_cons (pe_op (op_alt op_add (op_alt op_cat3 op_cat)) pe_int (pe_op op_mod (pv 3) pe_int)) (pa_cons (pv 8) pa_nil))) (fun _ => rfl)))))) (pss_one (ps_ret pe_bl)) pss_nil))))))))))))
      (pss_one (ps_ret pe_bl))), (s_seq (s_for (i_rng1 (a_cons (e_cb c_F2 (a_cons e_int (a_cons (e_cb c_F2 (a_cons e_int (a_cons (e_cb c_lenS (a_cons e_var a_nil)) a_nil))) a_nil))) a_nil)) g_name (s_seq (s_asg (e_call (a_cons e_var (a_cons e_var a_nil))) g_name)
      (s_seq (s_asg (e_op o_add e_int (e_call (a_cons e_var (a_cons e_int a_nil)))) g_name)
      (s_seq (s_asg (e_cb c_tuple (a_cons (e_comp (i_rng1 (a_cons e_var a_nil)) g_name t_no (l_last (e_call (a_cons e_var (a_cons e_int a_nil))))) a_nil)) g_name)
      (s_seq (s_asg (e_lstO (a_cons e_var (a_cons (e_cb c_list (a_cons e_var a_nil)) (a_cons (e_join e_str (a_cons (e_comp (i_seq e_var) g_name t_no (l_last (e_cb c_strI (a_cons e_var a_nil)))) a_nil)) (a_cons (e_tup (a_cons e_var a_nil)) (a_cons (e_op o_add e_var e_var) (a_cons (e_tupRev (a_cons e_var a_nil)) a_nil))))))) g_name)
      (s_seq (s_for (i_rng1 (a_cons e_var a_nil)) g_name (s_seq (s_for (i_give (e_lstO (a_cons e_int (a_cons e_int (a_cons e_int (a_cons (e_un u_i e_int) (a_cons e_bl (a_cons e_bl (a_cons e_non (a_cons e_str (a_cons (e_tup (a_cons e_int a_nil)) (a_cons (e_op o_Ii e_int e_int) a_nil)))))))))))) g_name (s_drop (e_append e_var (a_cons (e_op o_addP (e_op o_addP (e_sl e_var n_none (n_some e_var)) (e_tupP (a_cons e_var a_nil))) (e_sl e_var (n_some (e_op o_add e_var e_int)) n_none)) a_nil))))
      (s_seq (s_drop (e_append e_var (a_cons (e_op o_add (e_sl e_var n_none (n_some e_var)) (e_sl e_var (n_some (e_op o_add e_var e_int)) n_none)) a_nil)))
      (s_drop (e_append e_var (a_cons (e_op o_add (e_op o_add (e_sl e_var n_none (n_some e_var)) (e_tup (a_cons (e_call (a_cons e_var (a_cons e_int a_nil))) a_nil))) (e_sl e_var (n_some e_var) n_none)) a_nil))))))
      (s_seq (s_drop (e_append e_var (a_cons (e_call (a_cons e_var a_nil)) a_nil)))
      (s_seq (s_drop (e_append e_var (a_cons (e_call (a_cons e_var (a_cons (e_call (a_cons e_var (a_cons e_int a_nil))) a_nil))) a_nil)))
      (s_for (i_give e_var) g_name (s_if (t_or (t_not (t_tru (e_call (a_cons e_var (a_cons e_var a_nil))))) (t_not (t_tru (e_call (a_cons (e_op o_add e_int (e_op o_Ii e_var e_int)) (a_cons e_var a_nil)))))) (s_ret e_bl) s_next))))))))))
      (s_ret e_bl)), fun xs ω Q h => ?_⟩)
  obtain ⟨a, ns, rfl, hl, rfl, k⟩ := h
  walk_at "s1"
  refine ⟨a, ns, rfl, ?_⟩
  generalize hM : (if (if (ns.length : Int) < 30 then (ns.length : Int) else 30) > 1 then (if (ns.length : Int) < 30 then (ns.length : Int) else 30) else 1) = M
  have hM1 : 1 ≤ M ∧ M ≤ 30 := by subst hM; split <;> (try split) <;> omega
  clear hM
  obtain ⟨m, rfl⟩ := Int.eq_ofNat_of_zero_le (by omega : 0 ≤ M)
  refine ⟨by omega, by omega, for_rng (fun i ρ ω' => ∃ v1 v2 v3 v4 v5 v6 v7 v8, ρ = [some (scrL K a ns), v1, v2, v3, v4, v5, v6, v7, v8]) ⟨_, _, _, _, _, _, _, _, rfl⟩ ?_ ?_⟩
  · rintro i ρ ω N hi ⟨v1, v2, v3, v4, v5, v6, v7, v8, rfl⟩ kN
    walk_at "s1"
    refine ⟨a, ns, _, rfl, by omega, fun p c hc hp0 => ?_⟩
    walk_at "s1"
    refine ⟨p, 5, 0, rfl, pnAt_put hc, by decide, by decide, by decide, fun r c hc r0 r1 => ⟨r, rfl, ?_⟩⟩
    obtain ⟨n, hn⟩ : ∃ n : Nat, 1 + r = (n : Int) := ⟨(1 + r).toNat, by omega⟩
    have hn1 : 1 ≤ n := by omega
    have hn5 : n ≤ 5 := by omega
    rw [hn, Om.put_put]
    clear hn r0 r1
    walk_at "s1"
    refine ⟨by omega, by omega, comp_sti (S := fun i ω' => ∃ c, Cn c (1 + i) ∧ ω' = ω.put p (penO c)) (enc := D.int) (R := fun b => b = 0 ∨ b = 1) ⟨_, hc, rfl⟩ (Nat.le_of_lt (small1000 (by simp [rngA]; omega))) ?_ ?_⟩
    · rintro j a1 hj ω1 ⟨c, hc, rfl⟩ Q1 h1
      have hj : j < n := by simpa [rngA] using hj
      walk_at "a1"
      refine ⟨p, 2, 1 + j, rfl, pnAt_put hc, by omega, by decide, by decide, fun r c hc r0 r1 => ?_⟩
      rw [Om.put_put]
      exact h1 r _ (by omega) ⟨_, hc, rfl⟩
    rintro bs ρ ω1 hbl hbs ⟨c, hc, rfl⟩
    have hbl : bs.length = n := by simpa [rngA] using hbl
    have hc : Cn c (1 + n) := by simpa [rngA] using hc
    refine ⟨_, und_map _, ?_⟩
    walk_at "s1"
    refine comp_ix (rs := (bs.map fun b => Str.ofString (toString b)).map D.str) (by simp) (Nat.le_of_lt (small1000 (by simp; omega))) (fun j a1 r ha hr' Q q => ?_) (fun ρ => ⟨_, und_map _, _, rfl, ?_⟩)
    · simp only [List.getElem?_map, Option.map_eq_some_iff] at hr' ha
      obtain ⟨_, ⟨b, h1, rfl⟩, rfl⟩ := hr'
      obtain ⟨_, ⟨b', h2, rfl⟩, rfl⟩ := ha
      rw [h1] at h2
      cases h2
      walk_at "a1"
      refine ⟨?_, q⟩
      rcases hbs b (List.mem_of_getElem? h1) with rfl | rfl <;> decide
    have hj : JoinOk (Str.ofString "") (bs.map fun b => Str.ofString (toString b)) = true := joinOk_of 5 (fun y hy => by
      obtain ⟨b, hb, rfl⟩ := List.mem_map.mp hy
      rcases hbs b hb with rfl | rfl <;> decide) (by rw [List.length_map]; omega)
    refine ⟨hj, Nat.le_of_lt (small1000 (by omega)), _, rfl, _, rfl, by rw [List.length_map]; omega, by rw [List.length_map]; omega, fun l hl => ?_⟩
    walk_at "s1"
    have nlp := (put_free hl).1
    generalize hY : [AV.d (D.tup (bs.map D.int)), AV.d (D.lst (bs.map D.int)), AV.d (D.str (Str.join (Str.ofString "") (bs.map fun b => Str.ofString (toString b)))), AV.d (D.tup [D.tup (bs.map D.int)]), AV.d (D.tup (bs.map D.int ++ bs.map D.int)), AV.d (D.tup (bs.map D.int).reverse)] = ys0
    refine ⟨by omega, by omega, for_rng (fun j ρ ω' => ∃ (ys : List AV) (v6 v7 : Option AV), ω' l = some (.own ys) ∧ Odds1 ys ∧ ys.length ≤ 6 + 12 * j ∧ PnAt ω' p (1 + n + j) ∧ ρ = [some (scrL K a ns), some (AV.d (D.int (0 + ↑i))), some (AV.r (V.ref p)), some (AV.d (D.int ↑n)), some (AV.d (D.tup (List.map D.int bs))), some (AV.r (V.ref l)), v6, v7, v8]) ⟨ys0, _, _, Om.put_same, ?_, ?_, (pnAt_put hc).other (Ne.symm nlp), rfl⟩ ?_ ?_⟩
    · subst hY
      intro z hz
      simp only [List.mem_cons, List.not_mem_nil, or_false] at hz
      rcases hz with rfl | rfl | rfl | rfl | rfl | rfl <;> exact ⟨_, isO_d⟩
    · subst hY
      exact Nat.le_refl _
    · rintro j ρ ω1 N2 hj ⟨ys, v6, v7, hl1, hO, hlen, hp1, rfl⟩ kN2
      have hj : j < n := by omega
      have lc : ∀ u v, (cutL (bs.map D.int) u v).length ≤ n := fun u v => by
        have := (cutL_sub (bs.map D.int) u v).length_le
        rw [List.length_map, hbl] at this
        exact this
      have l1 := lc none (some (0 + (j : Int)))
      have l2 := lc (some (0 + (j : Int) + 1)) none
      have l3 := lc (some (0 + (j : Int))) none
      walk_at "s1"
      unfold aiGive
      walk_at "a1"
      refine ⟨⟨by decide, by decide, by decide⟩, fun q hq => ?_⟩
      rw [Om.del_put hq]
      refine for_ix (fun u ρ ω' => ∃ (ys : List AV) (v7 : Option AV), ω' l = some (.own ys) ∧ Odds1 ys ∧ ys.length ≤ 6 + 12 * j + u ∧ PnAt ω' p (1 + n + j) ∧ ρ = [some (scrL K a ns), some (AV.d (D.int (0 + ↑i))), some (AV.r (V.ref p)), some (AV.d (D.int ↑n)), some (AV.d (D.tup (List.map D.int bs))), some (AV.r (V.ref l)), some (AV.d (D.int (0 + ↑j))), v7, v8]) ⟨ys, _, hl1, hO, by omega, hp1, rfl⟩ ?_ ?_
      · rintro u e ρ ω2 N3 he ⟨ys, v7, hl2, hO, hlen, hp2, rfl⟩ kN3
        have hu : u < 10 := by have := (List.getElem?_eq_some_iff.mp he).1; simpa using this
        obtain ⟨oe, hoe⟩ : ∃ o, isO e o := by
          have hm := List.mem_of_getElem? he
          simp only [List.mem_cons, List.not_mem_nil, or_false] at hm
          rcases hm with rfl | rfl | rfl | rfl | rfl | rfl | rfl | rfl | rfl | rfl <;> exact ⟨_, isO_d⟩
        walk_at "a1"
        refine ⟨⟨_, hl2⟩, ?_⟩
        refine ⟨e, rfl, Nat.le_of_lt (small1000 (by simp)), [oe], ⟨oe, [], rfl, hoe, rfl⟩, fun v => ?_⟩
        refine ⟨_, .tup [oe], (cutL (bs.map D.int) none (some (0 + (j : Int)))).map O.d, [oe], isO_d, isO_oA, rfl, rfl, Nat.le_of_lt (small1000 (by simp only [List.length_append, List.length_map, List.length_cons, List.length_nil]; omega)), fun v2 => ?_⟩
        refine ⟨_, _, _, (cutL (bs.map D.int) (some (0 + (j : Int) + 1)) none).map O.d, isO_oA, isO_d, rfl, rfl, Nat.le_of_lt (small1000 (by simp only [List.length_append, List.length_map, List.length_cons, List.length_nil]; omega)), fun v3 => ?_⟩
        refine ⟨ys, hl2, small1000 (by omega), kN3 _ _ ⟨_, _, Om.put_same, odds_more hO isO_oA, by simp; omega, hp2.other (Ne.symm nlp), rfl⟩⟩
      · rintro ρ ω2 ⟨ys, v7, hl2, hO, hlen, hp2, rfl⟩
        have hlen : ys.length ≤ 6 + 12 * j + 10 := hlen
        dsimp only
        walk_at "s1"
        refine ⟨⟨_, hl2⟩, Nat.le_of_lt (small1000 (by omega)), ys, hl2, small1000 (by omega), ?_⟩
        refine ⟨p, 2, _, rfl, hp2.other (Ne.symm nlp), by omega, by decide, by decide, fun r c hc r0 r1 => ⟨_, rfl, Nat.le_of_lt (small1000 (by simp only [List.length_append, List.length_map, List.length_cons, List.length_nil]; omega)), Nat.le_of_lt (small1000 (by simp only [List.length_append, List.length_map, List.length_cons, List.length_nil]; omega)), ?_⟩⟩
        refine ⟨_, by rw [Om.put_ne nlp]; exact Om.put_same, small1000 (by simp only [List.length_append, List.length_map, List.length_cons, List.length_nil]; omega), kN2 _ _ ⟨_, _, _, Om.put_same, odds_more (odds_more hO isO_d) isO_d, by simp; omega, (pnAt_put hc).other (Ne.symm nlp), rfl⟩⟩
    · rintro ρ ω1 ⟨ys, v6, v7, hl1, hO, hlen, hp1, rfl⟩
      walk_at "s1"
      refine ⟨⟨_, hl1⟩, p, _, rfl, hp1, by omega, fun x o c hx hc => ?_⟩
      refine ⟨ys, by rw [Om.put_ne nlp]; exact hl1, small1000 (by omega), ?_⟩
      have hp2 : PnAt ((ω1.put p (penO c)).put l (OC.own (ys ++ [x]))) p (1 + n + n + 1) := (pnAt_put hc).other (Ne.symm nlp)
      have hO2 : Odds1 (ys ++ [x]) := odds_more hO hx
      have hl2 : ((ω1.put p (penO c)).put l (OC.own (ys ++ [x]))) l = some (.own (ys ++ [x])) := Om.put_same
      have hle : (ys ++ [x]).length ≤ 100 := by simp; omega
      revert hp2 hO2 hl2 hle
      generalize ys ++ [x] = ys2
      generalize (ω1.put p (penO c)).put l (OC.own ys2) = ω2
      intro hp2 hO2 hl2 hle
      walk_at "s1"
      refine ⟨⟨_, hl2⟩, p, 28, _, rfl, hp2, by omega, by decide, by decide, fun r c hc r0 r1 => ?_⟩
      obtain ⟨g, rfl⟩ := Int.eq_ofNat_of_zero_le r0
      refine ⟨p, _, g, rfl, pnAt_put hc, by omega, by omega, fun x o c hx hc => ?_⟩
      rw [Om.put_put]
      refine ⟨ys2, by rw [Om.put_ne nlp]; exact hl2, small1000 (by omega), ?_⟩
      refine ⟨_, rfl, l, _, rfl, Om.put_same, ?_⟩
      refine for_ix (fun j ρ ω' => ∃ v8, ρ = [some (scrL K a ns), some (AV.d (D.int (0 + (i : Nat)))), some (AV.r (V.ref p)), some (AV.d (D.int n)), some (AV.d (D.tup (List.map D.int bs))), some (AV.r (V.ref l)), v6, v7, v8]) ⟨_, rfl⟩ ?_ ?_
      · rintro j e ρ ω4 N2 he ⟨v8, rfl⟩ kN2
        obtain ⟨o, ho⟩ := odds_more hO2 hx e (List.mem_of_getElem? he)
        walk_at "a1"
        refine ⟨n, e, o, rfl, ho, hn1, hn5, true, rfl, ?_⟩
        rw [if_neg (by decide)]
        obtain ⟨n2, hn2⟩ : ∃ n2 : Nat, 1 + (n : Int) % 5 = (n2 : Int) := ⟨(1 + (n : Int) % 5).toNat, by omega⟩
        rw [hn2]
        refine ⟨n2, e, o, rfl, ho, by omega, by omega, true, rfl, ?_⟩
        rw [if_neg (by decide)]
        exact kN2 _ _ ⟨_, rfl⟩
      · rintro ρ ω4 ⟨v8, rfl⟩
        exact kN _ _ ⟨_, _, _, _, _, _, _, _, rfl⟩
  · rintro ρ ω' ⟨v1, v2, v3, v4, v5, v6, v7, v8, rfl⟩
    walk_at "a1"
    exact k _
end
theorem txt_mk {K : PySem.W.Frag} {h : Heap} {mg : Str → Option Value} (X : K.In h) (G : h.Ns mainGlobals mg)
    {a_is_whole : Addr} {od_is_whole an_is_whole : Option Addr} {sl_is_whole : Array (Option Value)} {oc_is_whole kV_is_whole dc_is_whole pm_is_whole cd_is_whole ct_is_whole : Value}
    {a_is_bit : Addr} {od_is_bit an_is_bit : Option Addr} {sl_is_bit : Array (Option Value)} {oc_is_bit kV_is_bit dc_is_bit pm_is_bit cd_is_bit ct_is_bit : Value}
    {a_are_places : Addr} {od_are_places an_are_places : Option Addr} {sl_are_places : Array (Option Value)} {oc_are_places kV_are_places dc_are_places pm_are_places cd_are_places ct_are_places : Value}
    {a_is_word : Addr} {od_is_word an_is_word : Option Addr} {sl_is_word : Array (Option Value)} {oc_is_word kV_is_word dc_is_word pm_is_word cd_is_word ct_is_word : Value}
    {a_l_pen : Addr} {od_l_pen an_l_pen : Option Addr} {sl_l_pen : Array (Option Value)} {oc_l_pen kV_l_pen dc_l_pen pm_l_pen cd_l_pen ct_l_pen : Value}
    {a_l_pick : Addr} {od_l_pick an_l_pick : Option Addr} {sl_l_pick : Array (Option Value)} {oc_l_pick kV_l_pick dc_l_pick pm_l_pick cd_l_pick ct_l_pick : Value}
    {a_l_odd : Addr} {od_l_odd an_l_odd : Option Addr} {sl_l_odd : Array (Option Value)} {oc_l_odd kV_l_odd dc_l_odd pm_l_odd cd_l_odd ct_l_odd : Value}
    {a_l_due : Addr} {od_l_due an_l_due : Option Addr} {sl_l_due : Array (Option Value)} {oc_l_due kV_l_due dc_l_due pm_l_due cd_l_due ct_l_due : Value}
    {a_l_nested : Addr} {od_l_nested an_l_nested : Option Addr} {sl_l_nested : Array (Option Value)} {oc_l_nested kV_l_nested dc_l_nested pm_l_nested cd_l_nested ct_l_nested : Value}
    {a_l_same : Addr} {od_l_same an_l_same : Option Addr} {sl_l_same : Array (Option Value)} {oc_l_same kV_l_same dc_l_same pm_l_same cd_l_same ct_l_same : Value}
    {a_law : Addr} {od_law an_law : Option Addr} {sl_law : Array (Option Value)} {oc_law kV_law dc_law pm_law cd_law ct_law : Value}
    {k_MOST_PLACES : Tok}
    (g_is_whole : PySem.W.nsIn K mainGlobals "is_whole" = some (some (.ref a_is_whole))) (l_is_whole : K.lookup a_is_whole = some ⟨oc_is_whole, od_is_whole, .func (PySem.W.fnOf "is_whole" "is_whole" (defArgs s_is_whole) (defBody s_is_whole) (defScope s_is_whole) .none kV_is_whole dc_is_whole pm_is_whole an_is_whole cd_is_whole ct_is_whole), sl_is_whole⟩) (c_is_whole : PySem.W.codeIn K cd_is_whole "is_whole" = true) (e_is_whole : PySem.W.keepIn K (.ref a_is_whole) = true)
    (g_is_bit : PySem.W.nsIn K mainGlobals "is_bit" = some (some (.ref a_is_bit))) (l_is_bit : K.lookup a_is_bit = some ⟨oc_is_bit, od_is_bit, .func (PySem.W.fnOf "is_bit" "is_bit" (defArgs s_is_bit) (defBody s_is_bit) (defScope s_is_bit) .none kV_is_bit dc_is_bit pm_is_bit an_is_bit cd_is_bit ct_is_bit), sl_is_bit⟩) (c_is_bit : PySem.W.codeIn K cd_is_bit "is_bit" = true) (e_is_bit : PySem.W.keepIn K (.ref a_is_bit) = true)
    (g_are_places : PySem.W.nsIn K mainGlobals "are_places" = some (some (.ref a_are_places))) (l_are_places : K.lookup a_are_places = some ⟨oc_are_places, od_are_places, .func (PySem.W.fnOf "are_places" "are_places" (defArgs s_are_places) (defBody s_are_places) (defScope s_are_places) .none kV_are_places dc_are_places pm_are_places an_are_places cd_are_places ct_are_places), sl_are_places⟩) (c_are_places : PySem.W.codeIn K cd_are_places "are_places" = true) (e_are_places : PySem.W.keepIn K (.ref a_are_places) = true)
    (g_is_word : PySem.W.nsIn K mainGlobals "is_word" = some (some (.ref a_is_word))) (l_is_word : K.lookup a_is_word = some ⟨oc_is_word, od_is_word, .func (PySem.W.fnOf "is_word" "is_word" (defArgs s_is_word) (defBody s_is_word) (defScope s_is_word) .none kV_is_word dc_is_word pm_is_word an_is_word cd_is_word ct_is_word), sl_is_word⟩) (c_is_word : PySem.W.codeIn K cd_is_word "is_word" = true) (e_is_word : PySem.W.keepIn K (.ref a_is_word) = true)
    (g_l_pen : PySem.W.nsIn K mainGlobals "_law_pen" = some (some (.ref a_l_pen))) (l_l_pen : K.lookup a_l_pen = some ⟨oc_l_pen, od_l_pen, .func (PySem.W.fnOf "_law_pen" "_law_pen" (defArgs s_l_pen) (defBody s_l_pen) (defScope s_l_pen) .none kV_l_pen dc_l_pen pm_l_pen an_l_pen cd_l_pen ct_l_pen), sl_l_pen⟩) (c_l_pen : PySem.W.codeIn K cd_l_pen "_law_pen" = true) (e_l_pen : PySem.W.keepIn K (.ref a_l_pen) = true)
    (g_l_pick : PySem.W.nsIn K mainGlobals "_law_pick" = some (some (.ref a_l_pick))) (l_l_pick : K.lookup a_l_pick = some ⟨oc_l_pick, od_l_pick, .func (PySem.W.fnOf "_law_pick" "_law_pick" (defArgs s_l_pick) (defBody s_l_pick) (defScope s_l_pick) .none kV_l_pick dc_l_pick pm_l_pick an_l_pick cd_l_pick ct_l_pick), sl_l_pick⟩) (c_l_pick : PySem.W.codeIn K cd_l_pick "_law_pick" = true) (e_l_pick : PySem.W.keepIn K (.ref a_l_pick) = true)
    (g_l_odd : PySem.W.nsIn K mainGlobals "_law_odd" = some (some (.ref a_l_odd))) (l_l_odd : K.lookup a_l_odd = some ⟨oc_l_odd, od_l_odd, .func (PySem.W.fnOf "_law_odd" "_law_odd" (defArgs s_l_odd) (defBody s_l_odd) (defScope s_l_odd) .none kV_l_odd dc_l_odd pm_l_odd an_l_odd cd_l_odd ct_l_odd), sl_l_odd⟩) (c_l_odd : PySem.W.codeIn K cd_l_odd "_law_odd" = true) (e_l_odd : PySem.W.keepIn K (.ref a_l_odd) = true)
    (g_l_due : PySem.W.nsIn K mainGlobals "_law_due" = some (some (.ref a_l_due))) (l_l_due : K.lookup a_l_due = some ⟨oc_l_due, od_l_due, .func (PySem.W.fnOf "_law_due" "_law_due" (defArgs s_l_due) (defBody s_l_due) (defScope s_l_due) .none kV_l_due dc_l_due pm_l_due an_l_due cd_l_due ct_l_due), sl_l_due⟩) (c_l_due : PySem.W.codeIn K cd_l_due "_law_due" = true) (e_l_due : PySem.W.keepIn K (.ref a_l_due) = true)
    (g_l_nested : PySem.W.nsIn K mainGlobals "_law_nested" = some (some (.ref a_l_nested))) (l_l_nested : K.lookup a_l_nested = some ⟨oc_l_nested, od_l_nested, .func (PySem.W.fnOf "_law_nested" "_law_nested" (defArgs s_l_nested) (defBody s_l_nested) (defScope s_l_nested) .none kV_l_nested dc_l_nested pm_l_nested an_l_nested cd_l_nested ct_l_nested), sl_l_nested⟩) (c_l_nested : PySem.W.codeIn K cd_l_nested "_law_nested" = true) (e_l_nested : PySem.W.keepIn K (.ref a_l_nested) = true)
    (g_l_same : PySem.W.nsIn K mainGlobals "_law_same" = some (some (.ref a_l_same))) (l_l_same : K.lookup a_l_same = some ⟨oc_l_same, od_l_same, .func (PySem.W.fnOf "_law_same" "_law_same" (defArgs s_l_same) (defBody s_l_same) (defScope s_l_same) .none kV_l_same dc_l_same pm_l_same an_l_same cd_l_same ct_l_same), sl_l_same⟩) (c_l_same : PySem.W.codeIn K cd_l_same "_law_same" = true) (e_l_same : PySem.W.keepIn K (.ref a_l_same) = true)
    (g_law : PySem.W.nsIn K mainGlobals "law" = some (some (.ref a_law))) (l_law : K.lookup a_law = some ⟨oc_law, od_law, .func (PySem.W.fnOf "law" "law" (defArgs s_law) (defBody s_law) (defScope s_law) .none kV_law dc_law pm_law an_law cd_law ct_law), sl_law⟩) (c_law : PySem.W.codeIn K cd_law "law" = true) (e_law : PySem.W.keepIn K (.ref a_law) = true)
    (g_MOST_PLACES : PySem.W.nsIn K mainGlobals "MOST_PLACES" = some (some (.int 5 k_MOST_PLACES)))
    (z_abs : PySem.W.nsIn K mainGlobals "abs" = some none)
    (z_all : PySem.W.nsIn K mainGlobals "all" = some none)
    (z_bool : PySem.W.nsIn K mainGlobals "bool" = some none)
    (z_int : PySem.W.nsIn K mainGlobals "int" = some none)
    (z_isinstance : PySem.W.nsIn K mainGlobals "isinstance" = some none)
    (z_len : PySem.W.nsIn K mainGlobals "len" = some none)
    (z_list : PySem.W.nsIn K mainGlobals "list" = some none)
    (z_max : PySem.W.nsIn K mainGlobals "max" = some none)
    (z_min : PySem.W.nsIn K mainGlobals "min" = some none)
    (z_range : PySem.W.nsIn K mainGlobals "range" = some none)
    (z_reversed : PySem.W.nsIn K mainGlobals "reversed" = some none)
    (z_str : PySem.W.nsIn K mainGlobals "str" = some none)
    (z_tuple : PySem.W.nsIn K mainGlobals "tuple" = some none) : ∃ t, Txt K mg t := by
  have F_is_whole := fun_mk (st := s_is_whole) l_is_whole c_is_whole e_is_whole
  have F_is_bit := fun_mk (st := s_is_bit) l_is_bit c_is_bit e_is_bit
  have F_are_places := fun_mk (st := s_are_places) l_are_places c_are_places e_are_places
  have F_is_word := fun_mk (st := s_is_word) l_is_word c_is_word e_is_word
  have F_l_pen := fun_mk (st := s_l_pen) l_l_pen c_l_pen e_l_pen
  have F_l_pick := fun_mk (st := s_l_pick) l_l_pick c_l_pick e_l_pick
  have F_l_odd := fun_mk (st := s_l_odd) l_l_odd c_l_odd e_l_odd
  have F_l_due := fun_mk (st := s_l_due) l_l_due c_l_due e_l_due
  have F_l_nested := fun_mk (st := s_l_nested) l_l_nested c_l_nested e_l_nested
  have F_l_same := fun_mk (st := s_l_same) l_l_same c_l_same e_l_same
  have F_law := fun_mk (st := s_law) l_law c_law e_law
  exact ⟨⟨a_is_whole, _, a_is_bit, _, a_are_places, _, a_is_word, _, a_l_pen, _, a_l_pick, _, a_l_odd, _, a_l_due, _, a_l_nested, _, a_l_same, _, a_law, _, k_MOST_PLACES⟩, ⟨PySem.W.mg_of X G g_is_whole, F_is_whole, e_is_whole, F_is_whole.binds (ps := ["thing"]) fun _ _ _ _ _ _ us hl => match us, hl with | [_], _ => rfl,
    PySem.W.mg_of X G g_is_bit, F_is_bit, e_is_bit, F_is_bit.binds (ps := ["thing"]) fun _ _ _ _ _ _ us hl => match us, hl with | [_], _ => rfl,
    PySem.W.mg_of X G g_are_places, F_are_places, e_are_places, F_are_places.binds (ps := ["thing"]) fun _ _ _ _ _ _ us hl => match us, hl with | [_], _ => rfl,
    PySem.W.mg_of X G g_is_word, F_is_word, e_is_word, F_is_word.binds (ps := ["places", "thing"]) fun _ _ _ _ _ _ us hl => match us, hl with | [_, _], _ => rfl,
    PySem.W.mg_of X G g_l_pen, F_l_pen, e_l_pen, F_l_pen.binds (ps := ["_law_script", "_law_at"]) fun _ _ _ _ _ _ us hl => match us, hl with | [_, _], _ => rfl,
    PySem.W.mg_of X G g_l_pick, F_l_pick, e_l_pick, F_l_pick.binds (ps := ["_law_pen_here", "_law_many"]) fun _ _ _ _ _ _ us hl => match us, hl with | [_, _], _ => rfl,
    PySem.W.mg_of X G g_l_odd, F_l_odd, e_l_odd, F_l_odd.binds (ps := ["_law_pen_here"]) fun _ _ _ _ _ _ us hl => match us, hl with | [_], _ => rfl,
    PySem.W.mg_of X G g_l_due, F_l_due, e_l_due, F_l_due.binds (ps := ["_law_places", "_law_thing"]) fun _ _ _ _ _ _ us hl => match us, hl with | [_, _], _ => rfl,
    PySem.W.mg_of X G g_l_nested, F_l_nested, e_l_nested, F_l_nested.binds (ps := ["_law_pen_here", "_law_far"]) fun _ _ _ _ _ _ us hl => match us, hl with | [_, _], _ => rfl,
    PySem.W.mg_of X G g_l_same, F_l_same, e_l_same, F_l_same.binds (ps := ["_law_places", "_law_thing"]) fun _ _ _ _ _ _ us hl => match us, hl with | [_, _], _ => rfl,
    PySem.W.mg_of X G g_law, F_law, e_law, F_law.binds (ps := ["_law_script"]) fun _ _ _ _ _ _ us hl => match us, hl with | [_], _ => rfl,
    fun s v => .of_eq rfl,
    PySem.W.mg_none_of X G z_abs,
    PySem.W.mg_none_of X G z_all,
    PySem.W.mg_none_of X G z_bool,
    PySem.W.mg_none_of X G z_int,
    PySem.W.mg_none_of X G z_isinstance,
    PySem.W.mg_none_of X G z_len,
    PySem.W.mg_none_of X G z_list,
    PySem.W.mg_none_of X G z_max,
    PySem.W.mg_none_of X G z_min,
    PySem.W.mg_none_of X G z_range,
    PySem.W.mg_none_of X G z_reversed,
    PySem.W.mg_none_of X G z_str,
    PySem.W.mg_none_of X G z_tuple,
    PySem.W.mg_of X G g_MOST_PLACES⟩⟩
end My
open PySem PySem.W PyProof.Rows
set_option maxRecDepth 100000 in
set_option maxHeartbeats 0 in
theorem PySem.Challenge.cw_unlikeplace_k01_words_known_holds : PySem.Challenge.rw_unlikeplace_k01_words_known.Holds := by
  w_on; o_law; k_head; (case hw => w_witness2)
  k_fill
  refine L2.walk_ofT (l := PySem.Challenge.rw_unlikeplace_k01_words_known) (n := 63) (k := 30) (x := "_law_script") (CX := L2.CX0) (sp := My.sp_law) rfl (by decide) rfl ⟨rfl, by decide, by decide, rfl⟩ (fun w h Y => by first | exact PySem.W.kIn_of Y | exact PySem.W.km_in_of Y) (fun w => by kernel_rfl) ?F ?S ?C
  case F =>
    intro w mg fa h KX G hmg
    have T : ∃ t, My.Txt (L2.KOf KX) mg t := by
      dsimp only [L2.KOf]
      refine' My.txt_mk KX G ?g_is_whole ?l_is_whole ?c_is_whole ?e_is_whole ?g_is_bit ?l_is_bit ?c_is_bit ?e_is_bit ?g_are_places ?l_are_places ?c_are_places ?e_are_places ?g_is_word ?l_is_word ?c_is_word ?e_is_word ?g_l_pen ?l_l_pen ?c_l_pen ?e_l_pen ?g_l_pick ?l_l_pick ?c_l_pick ?e_l_pick ?g_l_odd ?l_l_odd ?c_l_odd ?e_l_odd ?g_l_due ?l_l_due ?c_l_due ?e_l_due ?g_l_nested ?l_l_nested ?c_l_nested ?e_l_nested ?g_l_same ?l_l_same ?c_l_same ?e_l_same ?g_law ?l_law ?c_law ?e_law ?g_MOST_PLACES ?z_abs ?z_all ?z_bool ?z_int ?z_isinstance ?z_len ?z_list ?z_max ?z_min ?z_range ?z_reversed ?z_str ?z_tuple
      (case g_is_whole => k_is)
      (case l_is_whole => k_is)
      (case c_is_whole => k_is)
      (case e_is_whole => k_is)
      (case g_is_bit => k_is)
      (case l_is_bit => k_is)
      (case c_is_bit => k_is)
      (case e_is_bit => k_is)
      (case g_are_places => k_is)
      (case l_are_places => k_is)
      (case c_are_places => k_is)
      (case e_are_places => k_is)
      (case g_is_word => k_is)
      (case l_is_word => k_is)
      (case c_is_word => k_is)
      (case e_is_word => k_is)
      (case g_l_pen => k_is)
      (case l_l_pen => k_is)
      (case c_l_pen => k_is)
      (case e_l_pen => k_is)
      (case g_l_pick => k_is)
      (case l_l_pick => k_is)
      (case c_l_pick => k_is)
      (case e_l_pick => k_is)
      (case g_l_odd => k_is)
      (case l_l_odd => k_is)
      (case c_l_odd => k_is)
      (case e_l_odd => k_is)
      (case g_l_due => k_is)
      (case l_l_due => k_is)
      (case c_l_due => k_is)
      (case e_l_due => k_is)
      (case g_l_nested => k_is)
      (case l_l_nested => k_is)
      (case c_l_nested => k_is)
      (case e_l_nested => k_is)
      (case g_l_same => k_is)
      (case l_l_same => k_is)
      (case c_l_same => k_is)
      (case e_l_same => k_is)
      (case g_law => k_is)
      (case l_law => k_is)
      (case c_law => k_is)
      (case e_law => k_is)
      (case g_MOST_PLACES => k_is)
      (case z_abs => k_is)
      (case z_all => k_is)
      (case z_bool => k_is)
      (case z_int => k_is)
      (case z_isinstance => k_is)
      (case z_len => k_is)
      (case z_list => k_is)
      (case z_max => k_is)
      (case z_min => k_is)
      (case z_range => k_is)
      (case z_reversed => k_is)
      (case z_str => k_is)
      (case z_tuple => k_is)
    obtain ⟨t, T⟩ := T
    have e0 := hmg.symm.trans T.m_law
    cases e0
    exact ⟨_, T.bl_law, fun base => My.ok_law T⟩
  case S => exact fun K H a ns hl hO hS => My.start_law hl hO hS
  case C => exact fun _ _ _ _ h => h
