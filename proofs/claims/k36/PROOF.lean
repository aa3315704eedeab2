import PyProof.Rows.All
import Wide.All
import OpenK.AllK
import Wide.FinOn
import Lean
import PyProof.EqAt
import PyProof.EqKinds
import PyProof.TupleCall
import PyProof.NeKinds
import PyProof.AutoIntG2
import PyProof.FactsAll.int_6
import PyProof.Rows.BootFacts.P1
import PyProof.ReprRoads
import PyProof.ListRange
import PyProof.TupleOfSeq
import PyProof.EnumMake
import PyProof.StrWalks
import PyProof.Rows.Range3
import PyProof.Rows.SetFrom
import KE.KIntText
import PyProof.FString
import PyProof.StrCalls2
import PyProof.StrOps2
import PyProof.SliceStr2
import PyProof.StrBlockI
import PyProof.StrBlockL
import PyProof.StrLaws
import OpenK.KOwn
import KE.KTryMore
import PyProof.ExcAttrAll.ValueError
import PyProof.NsDelKeeps
import PyProof.Rows.StrLen
import KE.KRevIter
import PySem.Challenge.RW_unlikeplace_k36_partings
set_option Elab.async false
set_option linter.all false
set_option maxRecDepth 100000
namespace L2
open PySem PySem.Spec PyProof.Rows
abbrev Key := Sum Int Str
def keyIs : Key → Value → Bool
  | .inl k, v => Value.isInt k v
  | .inr x, v => Value.isStrOf x v
def keyH (w : World) : Key → Int
  | .inl k => hashInt k
  | .inr x => hashStr w x
theorem keyIs_shape : ∀ {k : Key} {v : Value}, keyIs k v = true → (∃ i t, k = Sum.inl i ∧ v = Value.int i t) ∨ (∃ x t, k = Sum.inr x ∧ v = Value.str x t)
  | .inl i, v, h => by
    obtain ⟨t, e⟩ := Value.isInt_shape (k := i) (v := v) h
    exact .inl ⟨i, t, rfl, e⟩
  | .inr x, v, h => by
    obtain ⟨t, e⟩ := Value.isStrOf_shape (x := x) (v := v) h
    exact .inr ⟨x, t, rfl, e⟩
theorem key_ll (a b : Int) : decide ((Sum.inl a : Key) = Sum.inl b) = (a == b) := by
  by_cases e : a = b
  · subst e; simp
  · have h : ¬ (Sum.inl a : Key) = Sum.inl b := fun q => e (Sum.inl.inj q)
    rw [decide_eq_false h]
    exact (beq_eq_false_iff_ne.mpr e).symm
theorem key_rr (a b : Str) : decide ((Sum.inr a : Key) = Sum.inr b) = decide (a = b) := by
  by_cases e : a = b
  · subst e; simp
  · have h : ¬ (Sum.inr a : Key) = Sum.inr b := fun q => e (Sum.inr.inj q)
    rw [decide_eq_false h, decide_eq_false e]
theorem key_lr (a : Int) (b : Str) : decide ((Sum.inl a : Key) = Sum.inr b) = false := decide_eq_false (fun q => nomatch q)
theorem key_rl (a : Str) (b : Int) : decide ((Sum.inr a : Key) = Sum.inl b) = false := decide_eq_false (fun q => nomatch q)
def mixKind (prog : Program) (w : World) : PySem.KeyKind prog w Key where
  is := keyIs
  hash := keyH w
  inj := fun v a b ha hb => by
    rcases keyIs_shape ha with ⟨i, t, rfl, rfl⟩ | ⟨x, t, rfl, rfl⟩
    · rcases keyIs_shape hb with ⟨j, u, rfl, e⟩ | ⟨y, u, rfl, e⟩
      · injection e with e1 _; rw [e1]
      · exact nomatch e
    · rcases keyIs_shape hb with ⟨j, u, rfl, e⟩ | ⟨y, u, rfl, e⟩
      · exact nomatch e
      · injection e with e1 _; rw [e1]
  byValue := fun k v h => by
    rcases keyIs_shape h with ⟨i, t, rfl, rfl⟩ | ⟨x, t, rfl, rfl⟩ <;> rfl
  pyHash := fun hv h => by
    rcases keyIs_shape hv with ⟨i, t, rfl, rfl⟩ | ⟨x, t, rfl, rfl⟩
    · exact wpAny_pyHash_int h
    · exact wpAny_pyHash_str h
  eqBool := fun hu hv h => by
    rcases keyIs_shape hu with ⟨i, t, rfl, rfl⟩ | ⟨x, t, rfl, rfl⟩
    · rcases keyIs_shape hv with ⟨j, u, rfl, rfl⟩ | ⟨y, u, rfl, rfl⟩
      · rw [key_ll] at h; exact wpAny_eqBool_int h
      · rw [key_lr] at h; exact SeqAt.EqAt.int_str i t y u _ _ _ _ h
    · rcases keyIs_shape hv with ⟨j, u, rfl, rfl⟩ | ⟨y, u, rfl, rfl⟩
      · rw [key_rl] at h; exact SeqAt.EqAt.str_int x t j u _ _ _ _ h
      · rw [key_rr] at h; exact wpAny_eqBool_str h
  «strs» := fun k x t v h => by
    rcases keyIs_shape h with ⟨i, u, rfl, e⟩ | ⟨y, u, rfl, e⟩
    · exact nomatch e
    · injection e with e1 _
      subst e1
      cases v <;> rfl
end L2
namespace L2
open PySem PySem.Spec PyProof.Rows
inductive V where
  | non | bl (b : Bool) | int (i : Int) | str (x : Str) | byt (b : Array UInt8) | flt (b : UInt64) | ref (a : Addr) | ty (n : String)
  deriving DecidableEq
def RelV : V → Value → Prop
  | .non, u => u = Value.none
  | .bl b, u => u = Value.bool b
  | .int i, u => ∃ t, u = Value.int i t
  | .str x, u => ∃ t, u = Value.str x t
  | .byt b, u => ∃ t, u = Value.bytes b t
  | .flt b, u => ∃ t, u = Value.float b t
  | .ref a, u => u = Value.ref a
  | .ty n, u => u = Value.type n
abbrev Vals : List V → List Value → Prop := Paired RelV
theorem Vals.length {xs : List V} {us : List Value} (r : Vals xs us) : xs.length = us.length := Paired.length r
theorem Vals.get : ∀ {xs : List V} {us : List Value} {i : Nat} {x : V}, Vals xs us → xs[i]? = some x → ∃ u, us[i]? = some u ∧ RelV x u
  | _, _, _, _, .nil, e => by simp at e
  | _, _, 0, _, .cons r _, e => by simp at e; subst e; exact ⟨_, rfl, r⟩
  | _, _, i + 1, x, .cons _ t, e => by
    obtain ⟨u, h1, h2⟩ := Vals.get (i := i) (x := x) t (by simpa using e)
    exact ⟨u, by simpa using h1, h2⟩
theorem Vals.set {x : V} {u : Value} (r : RelV x u) : ∀ {xs : List V} {us : List Value} (i : Nat), Vals xs us → Vals (xs.set i x) (us.set i u)
  | _, _, _, .nil => .nil
  | _, _, 0, .cons _ t => .cons r t
  | _, _, i + 1, .cons q t => .cons q (Vals.set r i t)
theorem Vals.append : ∀ {xs ys : List V} {us ws : List Value}, Vals xs us → Vals ys ws → Vals (xs ++ ys) (us ++ ws)
  | _, _, _, _, .nil, s => s
  | _, _, _, _, .cons r t, s => .cons r (Vals.append t s)
theorem Vals.take : ∀ {xs : List V} {us : List Value} (n : Nat), Vals xs us → Vals (xs.take n) (us.take n)
  | _, _, 0, _ => .nil
  | _, _, _ + 1, .nil => .nil
  | _, _, n + 1, .cons r t => .cons r (Vals.take n t)
theorem Vals.drop : ∀ {xs : List V} {us : List Value} (n : Nat), Vals xs us → Vals (xs.drop n) (us.drop n)
  | _, _, 0, r => r
  | _, _, _ + 1, .nil => .nil
  | _, _, n + 1, .cons _ t => Vals.drop n t
def RelO : Option V → Option Value → Prop
  | some v, some u => RelV v u
  | none, none => True
  | _, _ => False
def KV {κ : Type} : List (κ × V) → List (κ × Value) → Prop := Paired fun (p : κ × V) (q : κ × Value) => p.1 = q.1 ∧ RelV p.2 q.2
def kV : Key → V
  | .inl i => .int i
  | .inr x => .str x
inductive HO where
  | lst (xs : List V)
  | tup (xs : List V)
  | dK (kvs : List (Key × V)) | dT (kvs : List (List Key × V))
  | set (S : Int → Bool) (n : Nat)
  | ins (C dx : Addr) (fs : List (Str × V))
  | own (x : Addr)
  | xd (fs : List (Str × V))
  | met (f x : Addr)
  | rng (lo hi : Int)
  | frz (o : Obj) (u : HO)
  | tbl (ps : Array Value)
  | ext (φ : Heap → Prop)
abbrev Hp := Addr → Option HO
def upd (H : Hp) (a : Addr) (o : HO) : Hp := fun b => if b = a then some o else H b
theorem upd_same {H : Hp} {a : Addr} {o : HO} : upd H a o a = some o := by unfold upd; rw [if_pos rfl]
theorem upd_ne {H : Hp} {a b : Addr} {o : HO} (h : b ≠ a) : upd H a o b = H b := by unfold upd; rw [if_neg h]
theorem ne_of_none {H : Hp} {a b : Addr} {o : HO} (h : H a = some o) (h' : H b = none) : a ≠ b := by
  intro e; subst e; rw [h] at h'; cases h'
def TupD (h : Heap) (a : Addr) (items : Array Value) : Prop := IsTup h a items ∧ ∃ o, h.get? a = some o ∧ o.dict = none
theorem TupD.lt {h : Heap} {a : Addr} {items : Array Value} (x : TupD h a items) : a < h.objs.size := x.1.lt
theorem TupD.new (h : Heap) (items : Array Value) : TupD (h.push { cls := .type "tuple", data := .seq items }) h.objs.size items := ⟨IsTup.new h items, _, Heap.get?_push_size _ rfl, rfl⟩
def TblOk (H : Hp) (a : Addr) (ps qs : Array Value) : Prop := TriplesOk qs.toList ∧ ∀ (pos : Pos) (cv : Value), codeAmong pos qs.toList = some cv →
  ∃ (c : Addr) (o : Obj) (vs : Array Value) (t : Tok) (q : Str), cv = .ref c ∧ H c = some (.frz o (.own a)) ∧ o.data = .fields vs ∧ vs[1]? = some (.str q t) ∧ ps[0]? = some (.str q 0)
theorem TblOk.mono {H H' : Hp} {a : Addr} {ps qs : Array Value} (x : TblOk H a ps qs) (k : ∀ b o u, H b = some (.frz o u) → H' b = some (.frz o u)) : TblOk H' a ps qs :=
  ⟨x.1, fun pos cv e => let ⟨c, o, vs, t, q, e1, e2, r⟩ := x.2 pos cv e; ⟨c, o, vs, t, q, e1, k _ _ _ e2, r⟩⟩
section
variable (P : Program) (w : World)
def ObjOk (H : Hp) (h : Heap) (a : Addr) : HO → Prop
  | .lst xs => xs.length ≤ sizeLine ∧ ∃ (its : List Value) (n : Nat), Vals xs its ∧ h.get? a = some { cls := .type "list", data := .seq its.toArray n }
  | .tup xs => xs.length ≤ sizeLine ∧ ∃ its : List Value, Vals xs its ∧ TupD h a its.toArray
  | .dK kvs => kvs.length ≤ sizeLine ∧ (a == sysModules) = false ∧ ∃ vs, KV kvs vs ∧ h.DictOf (mixKind P w) a vs
  | .dT kvs => kvs.length ≤ sizeLine ∧ (a == sysModules) = false ∧ ∃ xs : List (List Key × Addr × Value),
      Paired (fun (p : List Key × V) (q : List Key × Addr × Value) => p.1 = q.1 ∧ H q.2.1 = some (.tup (p.1.map kV)) ∧ RelV p.2 q.2.2) kvs xs ∧
      ∃ o es ep, h.get? a = some o ∧ o.ExactDict ∧ o.data = .dict es ep ∧ es.toList = xs.map (entryOfKey (tupleKind (mixKind P w))) ∧ (xs.map (·.1)).Nodup
  | .set S n => h.SetOf (intKind P w) a S n
  | .ins C dx fs => H dx = some (.own a) ∧ fs.length ≤ 1000 ∧ dx ≠ a ∧ h.get? a = some (PySem.W.instObj C dx) ∧
      ∃ mA, h.Ns1 dx mA ∧ (∀ f, RelO (fs.lookup f) (mA f)) ∧ PySem.Within mA (fs.map (·.1))
  | .own _ => ∃ o, h.get? a = some o
  | .xd fs => ∃ mA, h.Ns1 a mA ∧ ∀ f, RelO (fs.lookup f) (mA f)
  | .rng lo hi => ∃ t u v, h.get? a = some { cls := .type "range", data := .fields #[.int lo t, .int hi u, .int 1 v] }
  | .frz o u => h.get? a = some o ∧ ObjOk H h a u
  | .tbl ps => ∃ qs : Array Value, h.get? a = some { cls := .none, data := .fields qs } ∧ TblOk H a ps qs
  | .met f x => h.get? a = some (PySem.W.methodObj (.ref f) (.ref x))
  | .ext φ => φ h ∧ (∃ o, h.get? a = some o) ∧ ∀ h1 h2 : Heap, φ h1 → (∀ o, h1.get? a = some o → h2.get? a = some o) → φ h2
def HOk (H : Hp) (h : Heap) : Prop := ∀ a o, H a = some o → ObjOk P w H h a o
end
section
variable {P : Program} {w : World} {H H' : Hp} {h h' : Heap} {a : Addr} {o : HO}
theorem ObjOk.lt (x : ObjOk P w H h a o) : a < h.objs.size := by
  cases o with
  | lst xs => obtain ⟨_, _, _, _, e⟩ := x; exact Heap.lt_size e
  | tup xs => obtain ⟨_, _, _, p⟩ := x; exact p.lt
  | dK kvs => obtain ⟨_, _, _, _, o, _, _, e, _⟩ := x; exact Heap.lt_size e
  | dT kvs => obtain ⟨_, _, _, _, o, _, _, e, _⟩ := x; exact Heap.lt_size e
  | set S n => obtain ⟨o, _, _, _, e, _⟩ := x; exact Heap.lt_size e
  | ins C dx fs => obtain ⟨_, _, _, e, _⟩ := x; exact Heap.lt_size e
  | own y => obtain ⟨_, e⟩ := x; exact Heap.lt_size e
  | xd fs => obtain ⟨_, ⟨_, _, _, e, _⟩, _⟩ := x; exact Heap.lt_size e
  | rng lo hi => obtain ⟨_, _, _, e⟩ := x; exact Heap.lt_size e
  | frz ob u => obtain ⟨e, _⟩ := x; exact Heap.lt_size e
  | tbl ps => obtain ⟨qs, e, _⟩ := x; exact Heap.lt_size e
  | met f y => exact Heap.lt_size (show h.get? a = some _ from x)
  | ext φ => obtain ⟨_, ⟨_, e⟩, _⟩ := x; exact Heap.lt_size e
theorem Paired.mapP {α β : Type} {F G : α → β → Prop} : ∀ {l₁ : List α} {l₂ : List β}, Paired F l₁ l₂ → (∀ a b, F a b → G a b) → Paired G l₁ l₂
  | _, _, .nil, _ => .nil
  | _, _, .cons r t, f => .cons (f _ _ r) (Paired.mapP t f)
theorem ObjOk.stay (x : ObjOk P w H h a o) (k : ∀ b u, (b = a ∨ H b = some (.own a)) → h.get? b = some u → h'.get? b = some u)
    (ho : ∀ b, H b = some (.own a) → H' b = some (.own a)) (ht : ∀ b xs, H b = some (.tup xs) → H' b = some (.tup xs)) (hf : ∀ b o u, H b = some (.frz o u) → H' b = some (.frz o u)) : ObjOk P w H' h' a o := by
  induction o with
  | lst xs => obtain ⟨z, its, n, r, e⟩ := x; exact ⟨z, its, n, r, k _ _ (.inl rfl) e⟩
  | tup xs => obtain ⟨z, its, r, ⟨ob, e, c⟩, ob', e', c'⟩ := x; exact ⟨z, its, r, ⟨ob, k _ _ (.inl rfl) e, c⟩, ob', k _ _ (.inl rfl) e', c'⟩
  | dK kvs => obtain ⟨z, y, vs, r, ob, es, ep, e, c⟩ := x; exact ⟨z, y, vs, r, ob, es, ep, k _ _ (.inl rfl) e, c⟩
  | dT kvs =>
    obtain ⟨z, y, xs, r, ob, es, ep, e, c⟩ := x
    exact ⟨z, y, xs, Paired.mapP r fun p q z => ⟨z.1, ht _ _ z.2.1, z.2.2⟩, ob, es, ep, k _ _ (.inl rfl) e, c⟩
  | set S n => obtain ⟨ob, es, ep, t, e, c⟩ := x; exact ⟨ob, es, ep, t, k _ _ (.inl rfl) e, c⟩
  | ins C dx fs =>
    obtain ⟨d, z, ne, e, mA, ⟨od, es, ep, e2, c⟩, r⟩ := x
    exact ⟨ho _ d, z, ne, k _ _ (.inl rfl) e, mA, ⟨od, es, ep, k _ _ (.inr d) e2, c⟩, r⟩
  | own y => obtain ⟨ob, e⟩ := x; exact ⟨ob, k _ _ (.inl rfl) e⟩
  | xd fs => obtain ⟨mA, ⟨od, es, ep, e, c⟩, r⟩ := x; exact ⟨mA, ⟨od, es, ep, k _ _ (.inl rfl) e, c⟩, r⟩
  | rng lo hi => obtain ⟨t, u, v, e⟩ := x; exact ⟨t, u, v, k _ _ (.inl rfl) e⟩
  | frz ob u ih => obtain ⟨e, q⟩ := x; exact ⟨k _ _ (.inl rfl) e, ih q⟩
  | tbl ps => obtain ⟨qs, e, z⟩ := x; exact ⟨qs, k a _ (.inl rfl) e, z.mono hf⟩
  | met f y =>
    have e : h.get? a = some (PySem.W.methodObj (.ref f) (.ref y)) := x
    show h'.get? a = some (PySem.W.methodObj (.ref f) (.ref y))
    exact k a _ (.inl rfl) e
  | ext φ => obtain ⟨p, ⟨o, e⟩, st⟩ := x; exact ⟨st _ _ p fun o q => k _ _ (.inl rfl) q, ⟨o, k _ _ (.inl rfl) e⟩, st⟩
theorem HOk.lt (x : HOk P w H h) (e : H a = some o) : a < h.objs.size := (x a o e).lt
theorem HOk.fresh (x : HOk P w H h) (e : h.objs.size ≤ a) : H a = none := by
  cases q : H a with
  | none => rfl
  | some u => exact absurd (Nat.lt_of_lt_of_le (x.lt q) e) (Nat.lt_irrefl _)
theorem HOk.kept (x : HOk P w H h) (k : ∀ b u, h.get? b = some u → h'.get? b = some u) : HOk P w H h' := fun a o e =>
  (x a o e).stay (fun b u _ q => k b u q) (fun _ q => q) (fun _ _ q => q) fun _ _ _ q => q
theorem HOk.laid (x : HOk P w H h) (k : ∀ b u, h.get? b = some u → h'.get? b = some u) (hp : h.objs.size ≤ a) (new : ObjOk P w (upd H a o) h' a o) : HOk P w (upd H a o) h' := fun b u e => by
  have hn := x.fresh hp
  by_cases hb : b = a
  · subst hb; rw [upd_same] at e; cases e; exact new
  · rw [upd_ne hb] at e
    exact (x b u e).stay (fun c v _ q => k c v q) (fun c q => by rw [upd_ne (ne_of_none q hn)]; exact q) (fun c xs q => by rw [upd_ne (ne_of_none q hn)]; exact q) fun c o' u' q => by rw [upd_ne (ne_of_none q hn)]; exact q
end
def Rd (H : Hp) (a : Addr) (u : HO) : Prop := H a = some u ∨ ∃ o, H a = some (.frz o u)
theorem Rd.ok {P : Program} {w : World} {H : Hp} {h : Heap} {a : Addr} {u : HO} (r : Rd H a u) (x : HOk P w H h) : ObjOk P w H h a u := by
  rcases r with r | ⟨o, r⟩
  · exact x a u r
  · obtain ⟨_, q⟩ := x a _ r
    exact q
def Mut : Option HO → Prop
  | some (.lst _) => True
  | some (.dK _) => True
  | some (.dT _) => True
  | some (.set _ _) => True
  | some (.ins _ _ _) => True
  | some (.ext _) => True
  | _ => False
section
variable {P : Program} {w : World} {H : Hp} {h h' : Heap} {x e : Addr} {o' : HO}
theorem HOk.write (ok : HOk P w H h) (mu : Mut (H x)) (he : e = x ∨ H e = some (.own x)) (k : ∀ b u, b ≠ e → h.get? b = some u → h'.get? b = some u) (heo : ∃ u, h'.get? e = some u)
    (new : ObjOk P w (upd H x o') h' x o') : HOk P w (upd H x o') h' := fun b u q => by
  have nown : ∀ c y, H c = some (.own y) → c ≠ x := fun c y r z => by subst z; rw [r] at mu; exact mu
  have ntup : ∀ c xs, H c = some (.tup xs) → c ≠ x := fun c xs r z => by subst z; rw [r] at mu; exact mu
  by_cases hb : b = x
  · subst hb; rw [upd_same] at q; cases q; exact new
  · rw [upd_ne hb] at q
    by_cases hbe : b = e
    · have q' : H b = some (.own x) := by
        rcases he with z | z
        · exact absurd (hbe.trans z) hb
        · rw [hbe]; exact z
      rw [q] at q'; cases q'
      obtain ⟨v, hv⟩ := heo
      exact ⟨v, by rw [hbe]; exact hv⟩
    · refine (ok b u q).stay (fun c v hc r => k c v ?_ r) (fun c r => by rw [upd_ne (nown c b r)]; exact r) (fun c xs r => by rw [upd_ne (ntup c xs r)]; exact r) fun c o' u' r => by rw [upd_ne (fun z => by subst z; rw [r] at mu; exact mu)]; exact r
      rcases hc with rfl | hc
      · exact hbe
      · rintro rfl
        rcases he with z | z
        · exact nown c b hc z
        · rw [hc] at z; cases z; exact hb rfl
end
structure Un (fs ex : List Addr) (H H' : Hp) (h h' : Heap) : Prop where
  keep : ∀ b o, h.get? b = some o → H b = none → b ∉ fs → b ∉ ex → h'.get? b = some o
  slot : ∀ b o, h.get? b = some o → H b = none → b ∈ fs → b ∉ ex → ∃ sl, h'.get? b = some { o with slots := sl }
  free : ∀ b o, h.get? b = some o → H b = none → b ∉ ex → H' b = none
  there : ∀ b o, h.get? b = some o → b ∉ ex → ∃ o', h'.get? b = some o'
  tups : ∀ b xs, H b = some (.tup xs) → H' b = some (.tup xs)
  frzs : ∀ b o u, H b = some (.frz o u) → H' b = some (.frz o u)
  tbls : ∀ b ps, H b = some (.tbl ps) → ∃ more, H' b = some (.tbl (ps ++ more))
section
variable {fs fs' ex ex' : List Addr} {H H1 H2 : Hp} {h h1 h2 h' : Heap} {a x e : Addr} {o : HO}
theorem Un.any (u : Un fs ex H H1 h h1) {b : Addr} {ob : Obj} (q : h.get? b = some ob) (n : H b = none) (hx : b ∉ ex) : ∃ sl, h1.get? b = some { ob with slots := sl } := by
  by_cases hb : b ∈ fs
  · exact u.slot b ob q n hb hx
  · exact ⟨ob.slots, u.keep b ob q n hb hx⟩
theorem Un.kept (k : ∀ b u, h.get? b = some u → h'.get? b = some u) : Un fs ex H H h h' :=
  ⟨fun b ob q _ _ _ => k b ob q, fun b ob q _ _ _ => ⟨ob.slots, k b ob q⟩, fun _ _ _ n _ => n, fun b ob q _ => ⟨ob, k b ob q⟩, fun _ _ q => q, fun _ _ _ q => q, fun _ ps q => ⟨#[], by rw [q]; simp⟩⟩
theorem Un.refl : Un fs ex H H h h := Un.kept fun _ _ q => q
theorem Un.laid (k : ∀ b u, h.get? b = some u → h'.get? b = some u) (hp : h.objs.size ≤ a) (hn : H a = none) : Un fs ex H (upd H a o) h h' where
  keep := fun b u q _ _ _ => k b u q
  slot := fun b u q _ _ _ => ⟨u.slots, k b u q⟩
  free := fun b u q n _ => by rw [upd_ne (Nat.ne_of_lt (Nat.lt_of_lt_of_le (Heap.lt_size q) hp))]; exact n
  there := fun b u q _ => ⟨u, k b u q⟩
  tups := fun b xs q => by rw [upd_ne (ne_of_none q hn)]; exact q
  frzs := fun b u xs q => by rw [upd_ne (ne_of_none q hn)]; exact q
  tbls := fun b ps q => ⟨#[], by rw [upd_ne (ne_of_none q hn), q]; simp⟩
theorem Un.write (mu : Mut (H x)) (he : e = x ∨ H e = some (.own x)) (k : ∀ b u, b ≠ e → h.get? b = some u → h'.get? b = some u) (heo : ∃ u, h'.get? e = some u) : Un fs ex H (upd H x o) h h' := by
  have hx : ∀ b, H b = none → b ≠ x := fun b n z => by subst z; rw [n] at mu; exact mu
  have hb : ∀ b, H b = none → b ≠ e := fun b n z => by
    subst z
    rcases he with r | r
    · exact hx b n r
    · rw [n] at r; cases r
  have hm : ∀ b u, H b = some u → ¬ Mut (some u) → b ≠ x := fun b u q nm z => by subst z; rw [q] at mu; exact nm mu
  refine ⟨fun b u q n _ _ => k b u (hb b n) q, fun b u q n _ _ => ⟨u.slots, k b u (hb b n) q⟩, fun b u q n _ => by rw [upd_ne (hx b n)]; exact n, fun b u q _ => ?_,
    fun b xs q => by rw [upd_ne (hm b _ q fun z => z)]; exact q, fun b u xs q => by rw [upd_ne (hm b _ q fun z => z)]; exact q, fun b ps q => ⟨#[], by rw [upd_ne (hm b _ q fun z => z), q]; simp⟩⟩
  by_cases hbe : b = e
  · subst hbe; exact heo
  · exact ⟨u, k b u hbe q⟩
end
def trk (h : Heap) (H : Hp) : List Addr := (List.range h.objs.size).filter fun a => (H a).isSome
def hidT (h : Heap) (H : Hp) : Heap := PySem.W.hideAll h (trk h H)
theorem hidT_size (h : Heap) (H : Hp) : (hidT h H).objs.size = h.objs.size := PySem.W.hideAll_size _ _
theorem hidT_get {h : Heap} {H : Hp} {b : Addr} {o : Obj} (e : h.get? b = some o) (n : H b = none) : (hidT h H).get? b = some o :=
  PySem.W.hideAll_get _ e fun hm => by
    have q : (H b).isSome = true := (List.mem_filter.mp hm).2
    rw [n] at q; simp at q
theorem of_hidT {h : Heap} {H : Hp} {b : Addr} {o : Obj} (e : (hidT h H).get? b = some o) : h.get? b = some o ∧ H b = none := by
  have e' : h.get? b = some o := PySem.W.of_hideAll (trk h H) e
  refine ⟨e', ?_⟩
  cases q : H b with
  | none => rfl
  | some x =>
    have hm : b ∈ trk h H := List.mem_filter.mpr ⟨List.mem_range.mpr (Heap.lt_size e'), by simp [q]⟩
    have z : (hidT h H).get? b = none := PySem.W.hideAll_none (trk h H) hm
    rw [z] at e; cases e
def allNews (g h : Heap) (L : Addr) : List (Addr × Obj) := (List.range h.objs.size).filterMap fun a => if a = L ∨ (g.get? a).isSome = true then none else (h.get? a).map fun o => (a, o)
def rest (g h : Heap) (L d : Addr) : List (Addr × Obj) := (allNews g h L).filter fun p => decide (p.1 ≠ d)
end L2
namespace L2
open PySem PySem.Spec PyProof.Rows
def tabL (K : PySem.W.Frag) : List (Str × Addr × Addr) := match K.lookup mainGlobals with
  | some ⟨_, _, .dict es _, _⟩ => es.toList.filterMap fun e => match e.key with
    | .str x _ => (PySem.W.tabIn K x).map fun q => (x, q)
    | _ => none
  | _ => []
def TabT (K : PySem.W.Frag) (H : Hp) : Prop := ∀ q ∈ tabL K, ∃ ps, H q.2.2 = some (.tbl ps) ∧ ps[0]? = some (.str (q.1 ++ ".<locals>." ++ "<lambda>") 0)
theorem TabT.mono {K : PySem.W.Frag} {H H' : Hp} (x : TabT K H) (k : ∀ b ps, H b = some (.tbl ps) → ∃ more, H' b = some (.tbl (ps ++ more))) : TabT K H' := fun q hq => by
  obtain ⟨ps, e, z⟩ := x q hq
  obtain ⟨more, e'⟩ := k _ _ e
  refine ⟨_, e', ?_⟩
  have hz : 0 < ps.size := by
    rcases Nat.eq_zero_or_pos ps.size with h | h
    · rw [Array.getElem?_eq_none (by omega)] at z; cases z
    · exact h
  rw [Array.getElem?_append_left hz]
  exact z
structure Mod (K : PySem.W.Frag) (mg : Str → Option Value) (base : Heap) : Prop where
  kin : K.In base
  glob : base.Ns mainGlobals mg
  blt : ∃ mb, base.Ns builtinsNs mb ∧ ∀ x : Str, x ≠ "__name__" → mb x = bootBuiltins x
  nolimit : base.NoLimit
  bm : ∃ bm ob, mg "__builtins__" = some (.ref bm) ∧ bm ≠ builtinsNs ∧ base.get? bm = some ob ∧ ob.cls = .type "module" ∧ ob.dict = some builtinsNs ∧ ob.data = .plain
structure Cx where
  prog : Program
  w : World
  K : PySem.W.Frag
  mg : Str → Option Value
  base : Heap
  A : Around
  N : List Str
  s₀ : Shared
  H₀ : Hp
  env : Env
  outer : List Env
  stack : List Env
  ex : List Addr
  fn : Str → Bool
  calm : Bool
  pn : List (Addr × Obj)
  xe : Value → Shared → Prop
def frs (l : List Env) : List Addr := l.filterMap (·.frame)
abbrev Cx.fs (X : Cx) : List Addr := frs X.outer
def Vis (sc : Scope) (x : Str) : Prop := sc.names.lookup x = some .local ∨ sc.names.lookup x = some .cell ∨ sc.names.lookup x = some .free
def Loc (sc : Scope) (x : Str) : Prop := sc.names.lookup x = some .local ∨ sc.names.lookup x = some .cell
def Look (env : Env) (h : Heap) (m : Str → Option Value) (x : Str) (u : Value) : Prop :=
  (env.kindOf x = some .local ∧ m x = some u) ∨ ((env.kindOf x = some .cell ∨ env.kindOf x = some .free) ∧ ∃ c, env.cells.lookup x = some c ∧ h.IsCell c (some u))
structure Cx.Ok (X : Cx) : Prop where
  mod : Mod X.K X.mg X.base
  kind : X.env.scope.kind = .function
  glob : X.env.globals = mainGlobals
  blt : X.env.builtins = builtinsNs
  above : X.s₀.heap.objs.size ≤ X.env.locals
  inj : ∀ x y c, X.env.cells.lookup x = some c → X.env.cells.lookup y = some c → x = y
  has : ∀ x, (X.env.kindOf x = some .cell ∨ X.env.kindOf x = some .free) → ∃ c, X.env.cells.lookup x = some c
  cab : ∀ x c, X.fn x = true → X.env.cells.lookup x = some c → X.s₀.heap.objs.size ≤ c
  hd : X.calm = true → X.A.handled = none
  frames : X.A.frames = some X.stack
  stk : X.stack = X.outer ∨ (X.stack = X.env :: X.outer ∧ X.env.frame = some X.env.locals)
  exf : ∀ b ∈ X.ex, b ≠ X.env.locals ∧ ∀ x c, X.env.cells.lookup x = some c → c ≠ b
  bs : ∀ b o, X.base.get? b = some o → X.s₀.heap.get? b = some o ∧ X.H₀ b = none
  bsz : X.base.objs.size ≤ X.s₀.heap.objs.size
  noex : ∀ b o, X.base.get? b = some o → b ∉ X.ex
  exfs : ∀ b ∈ X.ex, b ∉ X.fs
  funs : X.s₀.heap.FunFrames X.base X.outer
  frf : ∀ b ∈ X.fs, X.H₀ b = none
  tt : TabT X.K X.H₀
structure Inv (X : Cx) (pins : List (Addr × Obj)) (σ : List (Option V)) (H : Hp) (s : Shared) : Prop where
  ok : X.Ok
  os : s.os = X.s₀.os
  bare : AllBare s.gens
  base : Un X.fs X.ex X.H₀ H X.s₀.heap s.heap
  loc : ∃ m, s.heap.Ns X.env.locals m ∧ ∀ (i : Nat) (x : Str) (v : V), X.N[i]? = some x → σ[i]? = some (some v) → Vis X.env.scope x → ∃ u, RelV v u ∧ Look X.env s.heap m x u
  cell : ∀ x c, X.env.cells.lookup x = some c → ∃ v, s.heap.IsCell c v
  free : H X.env.locals = none
  freeC : ∀ x c, X.env.cells.lookup x = some c → H c = none
  pin : ∀ p ∈ X.pn ++ pins, s.heap.get? p.1 = some p.2 ∧ H p.1 = none ∧ p.1 ≠ X.env.locals ∧ p.1 ∉ X.fs ∧ ∀ v, p.2.data ≠ .cell v
  hok : HOk X.prog X.w H s.heap
  len : σ.length = X.N.length
section
variable {X : Cx} {pins : List (Addr × Obj)} {σ : List (Option V)} {H H' : Hp} {s : Shared} {h' : Heap}
theorem Cx.Ok.nofr (ok : X.Ok) {b : Addr} {o : Obj} (e : X.base.get? b = some o) : b ∉ X.fs := fun hb => by
  have := (ok.funs.mem hb).1
  rw [e] at this; cases this
theorem Inv.bs (I : Inv X pins σ H s) : ∀ b o, X.base.get? b = some o → s.heap.get? b = some o ∧ H b = none := fun b o e =>
  ⟨I.base.keep b o (I.ok.bs b o e).1 (I.ok.bs b o e).2 (I.ok.nofr e) (I.ok.noex b o e), I.base.free b o (I.ok.bs b o e).1 (I.ok.bs b o e).2 (I.ok.noex b o e)⟩
theorem Inv.bk (I : Inv X pins σ H s) : ∀ b o, X.base.get? b = some o → s.heap.get? b = some o := fun b o e => (I.bs b o e).1
theorem Inv.mod (I : Inv X pins σ H s) : Mod X.K X.mg X.base := I.ok.mod
theorem Inv.kIn (I : Inv X pins σ H s) : X.K.In s.heap := I.ok.mod.kin.keeps I.bk
theorem Inv.lt (I : Inv X pins σ H s) : X.env.locals < s.heap.objs.size := let ⟨_, hn, _⟩ := I.loc; hn.lt
theorem Inv.sz (I : Inv X pins σ H s) : X.s₀.heap.objs.size ≤ s.heap.objs.size := Nat.le_trans I.ok.above (Nat.le_of_lt I.lt)
theorem Inv.nofs (I : Inv X pins σ H s) {a : Addr} (h : s.heap.objs.size ≤ a) : a ∉ X.fs := fun hb => by
  obtain ⟨_, o, ho, _⟩ := I.ok.funs.mem hb
  exact absurd (Nat.lt_of_lt_of_le (Heap.lt_size ho) (Nat.le_trans I.sz h)) (Nat.lt_irrefl _)
theorem Inv.cne (I : Inv X pins σ H s) : ∀ x c, X.env.cells.lookup x = some c → c ≠ X.env.locals := fun x c e z => by
  obtain ⟨v, o, ho, hd⟩ := I.cell x c e
  obtain ⟨m, ⟨o', es, ep, ho', hd', _⟩, _⟩ := I.loc
  rw [z, ho'] at ho; cases ho; rw [hd'] at hd; cases hd
theorem Inv.funs (I : Inv X pins σ H s) : s.heap.FunFrames X.base X.outer := by
  have all : ∀ (l : List Env), (∀ b ∈ frs l, b ∈ X.fs) → X.s₀.heap.FunFrames X.base l → s.heap.FunFrames X.base l := by
    intro l
    induction l with
    | nil => intro _ _; trivial
    | cons env r ih =>
      intro hs hl
      obtain ⟨hk, ⟨L, o, hf, hn, ho, hd⟩, hr⟩ := hl
      have hL : L ∈ X.fs := hs L (by unfold frs; rw [List.filterMap_cons, hf]; exact List.mem_cons_self)
      obtain ⟨sl, e⟩ := I.base.slot L o ho (I.ok.frf L hL) hL fun z => I.ok.exfs L z hL
      exact ⟨hk, ⟨L, _, hf, hn, e, hd⟩, ih (fun b hb => hs b (by unfold frs; rw [List.filterMap_cons, hf]; exact List.mem_cons_of_mem _ hb)) hr⟩
  exact all X.outer (fun _ hb => hb) I.ok.funs
theorem Inv.stack (I : Inv X pins σ H s) : s.heap.FunFrames X.base X.stack := by
  rcases I.ok.stk with e | ⟨e, hf⟩
  · rw [e]; exact I.funs
  · rw [e]
    obtain ⟨m, hn, _⟩ := I.loc
    refine .cons (by rw [I.ok.kind]; decide) hf hn ?_ I.funs
    exact Heap.get?_none_of_le (Nat.le_trans I.ok.bsz I.ok.above)
theorem Inv.stkSub (I : Inv X pins σ H s) : ∀ b ∈ frs X.stack, b ∈ X.env.locals :: X.fs := fun b hb => by
  rcases I.ok.stk with e | ⟨e, hf⟩
  · rw [e] at hb; exact List.mem_cons_of_mem _ hb
  · rw [e] at hb
    unfold frs at hb
    rw [List.filterMap_cons, hf] at hb
    exact hb
theorem Inv.stkFree (I : Inv X pins σ H s) : ∀ b ∈ frs X.stack, H b = none := fun b hb => by
  rcases List.mem_cons.mp (I.stkSub b hb) with e | hb
  · rw [e]; exact I.free
  · obtain ⟨_, o, ho, _⟩ := I.ok.funs.mem hb
    exact I.base.free b o ho (I.ok.frf b hb) fun z => I.ok.exfs b z hb
theorem Inv.step {g' : Array GenState} {t' : Nat} {d' : Drawn} {ch : List Addr} (I : Inv X pins σ H s)
    (hch : ∀ b ∈ ch, (b ∈ X.ex ∨ X.s₀.heap.objs.size ≤ b) ∧ b ≠ X.env.locals ∧ (∀ x c, X.env.cells.lookup x = some c → c ≠ b) ∧ ∀ p ∈ X.pn ++ pins, p.1 ≠ b)
    (keep : ∀ b o, b ≠ X.env.locals → b ∉ X.fs → b ∉ ch → s.heap.get? b = some o → H b = none → h'.get? b = some o)
    (slot : ∀ b o, b ≠ X.env.locals → b ∈ X.fs → b ∉ ch → s.heap.get? b = some o → H b = none → ∃ sl, h'.get? b = some { o with slots := sl }) (free : ∀ b o, b ∉ ch → s.heap.get? b = some o → H b = none → H' b = none)
    (there : ∀ b o, b ∉ ch → s.heap.get? b = some o → ∃ o', h'.get? b = some o')
    (tups : ∀ b xs, H b = some (.tup xs) → H' b = some (.tup xs)) (frzs : ∀ b o u, H b = some (.frz o u) → H' b = some (.frz o u)) (tbls : ∀ b ps, H b = some (.tbl ps) → ∃ more, H' b = some (.tbl (ps ++ more)))
    (ns : ∀ m, s.heap.Ns X.env.locals m → h'.Ns X.env.locals m) (hok : HOk X.prog X.w H' h') (hg : AllBare g') :
    Inv X pins σ H' { s with heap := h', gens := g', drawn := d', toks := t' } := by
  have neL : ∀ b o, X.s₀.heap.get? b = some o → b ≠ X.env.locals := fun b o e => Nat.ne_of_lt (Nat.lt_of_lt_of_le (Heap.lt_size e) I.ok.above)
  have neC : ∀ b o, X.s₀.heap.get? b = some o → b ∉ X.ex → b ∉ ch := fun b o e hx hb => by
    rcases (hch b hb).1 with z | z
    · exact hx z
    · exact absurd (Nat.lt_of_lt_of_le (Heap.lt_size e) z) (Nat.lt_irrefl _)
  have cellK : ∀ x c, X.env.cells.lookup x = some c → ∀ v, s.heap.IsCell c v → h'.IsCell c v := fun x c e v ⟨o, ho, hd⟩ => by
    have nch : c ∉ ch := fun z => (hch c z).2.2.1 x c e rfl
    by_cases hc : c ∈ X.fs
    · obtain ⟨sl, q⟩ := slot c o (I.cne x c e) hc nch ho (I.freeC x c e)
      exact ⟨_, q, hd⟩
    · exact ⟨o, keep c o (I.cne x c e) hc nch ho (I.freeC x c e), hd⟩
  refine ⟨I.ok, I.os, hg, ⟨fun b o e n hb hx => ?_, fun b o e n hb hx => ?_, fun b o e n hx => ?_, fun b o e hx => ?_, fun b xs e => tups b xs (I.base.tups b xs e), fun b o xs e => frzs b o xs (I.base.frzs b o xs e), fun b ps e => ?_⟩, ?_, fun x c e => ?_, ?_, fun x c e => ?_, fun p hp => ?_, hok, I.len⟩
  · exact keep b o (neL b o e) hb (neC b o e hx) (I.base.keep b o e n hb hx) (I.base.free b o e n hx)
  · obtain ⟨sl, e1⟩ := I.base.slot b o e n hb hx
    obtain ⟨sl', e2⟩ := slot b _ (neL b o e) hb (neC b o e hx) e1 (I.base.free b o e n hx)
    exact ⟨sl', e2⟩
  · obtain ⟨o', e1⟩ := I.base.there b o e hx
    exact free b o' (neC b o e hx) e1 (I.base.free b o e n hx)
  · obtain ⟨o', e1⟩ := I.base.there b o e hx
    exact there b o' (neC b o e hx) e1
  · obtain ⟨m1, e1⟩ := I.base.tbls b ps e
    obtain ⟨m2, e2⟩ := tbls b _ e1
    exact ⟨m1 ++ m2, by rw [e2, Array.append_assoc]⟩
  · obtain ⟨m, hn, hl⟩ := I.loc
    refine ⟨m, ns m hn, fun i x v e1 e2 e3 => ?_⟩
    obtain ⟨u, r, l⟩ := hl i x v e1 e2 e3
    refine ⟨u, r, ?_⟩
    rcases l with l | ⟨k, c, e, z⟩
    · exact .inl l
    · exact .inr ⟨k, c, e, cellK x c e _ z⟩
  · obtain ⟨v, z⟩ := I.cell x c e
    exact ⟨v, cellK x c e v z⟩
  · obtain ⟨m, ⟨o, _, _, ho, _⟩, _⟩ := I.loc
    exact free _ o (fun z => (hch _ z).2.1 rfl) ho I.free
  · obtain ⟨v, o, ho, hd⟩ := I.cell x c e
    exact free c o (fun z => (hch c z).2.2.1 x c e rfl) ho (I.freeC x c e)
  · obtain ⟨e, n, ne, nf, d⟩ := I.pin p hp
    have nch : p.1 ∉ ch := fun z => (hch p.1 z).2.2.2 p hp rfl
    exact ⟨keep p.1 p.2 ne nf nch e n, free p.1 p.2 nch e n, ne, nf, d⟩
theorem Inv.un {t' : Nat} (I : Inv X pins σ H s) (u : Un X.fs [] H H' s.heap h') (hok : HOk X.prog X.w H' h') : Inv X pins σ H' { s with heap := h', toks := t' } := by
  obtain ⟨m, ⟨o, es, ep, ho, r⟩, _⟩ := id I.loc
  obtain ⟨sl, hL⟩ := u.any ho I.free (by simp)
  exact I.step (g' := s.gens) (d' := s.drawn) (ch := []) (fun _ z => nomatch z) (fun b o _ hb _ e n => u.keep b o e n hb (by simp)) (fun b o _ hb _ e n => u.slot b o e n hb (by simp)) (fun b o _ e n => u.free b o e n (by simp)) (fun b o _ e => u.there b o e (by simp)) u.tups u.frzs u.tbls (fun m' hm => by
    obtain ⟨o', es', ep', ho', r'⟩ := hm
    rw [ho] at ho'; cases ho'
    exact ⟨_, es', ep', hL, r'⟩) hok I.bare
theorem Inv.call {g' : Array GenState} {t' : Nat} {d' : Drawn} {ch : List Addr} (I : Inv X pins σ H s) (u : Un (frs X.stack) ch H H' s.heap h') (hok : HOk X.prog X.w H' h') (hg : AllBare g')
    (hch : ∀ b ∈ ch, (b ∈ X.ex ∨ X.s₀.heap.objs.size ≤ b) ∧ b ≠ X.env.locals ∧ (∀ x c, X.env.cells.lookup x = some c → c ≠ b) ∧ ∀ p ∈ X.pn ++ pins, p.1 ≠ b) :
    Inv X pins σ H' { s with heap := h', gens := g', drawn := d', toks := t' } := by
  obtain ⟨m, ⟨o, es, ep, ho, r⟩, _⟩ := id I.loc
  obtain ⟨sl, hL⟩ := u.any ho I.free fun z => (hch _ z).2.1 rfl
  exact I.step (ch := ch) hch (fun b o hL hb hc e n => u.keep b o e n (fun z => (List.mem_cons.mp (I.stkSub b z)).elim hL hb) hc) (fun b o _ _ hc e n => u.any e n hc) (fun b o hc e n => u.free b o e n hc) (fun b o hc e => u.there b o e hc) u.tups u.frzs u.tbls (fun m' hm => by
    obtain ⟨o', es', ep', ho', r'⟩ := hm
    rw [ho] at ho'; cases ho'
    exact ⟨_, es', ep', hL, r'⟩) hok hg
theorem Inv.turned {t' : Nat} {it : Addr} (I : Inv X pins σ H s) (k : ∀ b o, b ≠ it → s.heap.get? b = some o → h'.get? b = some o) (hn : H it = none) (hL : it ≠ X.env.locals)
    (h1 : it ∈ X.ex ∨ X.s₀.heap.objs.size ≤ it) (h2 : ∀ x c, X.env.cells.lookup x = some c → c ≠ it) (h3 : ∀ p ∈ X.pn ++ pins, p.1 ≠ it) : Inv X pins σ H { s with heap := h', toks := t' } := by
  have nit : ∀ b u, H b = some u → b ≠ it := fun b u e z => by rw [z, hn] at e; cases e
  refine I.step (g' := s.gens) (d' := s.drawn) (ch := [it]) (fun b hb => ?_) (fun b o _ _ hc e _ => k b o (fun z => hc (by simp [z])) e) (fun b o _ _ hc e _ => ⟨o.slots, k b o (fun z => hc (by simp [z])) e⟩) (fun _ _ _ _ n => n)
    (fun b o hc e => ⟨o, k b o (fun z => hc (by simp [z])) e⟩) (fun _ _ e => e) (fun _ _ _ e => e) (fun b ps e => ⟨#[], by rw [e]; simp⟩) (fun m hm => ?_) (fun b u e => ?_) I.bare
  · have e : b = it := by simpa using hb
    subst e
    exact ⟨h1, hL, h2, h3⟩
  · obtain ⟨o, es, ep, ho, r⟩ := hm
    exact ⟨o, es, ep, k _ o (Ne.symm hL) ho, r⟩
  · refine (I.hok b u e).stay (fun c v hc q => k c v ?_ q) (fun _ q => q) (fun _ _ q => q) fun _ _ _ q => q
    rcases hc with z | z
    · rw [z]; exact nit b u e
    · exact nit c _ z
theorem Inv.tok (I : Inv X pins σ H s) (t : Nat) : Inv X pins σ H { s with toks := t } := I.un (h' := s.heap) (t' := t) Un.refl I.hok
theorem Inv.kept {t' : Nat} (I : Inv X pins σ H s) (k : ∀ b u, s.heap.get? b = some u → h'.get? b = some u) : Inv X pins σ H { s with heap := h', toks := t' } := I.un (Un.kept k) (I.hok.kept k)
theorem Inv.laid {a : Addr} {o : HO} {t' : Nat} (I : Inv X pins σ H s) (k : ∀ b u, s.heap.get? b = some u → h'.get? b = some u) (hp : s.heap.objs.size ≤ a) (new : ObjOk X.prog X.w (upd H a o) h' a o) :
    Inv X pins σ (upd H a o) { s with heap := h', toks := t' } := I.un (Un.laid k hp (I.hok.fresh hp)) (I.hok.laid k hp new)
theorem Inv.write {x e : Addr} {o : HO} {t' : Nat} (I : Inv X pins σ H s) (mu : Mut (H x)) (he : e = x ∨ H e = some (.own x)) (k : ∀ b u, b ≠ e → s.heap.get? b = some u → h'.get? b = some u) (heo : ∃ u, h'.get? e = some u)
    (new : ObjOk X.prog X.w (upd H x o) h' x o) : Inv X pins σ (upd H x o) { s with heap := h', toks := t' } := I.un (Un.write mu he k heo) (I.hok.write mu he k heo new)
theorem Inv.pins_of {pins' : List (Addr × Obj)} (I : Inv X pins σ H s) (h : ∀ p ∈ pins', s.heap.get? p.1 = some p.2 ∧ H p.1 = none ∧ p.1 ≠ X.env.locals ∧ p.1 ∉ X.fs ∧ ∀ v, p.2.data ≠ .cell v) : Inv X pins' σ H s :=
  ⟨I.ok, I.os, I.bare, I.base, I.loc, I.cell, I.free, I.freeC, fun p hp => (List.mem_append.mp hp).elim (fun z => I.pin p (List.mem_append_left _ z)) (h p), I.hok, I.len⟩
theorem nodup_ix {N : List Str} (hN : N.Nodup) {i j : Nat} {x : Str} (a : N[i]? = some x) (b : N[j]? = some x) : i = j := by
  obtain ⟨h1, e1⟩ := List.getElem?_eq_some_iff.mp a
  obtain ⟨h2, e2⟩ := List.getElem?_eq_some_iff.mp b
  exact (List.getElem_inj hN).mp (e1.trans e2.symm)
theorem store_ok2 {M : Model} {A : Around} {E : Value → Shared → Prop} {i : Nat} {x : Str} {v : V} {u : Value} {Q : Unit → Shared → Prop} (I : Inv X pins σ H s) (hN : X.N.Nodup) (hi : X.N[i]? = some x) (hx : Loc X.env.scope x) (r : RelV v u)
    (h : ∀ s', Inv X pins (σ.set i (some v)) H s' → (∃ a, Heap.SameBut a s.heap s'.heap ∧ (a = X.env.locals ∨ X.env.cells.lookup x = some a)) → Q () s') (hf : X.fn x = true ∨ X.env.scope.names.lookup x = some .local := by first | exact .inl rfl | exact .inr rfl | assumption) : wpAny M A (storeName X.env x u) Q E s := by
  obtain ⟨m, hn, hl⟩ := id I.loc
  have hcls : (X.env.scope.kind == .class || (X.env.scope.kind == .module && X.env.locals != X.env.globals)) = false := by rw [I.ok.kind]; rfl
  have hiσ : i < σ.length := by rw [I.len]; exact (List.getElem?_eq_some_iff.mp hi).1
  have cne := I.cne
  have tracked : ∀ {a : Addr} {h' : Heap}, (∃ o, s.heap.get? a = some o ∧ H a = none) → Heap.SameBut a s.heap h' → HOk X.prog X.w H h' := fun {a h'} ha hs b ob e => by
    obtain ⟨_, _, hfree⟩ := ha
    refine (I.hok b ob e).stay (fun c w' hc q => (hs.2 c ?_).trans q) (fun _ q => q) (fun _ _ q => q) fun _ _ _ q => q
    rintro rfl
    rcases hc with rfl | hc
    · rw [hfree] at e; cases e
    · rw [hfree] at hc; cases hc
  rcases hx with hk | hk
  · refine wpAny_storeName_local hk hn (fun h' hn' hs => ?_) hcls
    obtain ⟨oL, _, _, hoL, _⟩ := id hn
    refine h _ ⟨I.ok, I.os, I.bare, ⟨fun b o e n hb hx => ?_, fun b o e n hb hx => ?_, I.base.free, fun b o e hx => ?_, I.base.tups, I.base.frzs, I.base.tbls⟩, ⟨_, hn', fun j y v' e1 e2 e3 => ?_⟩, fun y c e => ?_, I.free, I.freeC, fun p hp => ?_, tracked ⟨oL, hoL, I.free⟩ hs, by simpa using I.len⟩ ⟨_, hs, .inl rfl⟩
    · exact (hs.2 b (Nat.ne_of_lt (Nat.lt_of_lt_of_le (Heap.lt_size e) I.ok.above))).trans (I.base.keep b o e n hb hx)
    · obtain ⟨sl, e1⟩ := I.base.slot b o e n hb hx
      exact ⟨sl, (hs.2 b (Nat.ne_of_lt (Nat.lt_of_lt_of_le (Heap.lt_size e) I.ok.above))).trans e1⟩
    · obtain ⟨o', e1⟩ := I.base.there b o e hx
      exact ⟨o', (hs.2 b (Nat.ne_of_lt (Nat.lt_of_lt_of_le (Heap.lt_size e) I.ok.above))).trans e1⟩
    · by_cases hj : j = i
      · subst hj
        rw [hi] at e1; cases e1
        rw [List.getElem?_set_self hiσ] at e2
        cases e2
        exact ⟨u, r, .inl ⟨hk, by simp⟩⟩
      · rw [List.getElem?_set_ne (Ne.symm hj)] at e2
        obtain ⟨u', r', q⟩ := hl j y v' e1 e2 e3
        refine ⟨u', r', ?_⟩
        rcases q with ⟨k, e⟩ | ⟨k, c, e, z⟩
        · refine .inl ⟨k, ?_⟩
          have : y ≠ x := fun e => hj (nodup_ix hN e1 (e ▸ hi))
          simp [this, e]
        · exact .inr ⟨k, c, e, z.sameBut hs (cne y c e)⟩
    · obtain ⟨w', z⟩ := I.cell y c e
      exact ⟨w', z.sameBut hs (cne y c e)⟩
    · obtain ⟨e, n, ne, nf, d⟩ := I.pin p hp
      exact ⟨(hs.2 p.1 ne).trans e, n, ne, nf, d⟩
  · have hfn : X.fn x = true := by
      rcases hf with z | z
      · exact z
      · rw [z] at hk; cases hk
    obtain ⟨c, hc⟩ := I.ok.has x (.inl hk)
    obtain ⟨w', z⟩ := I.cell x c hc
    refine wpAny_storeName_cell I.ok.kind hk hc z (fun h' hc' hs => ?_)
    obtain ⟨oc, hoc, hocd⟩ := id z
    refine h { s with heap := h' } ⟨I.ok, I.os, I.bare, ⟨fun b o e n hb hx => ?_, fun b o e n hb hx => ?_, I.base.free, fun b o e hx => ?_, I.base.tups, I.base.frzs, I.base.tbls⟩, ⟨m, hn.sameBut hs (Ne.symm (cne x c hc)), fun j y v' e1 e2 e3 => ?_⟩, fun y c' e => ?_, I.free, I.freeC, fun p hp => ?_, tracked ⟨oc, hoc, I.freeC x c hc⟩ hs, by simpa using I.len⟩ ⟨c, hs, .inr hc⟩
    · exact (hs.2 b (Nat.ne_of_lt (Nat.lt_of_lt_of_le (Heap.lt_size e) (I.ok.cab x c hfn hc)))).trans (I.base.keep b o e n hb hx)
    · obtain ⟨sl, e1⟩ := I.base.slot b o e n hb hx
      exact ⟨sl, (hs.2 b (Nat.ne_of_lt (Nat.lt_of_lt_of_le (Heap.lt_size e) (I.ok.cab x c hfn hc)))).trans e1⟩
    · obtain ⟨o', e1⟩ := I.base.there b o e hx
      exact ⟨o', (hs.2 b (Nat.ne_of_lt (Nat.lt_of_lt_of_le (Heap.lt_size e) (I.ok.cab x c hfn hc)))).trans e1⟩
    · by_cases hj : j = i
      · subst hj
        rw [hi] at e1; cases e1
        rw [List.getElem?_set_self hiσ] at e2
        cases e2
        exact ⟨u, r, .inr ⟨.inl hk, c, hc, hc'⟩⟩
      · rw [List.getElem?_set_ne (Ne.symm hj)] at e2
        obtain ⟨u', r', q⟩ := hl j y v' e1 e2 e3
        refine ⟨u', r', ?_⟩
        rcases q with q | ⟨k, c', e, z'⟩
        · exact .inl q
        · refine .inr ⟨k, c', e, z'.sameBut hs ?_⟩
          rintro rfl
          exact hj (nodup_ix hN e1 (I.ok.inj _ _ _ e hc ▸ hi))
    · by_cases hcc : c' = c
      · subst hcc; exact ⟨_, hc'⟩
      · obtain ⟨w2, z2⟩ := I.cell y c' e
        exact ⟨w2, z2.sameBut hs hcc⟩
    · obtain ⟨e, n, ne, nf, d⟩ := I.pin p hp
      refine ⟨(hs.2 p.1 ?_).trans e, n, ne, nf, d⟩
      intro q
      rw [q, hoc] at e
      have q' : oc = p.2 := Option.some.inj e
      exact d w' (by rw [← q']; exact hocd)
theorem store_ok {M : Model} {A : Around} {E : Value → Shared → Prop} {i : Nat} {x : Str} {v : V} {u : Value} {Q : Unit → Shared → Prop} (I : Inv X pins σ H s) (hN : X.N.Nodup) (hi : X.N[i]? = some x) (hx : Loc X.env.scope x) (r : RelV v u)
    (h : ∀ s', Inv X pins (σ.set i (some v)) H s' → Q () s') (hf : X.fn x = true ∨ X.env.scope.names.lookup x = some .local := by first | exact .inl rfl | exact .inr rfl | assumption) : wpAny M A (storeName X.env x u) Q E s :=
  store_ok2 I hN hi hx r (fun s' I' _ => h s' I') hf
theorem Inv.call' {s' : Shared} {ch : List Addr} (I : Inv X pins σ H s) (ho : s'.os = s.os) (u : Un (frs X.stack) ch H H' s.heap s'.heap) (hok : HOk X.prog X.w H' s'.heap) (hg : AllBare s'.gens)
    (hch : ∀ b ∈ ch, (b ∈ X.ex ∨ X.s₀.heap.objs.size ≤ b) ∧ b ≠ X.env.locals ∧ (∀ x c, X.env.cells.lookup x = some c → c ≠ b) ∧ ∀ p ∈ X.pn ++ pins, p.1 ≠ b) : Inv X pins σ H' s' := by
  obtain ⟨h', g', d', t', o'⟩ := s'
  have e : o' = s.os := ho
  subst e
  exact I.call (g' := g') (t' := t') (d' := d') u hok hg hch
end
abbrev XK := Value → Option Addr → Hp → Prop
abbrev St := List (Option V)
abbrev VK := V → Hp → Prop
abbrev TE := St → Hp → VK → Prop
abbrev TT := St → Hp → (Bool → Hp → Prop) → Prop
abbrev TA := St → Hp → (List V → Hp → Prop) → Prop
structure Ends where
  nx : St → Hp → Prop
  rt : VK
  bk : St → Hp → Prop := fun _ _ => False
  ct : St → Hp → Prop := fun _ _ => False
abbrev TS := Ends → St → Hp → Prop
def EP (X : Cx) (pins : List (Addr × Obj)) (σ : St) (Q : VK) (u : Value) (s' : Shared) : Prop := ∃ v H', Inv X pins σ H' s' ∧ RelV v u ∧ Q v H'
def TP (X : Cx) (pins : List (Addr × Obj)) (σ : St) (Q : Bool → Hp → Prop) (b : Bool) (s' : Shared) : Prop := ∃ H', Inv X pins σ H' s' ∧ Q b H'
def AP (X : Cx) (pins : List (Addr × Obj)) (σ : St) (Q : List V → Hp → Prop) (us : List Value) (s' : Shared) : Prop := ∃ vs H', Inv X pins σ H' s' ∧ Vals vs us ∧ Q vs H'
def SP (X : Cx) (pins : List (Addr × Obj)) (D : Ends) (f : Flow) (s' : Shared) : Prop :=
  match f with
  | .next => ∃ σ' H', Inv X pins σ' H' s' ∧ D.nx σ' H'
  | .brk => ∃ σ' H', Inv X pins σ' H' s' ∧ D.bk σ' H'
  | .cont => ∃ σ' H', Inv X pins σ' H' s' ∧ D.ct σ' H'
  | .ret u => ∃ v σ' H', Inv X pins σ' H' s' ∧ RelV v u ∧ D.rt v H'
def PEd (X : Cx) (e : Expr) (t : TE) : Prop :=
  ∀ (pins : List (Addr × Obj)) (s : Shared) (σ : St) (H : Hp) (Q : VK), Inv X pins σ H s → t σ H Q → wpAny (model X.prog X.w) X.A (eval e X.env) (EP X pins σ Q) X.xe s
structure PE (X : Cx) (e : Expr) (t : TE) : Prop where
  run : PEd X e t
instance {X : Cx} {e : Expr} {t : TE} : CoeFun (PE X e t) (fun _ => PEd X e t) := ⟨PE.run⟩
instance {X : Cx} {e : Expr} {t : TE} : Coe (PE X e t) (PEd X e t) := ⟨PE.run⟩
def PT (X : Cx) (e : Expr) (t : TT) : Prop :=
  ∀ (pins : List (Addr × Obj)) (s : Shared) (σ : St) (H : Hp) (Q : Bool → Hp → Prop), Inv X pins σ H s → t σ H Q → wpAny (model X.prog X.w) X.A (isTrue e X.env (eval e X.env)) (TP X pins σ Q) X.xe s
def PW (X : Cx) (e : Expr) (t : TT) : Prop :=
  ∀ (whole : Sem Value) (pins : List (Addr × Obj)) (s : Shared) (σ : St) (H : Hp) (Q : Bool → Hp → Prop), Inv X pins σ H s → t σ H Q → wpAny (model X.prog X.w) X.A (isTrue e X.env whole) (TP X pins σ Q) X.xe s
theorem PW.pt {X : Cx} {e : Expr} {t : TT} (h : PW X e t) : PT X e t := h _
def PAd (X : Cx) (es : List Expr) (t : TA) : Prop :=
  ∀ (pos : Pos) (pins : List (Addr × Obj)) (s : Shared) (σ : St) (H : Hp) (Q : List V → Hp → Prop), Inv X pins σ H s → t σ H Q → wpAny (model X.prog X.w) X.A (spliced (backTo pos (starEach es X.env))) (AP X pins σ Q) X.xe s
structure PA (X : Cx) (es : List Expr) (t : TA) : Prop where
  run : PAd X es t
instance {X : Cx} {es : List Expr} {t : TA} : CoeFun (PA X es t) (fun _ => PAd X es t) := ⟨PA.run⟩
instance {X : Cx} {es : List Expr} {t : TA} : Coe (PA X es t) (PAd X es t) := ⟨PA.run⟩
def PSd (X : Cx) (st : Stmt) (t : TS) : Prop :=
  ∀ (pins : List (Addr × Obj)) (s : Shared) (σ : St) (H : Hp) (D : Ends), Inv X pins σ H s → t D σ H → wpAny (model X.prog X.w) X.A (exec st X.env) (SP X pins D) X.xe s
structure PS (X : Cx) (st : Stmt) (t : TS) : Prop where
  run : PSd X st t
instance {X : Cx} {st : Stmt} {t : TS} : CoeFun (PS X st t) (fun _ => PSd X st t) := ⟨PS.run⟩
instance {X : Cx} {st : Stmt} {t : TS} : Coe (PS X st t) (PSd X st t) := ⟨PS.run⟩
def PSsd (X : Cx) (st : List Stmt) (t : TS) : Prop :=
  ∀ (pins : List (Addr × Obj)) (s : Shared) (σ : St) (H : Hp) (D : Ends), Inv X pins σ H s → t D σ H → wpAny (model X.prog X.w) X.A (execs st X.env) (SP X pins D) X.xe s
structure PSs (X : Cx) (st : List Stmt) (t : TS) : Prop where
  run : PSsd X st t
instance {X : Cx} {st : List Stmt} {t : TS} : CoeFun (PSs X st t) (fun _ => PSsd X st t) := ⟨PSs.run⟩
instance {X : Cx} {st : List Stmt} {t : TS} : Coe (PSs X st t) (PSsd X st t) := ⟨PSs.run⟩
theorem thn {α : Type} {t : Sem α} {Q Q' : α → Shared → Prop} {M : Model} {A : Around} {E : Value → Shared → Prop} {s : Shared} (h : wpAny M A t Q E s) (hQ : ∀ a s, Q a s → Q' a s) : wpAny M A t Q' E s := wpAny_mono h hQ fun _ _ x => x
end L2
namespace L2
open PySem PySem.Spec PyProof.Rows
section
variable {X : Cx}
def tVar (i : Nat) : TE := fun σ H Q => ∃ v, σ[i]? = some (some v) ∧ Q v H
def tC (v : V) : TE := fun _ H Q => Q v H
theorem pe_var {i : Nat} {x : Str} {pos : Pos} (hN : X.N[i]? = some x) (hv : Vis X.env.scope x) (hd : (x == ("__debug__" : Str)) = false := by decide) (hcd : (x == ("__classdict__" : Str)) = false := by decide) : PE X (.Name x pos) (tVar i) := .mk <| by
  intro pins s σ H Q I h
  obtain ⟨v, e, h⟩ := h
  obtain ⟨m, hn, hl⟩ := I.loc
  obtain ⟨u, r, l⟩ := hl i x v hN e hv
  have fin : EP X pins σ Q u s := ⟨v, H, I, r, h⟩
  rcases l with ⟨hk, hm⟩ | ⟨hk, c, hc, hcell⟩
  · exact wpAny_Name (wpAny_loadName_local I.ok.kind hk hn hm fin) hd
  · rcases hk with hk | hk
    · exact wpAny_Name (wpAny_loadName_cell I.ok.kind hk hc hcell fin) hd
    · exact wpAny_Name (wpAny_loadName_free I.ok.kind hk hc hcell fin hcd) hd
theorem pe_int {i j pos} : PE X (.Constant (.int i) j pos) (tC (.int i)) := .mk <| fun _ _ _ H _ I h => wpAny_Constant_int ⟨.int i, H, I.tok _, ⟨_, rfl⟩, h⟩
theorem pe_bl {b j pos} : PE X (.Constant (.bool b) j pos) (tC (.bl b)) := .mk <| fun _ _ _ H _ I h => Constant_bool ⟨.bl b, H, I, rfl, h⟩
theorem pe_str {x j pos} : PE X (.Constant (.str x) j pos) (tC (.str x)) := .mk <| fun _ _ _ H _ I h => Calls.Constant_str ⟨.str x, H, I.tok _, ⟨_, rfl⟩, h⟩
def Gl (X : Cx) (x : Str) : Prop := X.env.kindOf x = some .globalImplicit
theorem ld_glob {E : Value → Shared → Prop} {pins : List (Addr × Obj)} {s : Shared} {σ : St} {H : Hp} {x : Str} {u : Value} {pos : Pos} {Q : Value → Shared → Prop} (I : Inv X pins σ H s) (hg : Gl X x) (hm : X.mg x = some u) (h : Q u s)
    (hd : (x == ("__debug__" : Str)) = false := by decide) : wpAny (model X.prog X.w) X.A (eval (.Name x pos) X.env) Q E s :=
  Calls.Name_function_global I.ok.kind hg (Calls.loadGlobal_global (by rw [I.ok.glob]; exact I.mod.glob.keeps I.bk) hm h) hd
theorem ld_blt {E : Value → Shared → Prop} {pins : List (Addr × Obj)} {s : Shared} {σ : St} {H : Hp} {x : Str} {u : Value} {pos : Pos} {Q : Value → Shared → Prop} (I : Inv X pins σ H s) (hg : Gl X x) (hm : X.mg x = none) (hv : bootBuiltins x = some u) (h : Q u s)
    (hn : x ≠ "__name__" := by decide) (hd : (x == ("__debug__" : Str)) = false := by decide) : wpAny (model X.prog X.w) X.A (eval (.Name x pos) X.env) Q E s := by
  obtain ⟨mb, h1, h2⟩ := I.mod.blt
  exact Calls.Name_function_global I.ok.kind hg (Calls.loadGlobal_builtin (by rw [I.ok.glob]; exact I.mod.glob.keeps I.bk) hm (by rw [I.ok.blt]; exact h1.keeps I.bk) ((h2 x hn).trans hv) h) hd
theorem pe_bltn {x : Str} {v : V} {u : Value} {pos : Pos} (hg : Gl X x) (hm : X.mg x = none) (hv : bootBuiltins x = some u) (r : RelV v u) (hn : x ≠ "__name__" := by decide) (hd : (x == ("__debug__" : Str)) = false := by decide) : PE X (.Name x pos) (tC v) := .mk <|
  fun _ _ _ H _ I h => ld_blt I hg hm hv ⟨v, H, I, r, h⟩ hn hd
variable {a b : Expr} {ta tb : TE} {pos : Pos}
variable {tA tB' : TT} {rest : List Expr}
def tAnd (t u : TT) : TT := fun σ H Q => t σ H fun c H1 => if c = true then u σ H1 Q else Q false H1
def tOr (t u : TT) : TT := fun σ H Q => t σ H fun c H1 => if c = true then Q true H1 else u σ H1 Q
def tNot (t : TT) : TT := fun σ H Q => t σ H fun c H1 => Q (!c) H1
theorem pw_and1 (ha : PT X a tA) : PW X (.BoolOp .And [a] pos) tA := by
  intro wh pins s σ H Q I h
  refine isTrue_and (thn (ha pins s σ H Q I h) fun c s1 e => ?_)
  cases c with
  | true => exact isTrue_and_nil e
  | false => exact e
theorem pw_or1 (ha : PT X a tA) : PW X (.BoolOp .Or [a] pos) tA := by
  intro wh pins s σ H Q I h
  refine isTrue_or (thn (ha pins s σ H Q I h) fun c s1 e => ?_)
  cases c with
  | false => exact isTrue_or_nil e
  | true => exact e
theorem pw_and (ha : PT X a tA) (hb : PW X (.BoolOp .And (b :: rest) pos) tB') : PW X (.BoolOp .And (a :: b :: rest) pos) (tAnd tA tB') := by
  intro wh pins s σ H Q I h
  refine isTrue_and (thn (ha pins s σ H _ I h) fun c s1 ⟨H1, I1, q1⟩ => ?_)
  cases c with
  | true => exact hb wh pins s1 σ H1 Q I1 q1
  | false => exact ⟨H1, I1, q1⟩
theorem pw_or (ha : PT X a tA) (hb : PW X (.BoolOp .Or (b :: rest) pos) tB') : PW X (.BoolOp .Or (a :: b :: rest) pos) (tOr tA tB') := by
  intro wh pins s σ H Q I h
  refine isTrue_or (thn (ha pins s σ H _ I h) fun c s1 ⟨H1, I1, q1⟩ => ?_)
  cases c with
  | true => exact ⟨H1, I1, q1⟩
  | false => exact hb wh pins s1 σ H1 Q I1 q1
theorem pt_not (ha : PT X a tA) : PT X (.UnaryOp .Not a pos) (tNot tA) := by
  intro pins s σ H Q I h
  exact isTrue_not (ha pins s σ H (fun c H1 => Q (!c) H1) I h)
theorem pe_one {op} {t : TE} (h : PE X a t) : PE X (.BoolOp op [a] pos) t := .mk <| fun pins s σ H Q I hw => BoolOp_one (h pins s σ H Q I hw)
end
end L2
namespace L2
open PySem PySem.Spec PyProof.Rows
def SqL (K : PySem.W.Frag) (H : Hp) (a : Addr) (xs : List V) : Prop :=
  Rd H a (.lst xs) ∨
    ∃ (o : Obj) (its : Array Value) (n : Nat), K.lookup a = some o ∧ o.cls = .type "list" ∧ o.dict = none ∧ o.data = .seq its n ∧ its.size ≤ sizeLine ∧ Vals xs its.toList
def SqT (K : PySem.W.Frag) (H : Hp) (a : Addr) (xs : List V) : Prop :=
  Rd H a (.tup xs) ∨
    ∃ (o : Obj) (its : Array Value) (n : Nat), K.lookup a = some o ∧ o.cls = .type "tuple" ∧ o.data = .seq its n ∧ its.size ≤ sizeLine ∧ Vals xs its.toList
def absV : Value → Option V
  | .none => some .non
  | .bool b => some (.bl b)
  | .int i _ => some (.int i)
  | .str x _ => some (.str x)
  | .bytes b _ => some (.byt b)
  | .float b _ => some (.flt b)
  | .ref a => some (.ref a)
  | .type n => some (.ty n)
  | _ => none
theorem RelV.abs {x : V} {u : Value} (r : RelV x u) : absV u = some x := by
  cases x with
  | non => cases r; rfl
  | bl _ => cases r; rfl
  | int _ => obtain ⟨t, rfl⟩ := r; rfl
  | str _ => obtain ⟨t, rfl⟩ := r; rfl
  | byt _ => obtain ⟨t, rfl⟩ := r; rfl
  | flt _ => obtain ⟨t, rfl⟩ := r; rfl
  | ref _ => cases r; rfl
  | ty _ => cases r; rfl
theorem RelV.inj {x y : V} {u : Value} (r : RelV x u) (q : RelV y u) : x = y := Option.some.inj (r.abs.symm.trans q.abs)
theorem Vals.inj : ∀ {xs ys : List V} {us : List Value}, Vals xs us → Vals ys us → xs = ys
  | _, _, _, .nil, .nil => rfl
  | _, _, _, .cons r t, .cons r' t' => by rw [r.inj r', Vals.inj t t']
section
variable {X : Cx} {pins : List (Addr × Obj)} {σ : St} {H : Hp} {s : Shared} {a : Addr} {xs ys : List V}
theorem SqL.of {K : PySem.W.Frag} (h : H a = some (.lst xs)) : SqL K H a xs := .inl (.inl h)
theorem SqT.of {K : PySem.W.Frag} (h : H a = some (.tup xs)) : SqT K H a xs := .inl (.inl h)
theorem Inv.list (I : Inv X pins σ H s) (h : SqL X.K H a xs) : ∃ its : List Value, Vals xs its ∧ PlainL s.heap a its.toArray ∧ xs.length ≤ sizeLine := by
  rcases h with h | ⟨o, its, n, hk, hc, hd, hs, hz, r⟩
  · obtain ⟨z, its, n, r, e⟩ := h.ok I.hok
    exact ⟨its, r, ⟨_, n, e, rfl, rfl, rfl⟩, z⟩
  · refine ⟨its.toList, r, ⟨o, n, I.kIn a o hk, hc, hd, by simpa using hs⟩, ?_⟩
    have e := r.length
    simp only [Array.length_toList] at e
    omega
theorem Inv.tuple (I : Inv X pins σ H s) (h : SqT X.K H a xs) : ∃ its : List Value, Vals xs its ∧ IsTup s.heap a its.toArray ∧ xs.length ≤ sizeLine := by
  rcases h with h | ⟨o, its, n, hk, hc, hs, hz, r⟩
  · obtain ⟨z, its, r, p⟩ := h.ok I.hok
    exact ⟨its, r, p.1, z⟩
  · refine ⟨its.toList, r, ⟨o, I.kIn a o hk, hc, n, by simpa using hs⟩, ?_⟩
    have e := r.length
    simp only [Array.length_toList] at e
    omega
theorem Inv.list_inj (I : Inv X pins σ H s) (h : SqL X.K H a xs) (h' : SqL X.K H a ys) : xs = ys := by
  obtain ⟨its, r, ⟨o, n, e, _, _, d⟩, _⟩ := I.list h
  obtain ⟨its', r', ⟨o', n', e', _, _, d'⟩, _⟩ := I.list h'
  rw [e] at e'; cases e'
  rw [d] at d'
  injection d' with d1 _
  have : its = its' := by simpa using congrArg Array.toList d1
  subst this
  exact r.inj r'
theorem Inv.tuple_inj (I : Inv X pins σ H s) (h : SqT X.K H a xs) (h' : SqT X.K H a ys) : xs = ys := by
  obtain ⟨its, r, ⟨o, e, _, n, d⟩, _⟩ := I.tuple h
  obtain ⟨its', r', ⟨o', e', _, n', d'⟩, _⟩ := I.tuple h'
  rw [e] at e'; cases e'
  rw [d] at d'
  injection d' with d1 _
  have : its = its' := by simpa using congrArg Array.toList d1
  subst this
  exact r.inj r'
end
abbrev Cx.wish (X : Cx) (E : Value → Shared → Prop) : Cx := { X with xe := E }
abbrev Cx.nox (X : Cx) : Cx := X.wish fun _ _ => False
theorem Cx.Ok.wish {X : Cx} (ok : X.Ok) (E : Value → Shared → Prop) : (X.wish E).Ok :=
  ⟨ok.mod, ok.kind, ok.glob, ok.blt, ok.above, ok.inj, ok.has, ok.cab, ok.hd, ok.frames, ok.stk, ok.exf, ok.bs, ok.bsz, ok.noex, ok.exfs, ok.funs, ok.frf, ok.tt⟩
theorem Cx.Ok.unwish {X : Cx} {E : Value → Shared → Prop} (ok : (X.wish E).Ok) : X.Ok :=
  ⟨ok.mod, ok.kind, ok.glob, ok.blt, ok.above, ok.inj, ok.has, ok.cab, ok.hd, ok.frames, ok.stk, ok.exf, ok.bs, ok.bsz, ok.noex, ok.exfs, ok.funs, ok.frf, ok.tt⟩
section
variable {X : Cx} {pins : List (Addr × Obj)} {σ : St} {H : Hp} {s : Shared} {E : Value → Shared → Prop}
theorem Inv.wish (I : Inv X pins σ H s) (E : Value → Shared → Prop) : Inv (X.wish E) pins σ H s := ⟨I.ok.wish E, I.os, I.bare, I.base, I.loc, I.cell, I.free, I.freeC, I.pin, I.hok, I.len⟩
theorem Inv.unwish (I : Inv (X.wish E) pins σ H s) : Inv X pins σ H s := ⟨I.ok.unwish, I.os, I.bare, I.base, I.loc, I.cell, I.free, I.freeC, I.pin, I.hok, I.len⟩
theorem SP.unwish {D : Ends} {f : Flow} {s' : Shared} (h : SP (X.wish E) pins D f s') : SP X pins D f s' := by
  cases f with
  | next => obtain ⟨σ', H', I, q⟩ := h; exact ⟨σ', H', I.unwish, q⟩
  | brk => obtain ⟨σ', H', I, q⟩ := h; exact ⟨σ', H', I.unwish, q⟩
  | cont => obtain ⟨σ', H', I, q⟩ := h; exact ⟨σ', H', I.unwish, q⟩
  | ret u => obtain ⟨v, σ', H', I, r, q⟩ := h; exact ⟨v, σ', H', I.unwish, r, q⟩
theorem PSs.nox {st : List Stmt} {t : TS} (h : PSs X.nox st t) : PSs X st t := .mk <| fun pins s σ H D I hw =>
  wpAny_mono (h pins s σ H D (I.wish _) hw) (fun _ _ q => q.unwish) fun _ _ z => False.elim z
end
section
variable {X : Cx} {st : Stmt} {rest : List Stmt} {t u : TS} {e : Expr} {te : TE} {pos : Pos}
def tNext : TS := fun D σ H => D.nx σ H
def tSeq (t u : TS) : TS := fun D σ H => t { D with nx := u D } σ H
theorem pss_nil : PSs X [] tNext := .mk <| fun _ _ σ H _ I h => wpAny_execs_nil ⟨σ, H, I, h⟩
theorem pss_cons (h1 : PS X st t) (h2 : PSs X rest u) : PSs X (st :: rest) (tSeq t u) := .mk <| by
  intro pins s σ H D I h
  refine wpAny_execs_cons (thn (h1 pins s σ H { D with nx := u D } I h) fun f s1 q => ?_)
  cases f with
  | next =>
    obtain ⟨σ', H', I', q⟩ := q
    exact h2 pins s1 σ' H' D I' q
  | ret v => exact q
  | brk => exact q
  | cont => exact q
theorem pss_one (h1 : PS X st t) : PSs X [st] t := .mk <| by
  intro pins s σ H D I h
  refine wpAny_execs_cons (thn (h1 pins s σ H D I h) fun f s1 q => ?_)
  cases f with
  | next => exact wpAny_execs_nil q
  | ret v => exact q
  | brk => exact q
  | cont => exact q
theorem Inv.quiet {pins : List (Addr × Obj)} {σ : St} {H : Hp} {s : Shared} (I : Inv X pins σ H s) : interactive X.env = false := by simp [interactive, I.ok.kind]
def tDrop (te : TE) : TS := fun D σ H => te σ H fun _ H1 => D.nx σ H1
theorem ps_expr (he : PE X e te) (hs : swapsWith e none pos.line X.env = pure false := by rfl) : PS X (.Expr e pos) (tDrop te) := .mk <| by
  intro pins s σ H D I h
  exact wpAny_Expr_any (thn (he pins s σ H _ I h) fun v s1 ⟨x, H1, I1, r1, q1⟩ => ⟨σ, H1, I1, q1⟩) I.quiet hs
def tRet (te : TE) : TS := fun D σ H => te σ H D.rt
theorem ps_ret (he : PE X e te) : PS X (.Return (some e) pos) (tRet te) := .mk <| by
  intro pins s σ H D I h
  exact wpAny_Return_some (thn (he pins s σ H _ I h) fun v s1 ⟨x, H1, I1, r1, q1⟩ => ⟨x, σ, H1, I1, r1, q1⟩)
def tIfS (c : TT) (t u : TS) : TS := fun D σ H => c σ H fun b H1 => if b = true then t D σ H1 else u D σ H1
theorem ps_if {c : Expr} {a b : List Stmt} {tc : TT} (hc : PT X c tc) (ha : PSs X a t) (hb : PSs X b u) : PS X (.If c a b pos) (tIfS tc t u) := .mk <| by
  intro pins s σ H D I h
  refine wpAny_If (thn (hc pins s σ H _ I h) fun d s1 ⟨H1, I1, q1⟩ => ?_)
  cases d with
  | true => exact ha pins s1 σ H1 D I1 q1
  | false => exact hb pins s1 σ H1 D I1 q1
end
abbrev TG := V → St → Hp → (St → Hp → Prop) → Prop
abbrev TGs := List V → St → Hp → (St → Hp → Prop) → Prop
def PG (X : Cx) (target : Expr) (t : TG) : Prop :=
  ∀ (pins : List (Addr × Obj)) (s : Shared) (σ : St) (H : Hp) (v : V) (u : Value) (Q : St → Hp → Prop), Inv X pins σ H s → RelV v u → t v σ H Q →
    wpAny (model X.prog X.w) X.A (assign target X.env u) (fun _ s' => ∃ σ' H', Inv X pins σ' H' s' ∧ Q σ' H') X.xe s
def PGs (X : Cx) (ts : List Expr) (t : TGs) : Prop :=
  ∀ (pins : List (Addr × Obj)) (s : Shared) (σ : St) (H : Hp) (vs : List V) (us : List Value) (Q : St → Hp → Prop), Inv X pins σ H s → Vals vs us → t vs σ H Q →
    wpAny (model X.prog X.w) X.A (assignInOrder ((assignEach ts X.env).map (·.2)) us) (fun _ s' => ∃ σ' H', Inv X pins σ' H' s' ∧ Q σ' H') X.xe s
abbrev TSet := V → V → V → Hp → (Hp → Prop) → Prop
def PSet (X : Cx) (t : TSet) : Prop :=
  ∀ (pins : List (Addr × Obj)) (s : Shared) (σ : St) (H : Hp) (o i v : V) (ov iv u : Value) (Q : Hp → Prop), Inv X pins σ H s → RelV o ov → RelV i iv → RelV v u → t o i v H Q →
    wpAny (model X.prog X.w) X.A (setItem ov iv u) (fun _ s' => ∃ H', Inv X pins σ H' s' ∧ Q H') X.xe s
section
variable {X : Cx} {pos : Pos}
def gName (i : Nat) : TG := fun v σ H Q => Q (σ.set i (some v)) H
theorem pg_name {i : Nat} {x : Str} (hN : X.N.Nodup) (hi : X.N[i]? = some x) (hx : Loc X.env.scope x) (hf : X.fn x = true ∨ X.env.scope.names.lookup x = some .local := by first | exact .inl rfl | exact .inr rfl | assumption) : PG X (.Name x pos) (gName i) := by
  intro pins s σ H v u Q I r h
  exact wpAny_assign_Name (store_ok I hN hi hx r (fun s' I' => ⟨_, H, I', h⟩) hf)
def gNil : TGs := fun vs σ H Q => vs = [] ∧ Q σ H
def gCons (t : TG) (u : TGs) : TGs := fun vs σ H Q => ∃ v r, vs = v :: r ∧ t v σ H fun σ' H' => u r σ' H' Q
theorem pgs_nil : PGs X [] gNil := by
  intro pins s σ H vs us Q I r h
  obtain ⟨e, h⟩ := h
  subst e
  cases r
  exact assignInOrder_nil ⟨σ, H, I, h⟩
theorem pgs_cons {e : Expr} {es : List Expr} {t : TG} {u : TGs} (h1 : PG X e t) (h2 : PGs X es u)
    (hs : (assignEach (e :: es) X.env).map (·.2) = assign e X.env :: (assignEach es X.env).map (·.2) := by rfl) : PGs X (e :: es) (gCons t u) := by
  intro pins s σ H vs us Q I r h
  obtain ⟨v, vr, e1, h⟩ := h
  subst e1
  cases r with
  | cons r rr =>
    rw [hs]
    refine assignInOrder_cons (thn (h1 pins s σ H _ _ _ I r h) fun _ s1 ⟨σ1, H1, I1, q1⟩ => ?_)
    exact h2 pins s1 σ1 H1 _ _ Q I1 rr q1
def gTup (K : PySem.W.Frag) (n : Nat) (t : TGs) : TG := fun v σ H Q => ∃ a xs, v = .ref a ∧ SqT K H a xs ∧ xs.length = n ∧ t xs σ H Q
theorem pg_tup {es : List Expr} {k : Nat} {t : TGs} {n : Nat} (hc : X.calm = true) (h : PGs X es t)
    (hn : (assignEach es X.env).length = n := by rfl) (hst : (assignEach es X.env).findIdx? (·.1) = none := by rfl) : PG X (.Tuple es k pos) (gTup X.K n t) := by
  intro pins s σ H v u Q I r hw
  obtain ⟨a, xs, e1, hq, hl, hw⟩ := hw
  subst e1
  cases r
  obtain ⟨its, rv, ht, hz⟩ := I.tuple hq
  refine assign_Tuple_tuple (I.ok.hd hc) ht (by simp [hn, ← hl, rv.length]) hst fun h' hx => ?_
  have I1 : Inv X pins σ H { s with heap := h' } := I.kept (t' := s.toks) fun b o e => hx b o (Nat.ne_of_lt (Heap.lt_size e)) e
  exact h pins _ σ H xs _ Q I1 (by simpa using rv) hw
def gSub (to ti : TE) (t : TSet) : TG := fun v σ H Q => to σ H fun o H1 => ti σ H1 fun i H2 => t o i v H2 fun H3 => Q σ H3
theorem pg_sub {o i : Expr} {to ti : TE} {t : TSet} (ho : PE X o to) (hi : PE X i ti) (hs : PSet X t)
    (ha : ∀ v, assign (.Subscript o i pos) X.env v = (do
      let ov ← holding [v] (eval o X.env)
      let iv ← holding [v, ov] (eval i X.env)
      standAt pos
      holding [v, ov, iv] (setItem ov iv v)
      release [v, ov, iv] []) := by intro _; rfl) : PG X (.Subscript o i pos) (gSub to ti t) := by
  intro pins s σ H v u Q I r h
  rw [ha]
  refine wpAny_bind (wpAny_holding (thn (ho pins s σ H _ I h) fun ov s1 ⟨x, H1, I1, r1, q1⟩ => ?_))
  refine wpAny_bind (wpAny_holding (thn (hi pins s1 σ H1 _ I1 q1) fun iv s2 ⟨y, H2, I2, r2, q2⟩ => ?_))
  refine wpAny_bind (wpAny_standAt (wpAny_bind (wpAny_holding (thn (hs pins s2 σ H2 x y v ov iv u _ I2 r1 r2 r q2) fun _ s3 ⟨H3, I3, q3⟩ => ?_))))
  exact wpAny_release ⟨σ, H3, I3, q3⟩
def tAsg (te : TE) (g : TG) : TS := fun D σ H => te σ H fun x H1 => g x σ H1 D.nx
theorem ps_asg {tg e : Expr} {te : TE} {g : TG} (he : PE X e te) (hg : PG X tg g) (hs : swapsWithSole [tg] e pos.line X.env = pure false := by rfl) (hw : swappedStores [tg] e X.env = pure none := by rfl)
    (h1 : (assignEach [tg] X.env).map (·.2) = [assign tg X.env] := by rfl) : PS X (.Assign [tg] e pos) (tAsg te g) := .mk <| by
  intro pins s σ H D I h
  refine wpAny_Assign_stores (thn (he pins s σ H _ I h) fun v s1 ⟨x, H1, I1, r1, q1⟩ => ?_) hs hw
  rw [h1]
  exact thn (hg pins s1 σ H1 x v _ I1 r1 q1) fun _ s2 q => q
theorem ps_set {i : Nat} {x : Str} {e : Expr} {te : TE} {pos' : Pos} (hN : X.N.Nodup) (hi : X.N[i]? = some x) (hx : Loc X.env.scope x) (he : PE X e te) (hs : swapsWith e (some (.Name x pos')) pos.line X.env = pure false := by rfl) (hf : X.fn x = true ∨ X.env.scope.names.lookup x = some .local := by first | exact .inl rfl | exact .inr rfl | assumption) :
    PS X (.Assign [.Name x pos'] e pos) (tAsg te (gName i)) := .mk <| by
  intro pins s σ H D I h
  refine wpAny_Assign_Name (thn (he pins s σ H _ I h) fun v s1 ⟨y, H1, I1, r1, q1⟩ => ?_) hs
  exact store_ok I1 hN hi hx r1 (fun s2 I2 => ⟨_, H1, I2, q1⟩) hf
def tPar (i j : Nat) (ta : TA) : TS := fun D σ H => ta σ H fun vs H1 => ∃ v w, vs = [v, w] ∧ D.nx ((σ.set i (some v)).set j (some w)) H1
theorem ps_par {i j : Nat} {x y : Str} {a b : Expr} {ta : TA} {px py pt : Pos} {kt k2 pt2} (hc : X.calm = true) (hN : X.N.Nodup) (hi : X.N[i]? = some x) (hj : X.N[j]? = some y) (hij : i ≠ j)
    (hx : X.env.scope.names.lookup x = some .local) (hy : X.env.scope.names.lookup y = some .local) (ha : PA X [a, b] ta)
    (hw : swappedStores [.Tuple [.Name x px, .Name y py] kt pt] (.Tuple [a, b] k2 pt2) X.env = pure (some [x, y]))
    (hs : swapsWithSole [.Tuple [.Name x px, .Name y py] kt pt] (.Tuple [a, b] k2 pt2) pos.line X.env = pure false := by rfl) :
    PS X (.Assign [.Tuple [.Name x px, .Name y py] kt pt] (.Tuple [a, b] k2 pt2) pos) (tPar i j ta) := .mk <| by
  intro pins s σ H D I h
  rw [exec_Assign_arm]
  refine wpAny_bind (wpAny_standAt ?_)
  rw [hs]
  refine wpAny_bind (wpAny_pure ?_)
  rw [if_neg (by decide)]
  refine wpAny_bind (Tuple_ (thn (ha _ pins s σ H _ I h) fun us s1 ⟨vs, H1, I1, r1, q1⟩ => ?_))
  obtain ⟨v, w, e1, q1⟩ := q1
  subst e1
  obtain ⟨u1, u2, rfl, rv, rw'⟩ : ∃ u1 u2, us = [u1, u2] ∧ RelV v u1 ∧ RelV w u2 := by
    cases r1 with
    | cons p q =>
      cases q with
      | cons p' q' =>
        cases q'
        exact ⟨_, _, rfl, p, p'⟩
  refine wpAny_newObj_type ?_ (by show 2 ≤ sizeLine; decide)
  have I2 : Inv X pins σ H1 { s1 with heap := s1.heap.push { cls := .type "tuple", data := .seq [u1, u2].toArray } } := I1.kept (t' := s1.toks) fun b o e => Heap.get?_push_of_some _ e
  rw [hw]
  refine wpAny_bind (wpAny_pure ?_)
  show wpAny (model X.prog X.w) X.A (do rule "assign.swapped-stores"; let items ← unpackItems (.ref s1.heap.objs.size) 2 none; assignInOrder [fun v => bindName X.env y v, fun v => bindName X.env x v] items.reverse; pure Flow.next) _ _ _
  refine wpAny_bind (wpAny_rule (wpAny_bind (unpackItems_tuple (items := #[u1, u2]) (I.ok.hd hc) (IsTup.new s1.heap _) fun h' hx' => ?_)))
  have I3 := I2.kept (h' := h') (t' := s1.toks) fun b o e => hx' b o (Nat.ne_of_lt (Heap.lt_size e)) e
  show wpAny _ _ (assignInOrder [fun v => bindName X.env y v, fun v => bindName X.env x v] [u2, u1] >>= fun _ => pure Flow.next) _ _ _
  refine wpAny_bind (assignInOrder_cons (wpAny_bindName (store_ok I3 hN hj (.inl hy) rw' (fun s2 I4 => ?_) (.inr hy))))
  refine assignInOrder_cons (wpAny_bindName (store_ok I4 hN hi (.inl hx) rv (fun s3 I5 => assignInOrder_nil (wpAny_pure ?_)) (.inr hx)))
  rw [List.set_comm _ _ (Ne.symm hij)] at I5
  exact ⟨_, H1, I5, q1⟩
end
section
variable {X : Cx} {pos : Pos}
end
structure It where
  go : Nat → Hp → Prop
  yld : Nat → Hp → V → Hp → Prop
  stop : Nat → Hp → Prop
def FpOk (X : Cx) (pins : List (Addr × Obj)) (H : Hp) (b : Addr) : Prop :=
  H b = none ∧ b ≠ X.env.locals ∧ b ∉ X.fs ∧ (b ∈ X.ex ∨ X.s₀.heap.objs.size ≤ b) ∧ (∀ x c, X.env.cells.lookup x = some c → c ≠ b) ∧ ∀ p ∈ X.pn ++ pins, p.1 ≠ b
theorem Inv.fpOk {X : Cx} {pins : List (Addr × Obj)} {σ : St} {H H' : Hp} {s : Shared} {b : Addr} (I : Inv X pins σ H s) (hb : s.heap.objs.size ≤ b) (hn : H' b = none) : FpOk X pins H' b := by
  refine ⟨hn, Nat.ne_of_gt (Nat.lt_of_lt_of_le I.lt hb), I.nofs hb, .inr (Nat.le_trans I.sz hb), fun x c e z => ?_, fun p hp z => ?_⟩
  · obtain ⟨v, q⟩ := I.cell x c e
    exact absurd (Nat.lt_of_lt_of_le q.lt (by rw [z]; exact hb)) (Nat.lt_irrefl _)
  · exact absurd (Nat.lt_of_lt_of_le (Heap.lt_size (I.pin p hp).1) (by rw [z]; exact hb)) (Nat.lt_irrefl _)
structure Turn (P : Program) (w : World) (K : PySem.W.Frag) (tg : Expr) (J : It) (fp : List Addr) (it : Addr) (tn : Nat → Heap → Prop) : Prop where
  mem : it ∈ fp
  obj : ∀ i h, tn i h → ∀ b ∈ fp, ∃ o, h.get? b = some o ∧ ∀ v, o.data ≠ .cell v
  keep : ∀ i h h', tn i h → (∀ b ∈ fp, ∀ o, h.get? b = some o → h'.get? b = some o) → tn i h'
  item : ∀ (X : Cx), X.prog = P → X.w = w → X.K = K → X.calm = true → ∀ (i : Nat) (pins : List (Addr × Obj)) (s : Shared) (σ : St) (H : Hp) (E : Value → Shared → Prop), Inv X pins σ H s → (∀ b ∈ fp, FpOk X pins H b) → tn i s.heap → J.go i H →
    wpAny (model P w) X.A (pyNext (.ref it)) (fun r s1 => ∃ u, r = some u ∧
      wpAny (model P w) X.A (letOwnedTupleGo tg (.ref it) u) (fun _ s2 => ∃ x H', Inv X pins σ H' s2 ∧ RelV x u ∧ J.yld i H x H' ∧ tn (i + 1) s2.heap ∧ ∀ b ∈ fp, H' b = none) E s1) E s
  done : ∀ (X : Cx), X.prog = P → X.w = w → X.K = K → X.calm = true → ∀ (i : Nat) (pins : List (Addr × Obj)) (s : Shared) (σ : St) (H : Hp) (E : Value → Shared → Prop), Inv X pins σ H s → (∀ b ∈ fp, FpOk X pins H b) → tn i s.heap → J.stop i H →
    wpAny (model P w) X.A (pyNext (.ref it)) (fun r s1 => r = none ∧ Inv X pins σ H s1) E s
  self : ∀ (A : Around) (i : Nat) (s : Shared) (Q : Value → Shared → Prop) (E : Value → Shared → Prop), tn i s.heap → Q (.ref it) s → wpAny (model P w) A (pyIter (.ref it)) Q E s
abbrev TI := St → Hp → (It → Hp → Prop) → Prop
def PIE (X : Cx) (pins : List (Addr × Obj)) (σ : St) (tg : Expr) (R : It → Hp → Prop) (itv : Value) (s2 : Shared) : Prop :=
  ∃ (it : Addr) (fp : List Addr) (tn : Nat → Heap → Prop) (J : It) (H' : Hp), itv = .ref it ∧ Inv X pins σ H' s2 ∧ Turn X.prog X.w X.K tg J fp it tn ∧ tn 0 s2.heap ∧ (∀ b ∈ fp, FpOk X pins H' b) ∧ R J H'
def PI (X : Cx) (tg iter : Expr) (wi : TI) : Prop :=
  ∀ (pins : List (Addr × Obj)) (s : Shared) (σ : St) (H : Hp) (R : It → Hp → Prop), Inv X pins σ H s → wi σ H R →
    wpAny (model X.prog X.w) X.A (eval iter X.env) (fun v s1 => wpAny (model X.prog X.w) X.A (pyIter v) (PIE X pins σ tg R) X.xe s1) X.xe s
theorem go_of {M : Model} {A : Around} {E : Value → Shared → Prop} {s : Shared} {tg : Expr} {it : Addr} {u : Value} {o : Obj} {n : String} {vs : Array Value} {Q : Unit → Shared → Prop} (ho : s.heap.get? it = some o) (hc : o.cls = .type n) (hd : o.data = .fields vs)
    (hn : ["enumerate", "zip", "dict_itemiterator", "dict_reverseitemiterator", "odict_iterator", "itertools.zip_longest", "itertools.pairwise"].contains n = false) (hQ : Q () s) : wpAny M A (letOwnedTupleGo tg (.ref it) u) Q E s := by
  unfold letOwnedTupleGo
  cases tg <;> first
    | exact wpAny_pure hQ
    | (cases u <;> first
        | exact wpAny_pure hQ
        | (refine wpAny_bind (wpAny_load ho ?_)
           rw [hc, hd]
           show wpAny M A (if (["enumerate", "zip", "dict_itemiterator", "dict_reverseitemiterator", "odict_iterator", "itertools.zip_longest", "itertools.pairwise"].contains n && vs[0]? == some (rawInt _)) = true then _ else _) Q E s
           rw [if_neg (by intro h; rw [hn, Bool.false_and] at h; cases h)]
           exact wpAny_pure hQ))
def Itl (K : PySem.W.Frag) (a : Addr) : It :=
  ⟨fun i H => ∃ xs x, SqL K H a xs ∧ xs[i]? = some x, fun i H x H' => H' = H ∧ ∀ xs, SqL K H a xs → xs[i]? = some x, fun i H => ∃ xs, SqL K H a xs ∧ xs.length ≤ i⟩
def Itt (K : PySem.W.Frag) (a : Addr) : It :=
  ⟨fun i H => ∃ xs x, SqT K H a xs ∧ xs[i]? = some x, fun i H x H' => H' = H ∧ ∀ xs, SqT K H a xs → xs[i]? = some x, fun i H => ∃ xs, SqT K H a xs ∧ xs.length ≤ i⟩
def Itr (lo : Int) (n : Nat) : It := ⟨fun i _ => i < n, fun i H x H' => H' = H ∧ x = .int (lo + i), fun i _ => n ≤ i⟩
theorem turn_list {P : Program} {w : World} {K : PySem.W.Frag} {tg : Expr} (a it : Addr) : Turn P w K tg (Itl K a) [it] it (fun i h => h.IsListIter it a i) where
  mem := by simp
  obj := fun i h st b hb => by
    have e : b = it := by simpa using hb
    subst e
    obtain ⟨o, e, c, d⟩ := st
    exact ⟨o, e, fun v z => by rw [d] at z; cases z⟩
  keep := fun i h h' st k => st.at fun o e => k it (by simp) o e
  item := by
    intro X hP hw hK hc i pins s σ H E I hf st hg
    subst hP hw hK
    obtain ⟨xs, x, hq, hx⟩ := hg
    obtain ⟨its, rv, p, hz⟩ := I.list hq
    obtain ⟨u, hu, ru⟩ := rv.get hx
    obtain ⟨f0, f1, f2, f3, f4, f5⟩ := hf it (by simp)
    refine wpAny_pyNext_list_item st p.isList (x := u) (by simpa using hu) fun h' st' sb => ?_
    have I1 : Inv X pins σ H { s with heap := h' } := I.turned (t' := s.toks) (fun b o hb e => (sb.2 b hb).trans e) f0 f1 f3 f4 f5
    obtain ⟨o, e, c, d⟩ := id st'
    exact ⟨u, rfl, go_of (s := { s with heap := h' }) e c d (by decide) ⟨x, H, I1, ru, ⟨rfl, fun ys hy => by rw [I.list_inj hy hq]; exact hx⟩, st', fun b hb => (hf b hb).1⟩⟩
  done := by
    intro X hP hw hK hc i pins s σ H E I hf st hg
    subst hP hw hK
    obtain ⟨xs, hq, hx⟩ := hg
    obtain ⟨its, rv, p, hz⟩ := I.list hq
    obtain ⟨f0, f1, f2, f3, f4, f5⟩ := hf it (by simp)
    have hl := rv.length
    exact wpAny_pyNext_list_end (I.ok.hd hc) st p.isList (by simp; omega) fun h' eb => ⟨rfl, I.turned (t' := s.toks) (fun b o hb e => eb b o hb e) f0 f1 f3 f4 f5⟩
  self := fun _ _ _ _ _ st h => wpAny_pyIter_listiter st h
theorem turn_tuple {P : Program} {w : World} {K : PySem.W.Frag} {tg : Expr} (a it : Addr) : Turn P w K tg (Itt K a) [it] it (fun i h => h.IsTupleIter it a i) where
  mem := by simp
  obj := fun i h st b hb => by
    have e : b = it := by simpa using hb
    subst e
    obtain ⟨o, e, c, d⟩ := st
    exact ⟨o, e, fun v z => by rw [d] at z; cases z⟩
  keep := fun i h h' st k => st.at fun o e => k it (by simp) o e
  item := by
    intro X hP hw hK hc i pins s σ H E I hf st hg
    subst hP hw hK
    obtain ⟨xs, x, hq, hx⟩ := hg
    obtain ⟨its, rv, p, hz⟩ := I.tuple hq
    obtain ⟨u, hu, ru⟩ := rv.get hx
    obtain ⟨f0, f1, f2, f3, f4, f5⟩ := hf it (by simp)
    refine wpAny_pyNext_tuple_item st (show s.heap.IsTuple a its.toArray from p) (x := u) (by simpa using hu) fun h' st' sb => ?_
    have I1 : Inv X pins σ H { s with heap := h' } := I.turned (t' := s.toks) (fun b o hb e => (sb.2 b hb).trans e) f0 f1 f3 f4 f5
    obtain ⟨o, e, c, d⟩ := id st'
    exact ⟨u, rfl, go_of (s := { s with heap := h' }) e c d (by decide) ⟨x, H, I1, ru, ⟨rfl, fun ys hy => by rw [I.tuple_inj hy hq]; exact hx⟩, st', fun b hb => (hf b hb).1⟩⟩
  done := by
    intro X hP hw hK hc i pins s σ H E I hf st hg
    subst hP hw hK
    obtain ⟨xs, hq, hx⟩ := hg
    obtain ⟨its, rv, p, hz⟩ := I.tuple hq
    obtain ⟨f0, f1, f2, f3, f4, f5⟩ := hf it (by simp)
    have hl := rv.length
    exact wpAny_pyNext_tuple_end (I.ok.hd hc) st (show s.heap.IsTuple a its.toArray from p) (by simp; omega) fun h' eb => ⟨rfl, I.turned (t' := s.toks) (fun b o hb e => eb b o hb e) f0 f1 f3 f4 f5⟩
  self := fun _ _ _ _ _ st h => wpAny_pyIter_tupleiter st h
theorem turn_range {P : Program} {w : World} {K : PySem.W.Frag} {tg : Expr} (it : Addr) (lo : Int) (n : Nat) : Turn P w K tg (Itr lo n) [it] it (fun i h => IsRangeIter h it (lo + (i : Nat) * 1) ((n : Int) - (i : Nat)) 1) where
  mem := by simp
  obj := fun i h st b hb => by
    have e : b = it := by simpa using hb
    subst e
    exact ⟨_, st, fun v z => by
      have z' : Data.fields _ = Data.cell v := z
      cases z'⟩
  keep := fun i h h' st k => k it (by simp) _ st
  item := by
    intro X hP hw hK hc i pins s σ H E I hf st hg
    subst hP hw hK
    obtain ⟨f0, f1, f2, f3, f4, f5⟩ := hf it (by simp)
    have W := Walks.range (prog := X.prog) (w := X.w) (I.ok.hd hc) it lo 1 n
    refine W.item i s _ _ hg st fun v h' tk hv st' kk => ?_
    obtain ⟨t, rfl⟩ := hv
    have I1 : Inv X pins σ H { s with heap := h', toks := tk } := I.turned (fun b o hb e => kk b o (by simpa using hb) e) f0 f1 f3 f4 f5
    refine ⟨_, rfl, go_of (s := { s with heap := h', toks := tk }) (n := "range_iterator") st' rfl rfl (by decide) ⟨.int (lo + i), H, I1, ⟨t, ?_⟩, ⟨rfl, rfl⟩, st', fun b hb => (hf b hb).1⟩⟩
    rw [Int.mul_one]
  done := by
    intro X hP hw hK hc i pins s σ H E I hf st hg
    subst hP hw hK
    obtain ⟨f0, f1, f2, f3, f4, f5⟩ := hf it (by simp)
    exact wpAny_pyNext_range_end (I.ok.hd hc) st (by have : n ≤ i := hg; omega) fun h' eb => ⟨rfl, I.turned (t' := s.toks) (fun b o hb e => eb b o hb e) f0 f1 f3 f4 f5⟩
  self := fun _ _ _ _ _ st h => wpAny_pyIter_rangeiter st h
end L2
namespace L2
open PySem PySem.Spec PyProof.Rows
section
variable {X : Cx} {tg : Expr}
theorem range_it {pins : List (Addr × Obj)} {σ : St} {H : Hp} {s : Shared} {R : It → Hp → Prop} {E : Value → Shared → Prop} {lo hi : Int} {t u v : Tok} {tk : Nat} (I : Inv X pins σ H s) (h1 : -(2 ^ 62) ≤ lo) (h2 : lo < 2 ^ 62) (h3 : -(2 ^ 62) ≤ hi) (h4 : hi < 2 ^ 62)
    (q : R (Itr lo (hi - lo).toNat) H) : wpAny (model X.prog X.w) X.A (pyIter (.ref s.heap.objs.size)) (PIE X pins σ tg R) E { s with heap := s.heap.push { cls := .type "range", data := .fields #[.int lo t, .int hi u, .int 1 v] }, toks := tk } := by
  refine wpAny_pyIter_range (IsRange.new ..) (small_one h1 h2 h3 h4) ?_
  have I1 : Inv X pins σ H { s with heap := s.heap.push { cls := .type "range", data := .fields #[.int lo t, .int hi u, .int 1 v] }, toks := tk } := I.kept fun b o e => Heap.get?_push_of_some _ e
  refine ⟨(s.heap.push { cls := .type "range", data := .fields #[.int lo t, .int hi u, .int 1 v] }).objs.size, [(s.heap.push { cls := .type "range", data := .fields #[.int lo t, .int hi u, .int 1 v] }).objs.size], _, _, H, rfl,
    I1.kept (t' := tk) fun b o e => Heap.get?_push_of_some _ e, turn_range _ lo (hi - lo).toNat, ?_, fun b hb => ?_, q⟩
  · have e1 : lo + ((0 : Nat) : Int) * 1 = lo := by simp
    have e2 : (((hi - lo).toNat : Nat) : Int) - ((0 : Nat) : Int) = Builtin.Range.rangeSize lo hi 1 := by rw [rangeSize_one]; split <;> omega
    show IsRangeIter _ _ (lo + ((0 : Nat) : Int) * 1) ((((hi - lo).toNat : Nat) : Int) - ((0 : Nat) : Int)) 1
    rw [e1, e2]
    exact Heap.get?_push_size _ rfl
  · have e : b = (s.heap.push { cls := .type "range", data := .fields #[.int lo t, .int hi u, .int 1 v] }).objs.size := by simpa using hb
    subst e
    exact I1.fpOk (Nat.le_refl _) (I1.hok.fresh (Nat.le_refl _))
def iRng1 (ta : TA) : TI := fun σ H R => ta σ H fun vs H1 => ∃ j : Int, vs = [.int j] ∧ -(2 ^ 62) ≤ j ∧ j < 2 ^ 62 ∧ R (Itr 0 j.toNat) H1
theorem pi_range1 {a : Expr} {ta : TA} {p pos : Pos} (hg : Gl X "range") (hm : X.mg "range" = none) (ha : PA X [a] ta) (hs : starEach [a] X.env = [(false, eval a X.env)] := by rfl) : PI X tg (.Call (.Name "range" p) [a] [] pos) (iRng1 ta) := by
  intro pins s σ H R I h
  refine Call_ (ld_blt I hg hm boot_range (PyProof.Rows.callWith_type1 (thn (ha pos pins s σ H _ I h) fun us s1 ⟨vs, H1, I1, r1, q1⟩ => ?_) hs rfl))
  obtain ⟨j, e, q1, q2, q⟩ := q1
  subst e
  cases r1 with
  | cons r rr =>
    cases rr
    obtain ⟨t, rfl⟩ := r
    exact call_range_1 (range_it I1 (by omega) (by omega) q1 q2 (by simpa using q))
def tFor (wi : TI) (g : TG) (tb : TS) : TS := fun D σ H => wi σ H fun J H1 => ∃ W : Nat → Nat → St → Hp → Prop, (∃ m, W 0 m σ H1) ∧ ∀ i m σ H, W i m σ H →
  (J.stop i H ∧ D.nx σ H) ∨ (J.go i H ∧ ∃ N : St → Hp → Prop, (∀ σ' H', N σ' H' → ∃ m', m' < m ∧ W (i + 1) m' σ' H') ∧ ∀ x H', J.yld i H x H' → g x σ H' fun σ2 H2 => tb { D with nx := N, ct := N, bk := D.nx } σ2 H2)
def pinsAt (fp : List Addr) (h : Heap) : List (Addr × Obj) := fp.filterMap fun b => (h.get? b).map fun o => (b, o)
theorem mem_pinsAt {fp : List Addr} {h : Heap} {b : Addr} {o : Obj} (hb : b ∈ fp) (e : h.get? b = some o) : (b, o) ∈ pinsAt fp h := List.mem_filterMap.mpr ⟨b, hb, by rw [e]; rfl⟩
theorem of_pinsAt {fp : List Addr} {h : Heap} {p : Addr × Obj} (hp : p ∈ pinsAt fp h) : p.1 ∈ fp ∧ h.get? p.1 = some p.2 := by
  obtain ⟨b, hb, e⟩ := List.mem_filterMap.mp hp
  cases q : h.get? b with
  | none => rw [q] at e; cases e
  | some o =>
    rw [q] at e
    have e' : (b, o) = p := Option.some.inj e
    subst e'
    exact ⟨hb, q⟩
theorem Inv.pinned {pins : List (Addr × Obj)} {σ : St} {H : Hp} {s : Shared} {fp : List Addr} (I : Inv X pins σ H s) (hf : ∀ b ∈ fp, FpOk X pins H b) (ho : ∀ b ∈ fp, ∃ o, s.heap.get? b = some o ∧ ∀ v, o.data ≠ .cell v) : Inv X (pins ++ pinsAt fp s.heap) σ H s :=
  I.pins_of fun p hp => (List.mem_append.mp hp).elim (fun z => I.pin p (List.mem_append_right _ z)) fun z => by
    obtain ⟨hb, e⟩ := of_pinsAt z
    obtain ⟨f0, f1, f2, _⟩ := hf p.1 hb
    obtain ⟨o, e', d⟩ := ho p.1 hb
    rw [e] at e'; cases e'
    exact ⟨e, f0, f1, f2, d⟩
theorem Inv.unpinned {pins pl : List (Addr × Obj)} {σ : St} {H : Hp} {s : Shared} (I : Inv X (pins ++ pl) σ H s) : Inv X pins σ H s := I.pins_of fun p hp => I.pin p (List.mem_append_right _ (List.mem_append_left _ hp))
theorem ps_for {iter : Expr} {body : List Stmt} {wi : TI} {g : TG} {tb : TS} {pos : Pos} (hp : PassesOwn (model X.prog X.w) X.A X.env X.xe) (hc : X.calm = true) (hi : PI X tg iter wi) (hg : PG X tg g) (hb : PSs X body tb)
    (hs : ∀ x, foldedSetIterable iter X.env x = pure x := by intro _; rfl) : PS X (.For tg iter body [] pos) (tFor wi g tb) := .mk <| by
  intro pins s σ H D I h
  refine wpAny_For (thn (hi pins s σ H _ I h) fun v s1 h1 => thn h1 fun itv s2 h2 => ?_) hs
  obtain ⟨it, fp, tn, J, H2, e, I2, T, st2, f2, W, ⟨m0, w0⟩, turn⟩ := h2
  subst e
  have stat : ∀ {H' : Hp}, (∀ b ∈ fp, H' b = none) → ∀ b ∈ fp, FpOk X pins H' b := fun hn b hb => ⟨hn b hb, (f2 b hb).2⟩
  refine codeAny_forLoop_any (fun n s' => ∃ i σ' H', Inv X pins σ' H' s' ∧ tn i s'.heap ∧ (∀ b ∈ fp, H' b = none) ∧ W i n σ' H') ?_ m0 ⟨0, σ, H2, I2, st2, fun b hb => (f2 b hb).1, w0⟩
  rintro n s3 ⟨i, σ3, H3, I3, st3, fr3, w3⟩
  rcases turn i n σ3 H3 w3 with ⟨stop, qn⟩ | ⟨go, N, hN, step⟩
  · refine wpAny_passesOwn hp (thn (T.done X rfl rfl rfl hc i pins s3 σ3 H3 X.xe I3 (stat fr3) st3 stop) fun r s4 ⟨hr, I4⟩ => ?_)
    subst hr
    exact wpAny_execs_nil ⟨σ3, H3, I4, qn⟩
  · refine wpAny_passesOwn hp (thn (T.item X rfl rfl rfl hc i pins s3 σ3 H3 X.xe I3 (stat fr3) st3 go) fun r s4 ⟨u, hr, h4⟩ => ?_)
    subst hr
    refine wpAny_passesOwn hp (thn h4 fun _ s5 ⟨x, H5, I5, r5, y5, st5, fr5⟩ => ?_)
    have I5' := I5.pinned (stat fr5) (T.obj _ _ st5)
    refine wpAny_passesOwn hp (thn (hg _ s5 σ3 H5 x u _ I5' r5 (step x H5 y5)) fun _ s6 ⟨σ6, H6, I6, q6⟩ => ?_)
    refine wpAny_passesOwn hp (thn (hb _ s6 σ6 H6 _ I6 q6) fun f s7 q7 => ?_)
    have again : ∀ {σ7 : St} {H7 : Hp}, Inv X (pins ++ pinsAt fp s5.heap) σ7 H7 s7 → N σ7 H7 → ∃ m, m < n ∧ ∃ i σ' H', Inv X pins σ' H' s7 ∧ tn i s7.heap ∧ (∀ b ∈ fp, H' b = none) ∧ W i m σ' H' := fun {σ7 H7} I7 n7 => by
      obtain ⟨m', hm, w7⟩ := hN σ7 H7 n7
      refine ⟨m', hm, i + 1, σ7, H7, I7.unpinned, T.keep _ _ _ st5 fun b hb o e => (I7.pin (b, o) (List.mem_append_right _ (List.mem_append_right _ (mem_pinsAt hb e)))).1, fun b hb => ?_, w7⟩
      obtain ⟨o, e, d⟩ := T.obj _ _ st5 b hb
      exact (I7.pin (b, o) (List.mem_append_right _ (List.mem_append_right _ (mem_pinsAt hb e)))).2.1
    cases f with
    | next => obtain ⟨σ7, H7, I7, n7⟩ := q7; exact again I7 n7
    | cont => obtain ⟨σ7, H7, I7, n7⟩ := q7; exact again I7 n7
    | brk => obtain ⟨σ7, H7, I7, q7⟩ := q7; exact ⟨σ7, H7, I7.unpinned, q7⟩
    | ret v => obtain ⟨x7, σ7, H7, I7, r7, q7⟩ := q7; exact ⟨x7, σ7, H7, I7.unpinned, r7, q7⟩
end
end L2
namespace L2
open PySem PySem.Spec PyProof.Rows
abbrev R2 := V → V → Hp → VK → Prop
def OpR (X : Cx) (f : Value → Value → Sem Value) (r : R2) : Prop :=
  ∀ (pins : List (Addr × Obj)) (s : Shared) (σ : St) (H : Hp) (x y : V) (v u : Value) (Q : VK), Inv X pins σ H s → RelV x v → RelV y u → r x y H Q →
    wpAny (model X.prog X.w) X.A (f v u) (EP X pins σ Q) X.xe s
def CallR (X : Cx) (f : Value) (r : List V → Hp → VK → Prop) : Prop :=
  ∀ (pins : List (Addr × Obj)) (s : Shared) (σ : St) (H : Hp) (xs : List V) (us : List Value) (Q : VK), Inv X pins σ H s → Vals xs us → r xs H Q →
    wpAny (model X.prog X.w) X.A (call f us) (EP X pins σ Q) X.xe s
def TruR (X : Cx) (r : V → Hp → (Bool → Hp → Prop) → Prop) : Prop :=
  ∀ (pins : List (Addr × Obj)) (s : Shared) (σ : St) (H : Hp) (x : V) (v : Value) (Q : Bool → Hp → Prop), Inv X pins σ H s → RelV x v → r x H Q →
    wpAny (model X.prog X.w) X.A (truthy v) (TP X pins σ Q) X.xe s
def tOp (r : R2) (ta tb : TE) : TE := fun σ H Q => ta σ H fun x H1 => tb σ H1 fun y H2 => r x y H2 Q
def rI (C : Int → Int → Prop) (g : Int → Int → V) : R2 := fun x y H Q => ∃ i j, x = .int i ∧ y = .int j ∧ C i j ∧ Q (g i j) H
def rI0 (g : Int → Int → V) : R2 := fun x y H Q => ∃ i j, x = .int i ∧ y = .int j ∧ Q (g i j) H
section
variable {X : Cx} {a b c : Expr} {ta tb tc : TE} {pos : Pos}
theorem binT (ha : PE X a ta) (hb : PE X b tb) {pins : List (Addr × Obj)} {s : Shared} {σ : St} {H : Hp} {R : V → V → Hp → Prop} (I : Inv X pins σ H s)
    (h : ta σ H fun x H1 => tb σ H1 fun y H2 => R x y H2) {Q : Value → Shared → Prop} {f : Value → Value → Sem Value}
    (hf : ∀ v u s2 x y H2, Inv X pins σ H2 s2 → RelV x v → RelV y u → R x y H2 → wpAny (model X.prog X.w) X.A (f v u) Q X.xe s2) :
    wpAny (model X.prog X.w) X.A (eval a X.env) (fun v s₁ => wpAny (model X.prog X.w) X.A (eval b X.env) (fun u s₂ => wpAny (model X.prog X.w) X.A (f v u) Q X.xe s₂) X.xe s₁) X.xe s := by
  refine thn (ha pins s σ H _ I h) fun v s1 ⟨x, H1, I1, r1, q1⟩ => ?_
  refine thn (hb pins s1 σ H1 _ I1 q1) fun u s2 ⟨y, H2, I2, r2, q2⟩ => ?_
  exact hf v u s2 x y H2 I2 r1 r2 q2
theorem pe_op {op : Operator} {r : R2} (ho : OpR X (binaryOp op) r) (ha : PE X a ta) (hb : PE X b tb) : PE X (.BinOp a op b pos) (tOp r ta tb) := .mk <| by
  intro pins s σ H Q I h
  exact wpAny_BinOp (binT ha hb I h fun v u s2 x y H2 I2 rx ry q => ho pins s2 σ H2 x y v u Q I2 rx ry q)
theorem opI {f : Value → Value → Sem Value} {C : Int → Int → Prop} {g : Int → Int → Int}
    (rule : ∀ (i j : Int) (t u : Tok) (s : Shared) (Q : Value → Shared → Prop) (E : Value → Shared → Prop), C i j → Q (.int (g i j) s.toks) { s with toks := s.toks + 1 } → wpAny (model X.prog X.w) X.A (f (.int i t) (.int j u)) Q E s) :
    OpR X f (rI C fun i j => .int (g i j)) := by
  intro pins s σ H x y v u Q I rx ry h
  obtain ⟨i, j, rfl, rfl, hc, q⟩ := h
  obtain ⟨t, rfl⟩ := rx
  obtain ⟨t', rfl⟩ := ry
  exact rule i j t t' s _ _ hc ⟨.int (g i j), H, I.tok _, ⟨_, rfl⟩, q⟩
theorem opI0 {f : Value → Value → Sem Value} {g : Int → Int → Int}
    (rule : ∀ (i j : Int) (t u : Tok) (s : Shared) (Q : Value → Shared → Prop) (E : Value → Shared → Prop), Q (.int (g i j) s.toks) { s with toks := s.toks + 1 } → wpAny (model X.prog X.w) X.A (f (.int i t) (.int j u)) Q E s) :
    OpR X f (rI0 fun i j => .int (g i j)) := by
  intro pins s σ H x y v u Q I rx ry h
  obtain ⟨i, j, rfl, rfl, q⟩ := h
  obtain ⟨t, rfl⟩ := rx
  obtain ⟨t', rfl⟩ := ry
  exact rule i j t t' s _ _ ⟨.int (g i j), H, I.tok _, ⟨_, rfl⟩, q⟩
theorem opB0 {f : Value → Value → Sem Value} {g : Int → Int → Bool}
    (rule : ∀ (i j : Int) (t u : Tok) (s : Shared) (Q : Value → Shared → Prop) (E : Value → Shared → Prop), Q (.bool (g i j)) s → wpAny (model X.prog X.w) X.A (f (.int i t) (.int j u)) Q E s) :
    OpR X f (rI0 fun i j => .bl (g i j)) := by
  intro pins s σ H x y v u Q I rx ry h
  obtain ⟨i, j, rfl, rfl, q⟩ := h
  obtain ⟨t, rfl⟩ := rx
  obtain ⟨t', rfl⟩ := ry
  exact rule i j t t' s _ _ ⟨.bl (g i j), H, I, rfl, q⟩
def CDiv (i j : Int) : Prop := 0 < j ∧ j < 1073741824
def CPow (i j : Int) : Prop := 0 ≤ j ∧ j ≤ 1000000 ∧ i.natAbs < 2 ^ 64
def CMul (i j : Int) : Prop := (-(2 ^ 64) < i ∧ i < 2 ^ 64) ∨ (-(2 ^ 64) < j ∧ j < 2 ^ 64)
theorem CMul.ok {i j : Int} (h : CMul i j) : IntMulOk i j := by
  rcases h with ⟨h1, h2⟩ | ⟨h1, h2⟩
  · exact .of_left (intBits_le_64 h1 h2)
  · exact .of_right (intBits_le_64 h1 h2)
theorem two_pow_nn (k : Nat) : (0 : Int) ≤ 2 ^ k := by
  rw [two_pow_cast]
  exact Int.natCast_nonneg _
theorem op_add : OpR X (binaryOp .Add) (rI0 fun i j => .int (i + j)) := opI0 fun _ _ _ _ _ _ _ q => add_int q
theorem op_sub : OpR X (binaryOp .Sub) (rI0 fun i j => .int (i - j)) := opI0 fun _ _ _ _ _ _ _ q => sub_int q
theorem op_mul : OpR X (binaryOp .Mult) (rI CMul fun i j => .int (i * j)) := opI fun _ _ _ _ _ _ _ hc q => mul_int q hc.ok
theorem op_fdiv : OpR X (binaryOp .FloorDiv) (rI CDiv fun i j => .int (i / j)) := opI fun i j _ _ _ _ _ hc q => by
  have h1 : (0 : Int) < j := hc.1
  have h2 : j < 1073741824 := hc.2
  exact floordiv_int (by omega) (by rw [Int.fdiv_eq_ediv_of_nonneg i (by omega)]; exact q) (.inl (PyProof.noPylong_small (by omega)))
theorem op_mod : OpR X (binaryOp .Mod) (rI (fun _ j => 0 < j) fun i j => .int (i % j)) := opI fun i j _ _ _ _ _ hc q => by
  have h1 : (0 : Int) < j := hc
  exact mod_int' (by omega) (by rw [Int.fmod_eq_emod_of_nonneg i (by omega)]; exact q)
theorem op_pow : OpR X (binaryOp .Pow) (rI CPow fun i j => .int (i ^ j.toNat)) := opI fun _ _ _ _ _ _ _ hc q => pow_int_small hc.1 hc.2.1 hc.2.2 q
theorem op_shl : OpR X (binaryOp .LShift) (rI CPow fun i j => .int (i * 2 ^ j.toNat)) := opI fun _ _ _ _ _ _ _ hc q => lshift_int_small hc.1 hc.2.1 hc.2.2 q
theorem op_shr : OpR X (binaryOp .RShift) (rI (fun _ j => 0 ≤ j) fun i j => .int (i / 2 ^ j.toNat)) := opI fun i j _ _ _ _ _ hc q =>
  rshift_int hc (by rw [Int.fdiv_eq_ediv_of_nonneg i (two_pow_nn _)]; exact q)
theorem op_and : OpR X (binaryOp .BitAnd) (rI0 fun i j => .int (Builtin.bitAnd i j)) := opI0 fun _ _ _ _ _ _ _ q => and_int q
end
section
variable {X : Cx} {a b c : Expr} {ta tb tc : TE} {pos : Pos}
theorem op_lt : OpR X (compareOp .Lt) (rI0 fun i j => .bl (decide (i < j))) := opB0 fun _ _ _ _ _ _ _ q => lt_int q
theorem op_gt : OpR X (compareOp .Gt) (rI0 fun i j => .bl (decide (j < i))) := opB0 fun _ _ _ _ _ _ _ q => gt_int q
theorem nomark (b : Expr) {op : CmpOp} (h : op ≠ .In := by decide) (h2 : op ≠ .NotIn := by decide) : behindInMarks op b = false := by
  have e1 : (op == CmpOp.In) = false := by cases op <;> first | rfl | exact absurd rfl h
  have e2 : (op == CmpOp.NotIn) = false := by cases op <;> first | rfl | exact absurd rfl h2
  cases b <;> simp [behindInMarks, e1, e2]
theorem pe_cmpR {op : CmpOp} {r : R2} (ho : OpR X (compareOp op) r) (ha : PE X a ta) (hb : PE X b tb) (hm : behindInMarks op b = false) : PE X (.Compare a [op] [b] pos) (tOp r ta tb) := .mk <| by
  intro pins s σ H Q I h
  exact wpAny_Compare1 (binT ha hb I h fun v u s2 x y H2 I2 rx ry q => ho pins s2 σ H2 x y v u Q I2 rx ry q) hm
def tTest (t : TE) : TT := fun σ H Q => t σ H fun x H' => ∃ k, x = .bl k ∧ Q k H'
theorem pt_cmpR {op : CmpOp} {r : R2} (ho : OpR X (compareOp op) r) (ha : PE X a ta) (hb : PE X b tb) (hm : behindInMarks op b = false) : PT X (.Compare a [op] [b] pos) (tTest (tOp r ta tb)) := by
  intro pins s σ H Q I h
  refine wpAny_isTrue_Compare1 (thn (ha pins s σ H _ I h) fun v s1 ⟨x, H1, I1, r1, q1⟩ => thn (hb pins s1 σ H1 _ I1 q1) fun u s2 ⟨y, H2, I2, r2, q2⟩ =>
    thn (ho pins s2 σ H2 x y v u _ I2 r1 r2 q2) fun c s3 ⟨z, H3, I3, r3, k, e, q3⟩ => ?_) hm
  subst e
  cases r3
  exact wpAny_truthy_bool ⟨H3, I3, q3⟩
def TruV (K : PySem.W.Frag) (x : V) (H : Hp) (k : Bool) : Prop :=
  match x with
  | .non => k = false
  | .bl b => k = b
  | .int i => k = (i != 0)
  | .str y => y.length ≤ sizeLine ∧ k = ((y.length : Int) != 0)
  | .byt y => y.size ≤ sizeLine ∧ k = ((y.size : Int) != 0)
  | .ref p => (∃ xs, SqL K H p xs ∧ k = !xs.isEmpty) ∨ (∃ xs, SqT K H p xs ∧ k = !xs.isEmpty) ∨ ∃ kvs, H p = some (.dK kvs) ∧ k = !kvs.isEmpty
  | _ => False
theorem isEmpty_kv {κ : Type} {kvs : List (κ × V)} {vs : List (κ × Value)} (r : KV kvs vs) : (!vs.isEmpty) = !kvs.isEmpty := by
  cases r <;> rfl
theorem isEmpty_of {xs : List V} {its : List Value} (r : Vals xs its) : (!its.toArray.isEmpty) = !xs.isEmpty := by
  cases r <;> simp
theorem line63 : (sizeLine : Nat) < 2 ^ 63 := by rw [sizeLine_eq]; decide
theorem tru_ok : TruR X (fun x H Q => ∃ k, TruV X.K x H k ∧ Q k H) := by
  intro pins s σ H x v Q I rx h
  obtain ⟨k, e, q⟩ := h
  have hl := line63
  have hs : sizeLine = 16777216 := sizeLine_eq
  cases x with
  | non =>
    cases rx
    have e' : k = false := e
    subst e'
    exact truthy_none ⟨H, I, q⟩
  | bl b =>
    cases rx
    have e' : k = b := e
    subst e'
    exact wpAny_truthy_bool ⟨H, I, q⟩
  | int i =>
    obtain ⟨t, rfl⟩ := rx
    have e' : k = (i != 0) := e
    subst e'
    exact PySem.P.truthy_int ⟨H, I, q⟩
  | str y =>
    obtain ⟨t, rfl⟩ := rx
    obtain ⟨hy, e'⟩ : y.length ≤ sizeLine ∧ k = ((y.length : Int) != 0) := e
    subst e'
    exact PySem.P.truthy_str (by omega) ⟨H, I.tok _, q⟩
  | byt y =>
    obtain ⟨t, rfl⟩ := rx
    obtain ⟨hy, e'⟩ : y.size ≤ sizeLine ∧ k = ((y.size : Int) != 0) := e
    subst e'
    exact PySem.W.truthy_bytes (by omega) ⟨H, I.tok _, q⟩
  | ref p =>
    cases rx
    have e' : (∃ xs, SqL X.K H p xs ∧ k = !xs.isEmpty) ∨ (∃ xs, SqT X.K H p xs ∧ k = !xs.isEmpty) ∨ ∃ kvs, H p = some (.dK kvs) ∧ k = !kvs.isEmpty := e
    rcases e' with ⟨xs, hx, e'⟩ | ⟨xs, hx, e'⟩ | ⟨kvs, hx, e'⟩
    · subst e'
      obtain ⟨its, r, pl, hz⟩ := I.list hx
      have hlen := r.length
      exact wpAny_truthy_list pl.isList (by simp only [List.size_toArray]; omega) ⟨H, I.tok _, by rw [isEmpty_of r]; exact q⟩
    · subst e'
      obtain ⟨its, r, pl, hz⟩ := I.tuple hx
      have hlen := r.length
      exact truthy_tuple pl (by simp only [List.size_toArray]; omega) ⟨H, I.tok _, by rw [isEmpty_of r]; exact q⟩
    · subst e'
      obtain ⟨hz, hS, vs, r, m⟩ : kvs.length ≤ sizeLine ∧ (p == sysModules) = false ∧ ∃ vs, KV kvs vs ∧ s.heap.DictOf (mixKind X.prog X.w) p vs := I.hok p _ hx
      have hlen : kvs.length = vs.length := Paired.length r
      exact wpAny_truthy_dict hS m (by omega) ⟨H, I.tok _, by rw [isEmpty_kv r]; exact q⟩
  | _ => exact (show False from e).elim
theorem pt_truth (ha : PE X a ta) (he : ∀ whole, isTrue a X.env whole = (do let v ← whole; standAt a.pos; holding [v] (truthy v))) :
    PT X a (fun σ H Q => ta σ H fun x H' => ∃ k, TruV X.K x H' k ∧ Q k H') := by
  intro pins s σ H Q I h
  exact isTrue_plain (thn (ha pins s σ H _ I h) fun v s1 ⟨x, H1, I1, r1, q1⟩ => tru_ok pins s1 σ H1 x v Q I1 r1 q1) (he _)
theorem vals1 {x : V} {us : List Value} (r : Vals [x] us) : ∃ u, us = [u] ∧ RelV x u := by
  cases r with
  | cons r1 r2 => cases r2; exact ⟨_, rfl, r1⟩
theorem vals2 {x y : V} {us : List Value} (r : Vals [x, y] us) : ∃ u w', us = [u, w'] ∧ RelV x u ∧ RelV y w' := by
  cases r with
  | cons r1 r2 =>
    cases r2 with
    | cons r3 r4 => cases r4; exact ⟨_, _, rfl, r1, r3⟩
theorem call_abs : CallR X (.builtin "abs") (fun xs H Q => ∃ i, xs = [.int i] ∧ Q (.int (if i < 0 then -i else i)) H) := by
  intro pins s σ H xs us Q I r h
  obtain ⟨i, rfl, q⟩ := h
  obtain ⟨u, rfl, t, rfl⟩ := vals1 r
  exact call_abs_int fun u tk => ⟨.int (if i < 0 then -i else i), H, I.tok _, ⟨_, rfl⟩, q⟩
theorem call_max2 (hc : X.calm = true) : CallR X (.builtin "max") (fun xs H Q => ∃ i j, xs = [.int i, .int j] ∧ Q (.int (if j > i then j else i)) H) := by
  intro pins s σ H xs us Q I r h
  obtain ⟨i, j, rfl, q⟩ := h
  obtain ⟨u, w', rfl, ⟨t, rfl⟩, ⟨t', rfl⟩⟩ := vals2 r
  refine max_two_ints (I.ok.hd hc) fun h' tk k => ⟨_, H, I.kept k, ?_, q⟩
  by_cases hj : j > i
  · rw [if_pos hj, if_pos hj]; exact ⟨_, rfl⟩
  · rw [if_neg hj, if_neg hj]; exact ⟨_, rfl⟩
theorem call_min2 (hc : X.calm = true) : CallR X (.builtin "min") (fun xs H Q => ∃ i j, xs = [.int i, .int j] ∧ Q (.int (if j < i then j else i)) H) := by
  intro pins s σ H xs us Q I r h
  obtain ⟨i, j, rfl, q⟩ := h
  obtain ⟨u, w', rfl, ⟨t, rfl⟩, ⟨t', rfl⟩⟩ := vals2 r
  refine min_two_ints (I.ok.hd hc) fun h' tk k => ⟨_, H, I.kept k, ?_, q⟩
  by_cases hj : j < i
  · rw [if_pos hj, if_pos hj]; exact ⟨_, rfl⟩
  · rw [if_neg hj, if_neg hj]; exact ⟨_, rfl⟩
theorem call_int1 : CallR X (.type "int") (fun xs H Q => (∃ i, xs = [.int i] ∧ Q (.int i) H) ∨ ∃ k, xs = [.bl k] ∧ Q (.int (if k then 1 else 0)) H) := by
  intro pins s σ H xs us Q I r h
  rcases h with ⟨i, rfl, q⟩ | ⟨k, rfl, q⟩
  · obtain ⟨u, rfl, t, rfl⟩ := vals1 r
    exact call_int_int ⟨.int i, H, I, ⟨_, rfl⟩, q⟩
  · obtain ⟨u, rfl, r1⟩ := vals1 r
    cases r1
    exact call_int_bool ⟨.int (if k then 1 else 0), H, I.tok _, ⟨_, rfl⟩, q⟩
def LenV (K : PySem.W.Frag) (x : V) (H : Hp) (n : Nat) : Prop :=
  match x with
  | .str y => y.length ≤ sizeLine ∧ n = y.length
  | .byt y => y.size ≤ sizeLine ∧ n = y.size
  | .ref p => (∃ xs, SqL K H p xs ∧ n = xs.length) ∨ ∃ xs, SqT K H p xs ∧ n = xs.length
  | _ => False
theorem call_len : CallR X (.builtin "len") (fun xs H Q => ∃ x n, xs = [x] ∧ LenV X.K x H n ∧ Q (.int n) H) := by
  intro pins s σ H xs us Q I r h
  obtain ⟨x, n, rfl, e, q⟩ := h
  obtain ⟨u, rfl, rx⟩ := vals1 r
  have hl := line63
  have hs : sizeLine = 16777216 := sizeLine_eq
  cases x with
  | str y =>
    obtain ⟨t, rfl⟩ := rx
    obtain ⟨hy, e'⟩ : y.length ≤ sizeLine ∧ n = y.length := e
    subst e'
    exact len_str (by omega) ⟨.int _, H, I.tok _, ⟨_, rfl⟩, q⟩
  | byt y =>
    obtain ⟨t, rfl⟩ := rx
    obtain ⟨hy, e'⟩ : y.size ≤ sizeLine ∧ n = y.size := e
    subst e'
    exact PySem.W.len_bytes (by omega) ⟨.int _, H, I.tok _, ⟨_, rfl⟩, q⟩
  | ref p =>
    cases rx
    have e' : (∃ xs, SqL X.K H p xs ∧ n = xs.length) ∨ ∃ xs, SqT X.K H p xs ∧ n = xs.length := e
    rcases e' with ⟨xs, hx, e'⟩ | ⟨xs, hx, e'⟩
    · subst e'
      obtain ⟨its, r', pl, hz⟩ := I.list hx
      have hlen := r'.length
      exact Calls.call_len_list pl.isList (by simp only [List.size_toArray]; omega) ⟨.int xs.length, H, I.tok _, ⟨_, by simp only [List.size_toArray]; rw [hlen]⟩, q⟩
    · subst e'
      obtain ⟨its, r', pl, hz⟩ := I.tuple hx
      have hlen := r'.length
      exact len_tuple pl (by simp only [List.size_toArray]; omega) ⟨.int xs.length, H, I.tok _, ⟨_, by simp only [List.size_toArray]; rw [hlen]⟩, q⟩
  | _ => exact (show False from e).elim
end
end L2
namespace L2
open PySem PySem.Spec PyProof.Rows
structure ObjM (h : Heap) (x dx C : Addr) (mA : Str → Option Value) : Prop where
  obj : h.get? x = some (PySem.W.instObj C dx)
  ns : h.Ns1 dx mA
  ne : dx ≠ x
theorem lookIn_ns {h : Heap} {dx : Addr} {mA : Str → Option Value} (n : h.Ns1 dx mA) : ∃ od, h.get? dx = some od ∧ ∀ name, PySem.W.lookIn name od = some (mA name) := by
  obtain ⟨o, es, ep, ho, hd, hk, _, hm⟩ := n
  refine ⟨o, ho, fun name => ?_⟩
  have e := hm name
  unfold nsFind findBy at e
  rw [← Array.find?_toList] at e
  unfold PySem.W.lookIn
  rw [hd]
  dsimp only
  split
  · rename_i y q
    rw [q] at e
    exact congrArg some e
  · rename_i q
    rw [q] at e
    have a : es.toList.any (·.refKey) = false := by
      rw [List.any_eq_false]
      intro y hy
      obtain ⟨z, t, hkey⟩ := hk y (Array.mem_toList_iff.mp hy)
      simp [DictEntry.refKey, hkey]
    have a' : ¬ es.toList.any (·.refKey) = true := by rw [a]; exact Bool.false_ne_true
    rw [if_neg a']
    exact congrArg some e
theorem ObjM.look {h : Heap} {x dx C : Addr} {mA : Str → Option Value} (I : ObjM h x dx C mA) : ∃ od, PySem.W.InstAt h x (PySem.W.instObj C dx) C (some od) ∧ ∀ name, PySem.W.lookIn name od = some (mA name) :=
  let ⟨od, ho, hl⟩ := lookIn_ns I.ns
  ⟨od, ⟨I.obj, rfl, rfl, ho⟩, hl⟩
section
variable {prog : Program} {w : World} {A : Around} {E : Value → Shared → Prop} {s : Shared} {K : PySem.W.Frag} {x dx C f : Addr} {mA : Str → Option Value} {name : Str} {v : Value}
end
section
variable {P : Program} {w : World} {H H' : Hp} {h h' : Heap} {a C dx : Addr} {fs fs' : List (Str × V)}
theorem ins_get (hok : HOk P w H h) (e : H a = some (.ins C dx fs)) : ∃ mA, ObjM h a dx C mA ∧ (∀ f, RelO (fs.lookup f) (mA f)) ∧ PySem.Within mA (fs.map (·.1)) ∧ fs.length ≤ 1000 ∧ H dx = some (.own a) := by
  obtain ⟨d, z, ne, ob, mA, n, r, q⟩ := (show ObjOk P w H h a (.ins C dx fs) from hok a _ e)
  exact ⟨mA, ⟨ob, n, ne⟩, r, q, z, d⟩
end
structure Cls (K : PySem.W.Frag) (C : Addr) : Prop where
  pg : PySem.W.plainGet K C Str.empty = true
  hd : PySem.W.hasDictIn K C = true
  po : PySem.W.plainOver K C = true
  sa : PySem.W.findIn K (.ref C) "__setattr__" = some (some (.builtin "object.__setattr__"))
theorem Cls.get {K : PySem.W.Frag} {C : Addr} (c : Cls K C) (f : Str) : PySem.W.plainGet K C f = true := c.pg
structure Con (K : PySem.W.Frag) (C : Addr) (f : Str) (v : V) (u : Value) : Prop where
  at_ : PySem.W.findIn K (.ref C) f = some (some u)
  rel : RelV v u
  get : PySem.W.specialIn K u "__get__" = some none
  cp : PySem.W.copiedNames.contains f = false
structure Meth (K : PySem.W.Frag) (C : Addr) (m : Str) (f : Addr) : Prop where
  at_ : PySem.W.findIn K (.ref C) m = some (some (.ref f))
  fn : PySem.W.isFn K (.ref f) = true
  kp : PySem.W.keepIn K (.ref f) = true
section
variable {X : Cx} {pins : List (Addr × Obj)} {σ : St} {H : Hp} {s : Shared} {a C dx : Addr} {fs : List (Str × V)} {f : Str} {v : V} {A : Around} {E : Value → Shared → Prop}
end
section
variable {X : Cx} {o e value : Expr} {f : Str} {pos pos' tpos : Pos} {ta tv : TE}
end
section
variable {X : Cx} {pins : List (Addr × Obj)} {σ : St} {H : Hp} {s : Shared} {A : Around} {E : Value → Shared → Prop} {Q : Value → Shared → Prop} {c : Value} {b : Bool}
inductive TyOf (K : PySem.W.Frag) (H : Hp) : V → Value → Prop where
  | non : TyOf K H .non (.type "NoneType")
  | bl (x : Bool) : TyOf K H (.bl x) (.type "bool")
  | int (i : Int) : TyOf K H (.int i) (.type "int")
  | str (x : Str) : TyOf K H (.str x) (.type "str")
  | flt (x : UInt64) : TyOf K H (.flt x) (.type "float")
  | lst {a : Addr} {xs : List V} (e : H a = some (.lst xs)) : TyOf K H (.ref a) (.type "list")
  | frz {a : Addr} {o : Obj} {xs : List V} (e : H a = some (.frz o (.lst xs))) : TyOf K H (.ref a) (.type "list")
  | tup {a : Addr} {xs : List V} (e : H a = some (.tup xs)) : TyOf K H (.ref a) (.type "tuple")
  | dK {a : Addr} {kvs : List (Key × V)} (e : H a = some (.dK kvs)) : TyOf K H (.ref a) (.type "dict")
  | dT {a : Addr} {kvs : List (List Key × V)} (e : H a = some (.dT kvs)) : TyOf K H (.ref a) (.type "dict")
  | ins {a C dx : Addr} {fs : List (Str × V)} (e : H a = some (.ins C dx fs)) (cl : Cls K C) (ha : PySem.W.findIn K (.ref C) "__class__" = some (some (.builtin "object.__class__")))
      (hn : PySem.W.specialIn K (.builtin "object.__class__") "__get__" = some (some (.builtin "getset_descriptor.__get__"))) (htk : PySem.W.takesIn K (.builtin "object.__class__") = some true)
      (hm : PySem.W.mroIn K C (.type "object") = some true) : TyOf K H (.ref a) (.ref C)
theorem isinst_ok {x : V} {u t : Value} (I : Inv X pins σ H s) (rx : RelV x u) (ty : TyOf X.K H x t) (e : PySem.W.kitOne X.K t c = some b) (h : ∀ tk, Q (.bool b) { s with toks := tk }) :
    wpAny (model X.prog X.w) A (call (.builtin "isinstance") [u, c]) Q E s := by
  cases ty with
  | non => cases (show u = Value.none from rx); exact PySem.W.kia_one PySem.W.kitx_none I.kIn True.intro e (fun z => nomatch z) h
  | bl y => cases (show u = Value.bool y from rx); exact PySem.W.kia_one PySem.W.kitx_bool I.kIn True.intro e (fun z => nomatch z) h
  | int i => obtain ⟨t, q⟩ := (show ∃ t, u = Value.int i t from rx); cases q; exact PySem.W.kia_one PySem.W.kitx_int I.kIn True.intro e (fun z => nomatch z) h
  | str y => obtain ⟨t, q⟩ := (show ∃ t, u = Value.str y t from rx); cases q; exact PySem.W.kia_one PySem.W.kitx_str I.kIn True.intro e (fun z => nomatch z) h
  | flt y => obtain ⟨t, q⟩ := (show ∃ t, u = Value.float y t from rx); cases q; exact PySem.W.kia_one PySem.W.kitx_float I.kIn True.intro e (fun z => nomatch z) h
  | @lst a xs ea =>
    cases (show u = Value.ref a from rx)
    obtain ⟨_, _, n, _, h1⟩ := (show ObjOk X.prog X.w H s.heap a (.lst xs) from I.hok a _ ea)
    exact PySem.W.kia_one PySem.W.kitx_list I.kIn ⟨_, h1, rfl⟩ e (fun z => nomatch z) h
  | @frz a ob xs ea =>
    cases (show u = Value.ref a from rx)
    obtain ⟨_, _, _, n, _, h1⟩ := (show ObjOk X.prog X.w H s.heap a (.frz ob (.lst xs)) from I.hok a _ ea)
    exact PySem.W.kia_one PySem.W.kitx_list I.kIn ⟨_, h1, rfl⟩ e (fun z => nomatch z) h
  | @tup a xs ea =>
    cases (show u = Value.ref a from rx)
    obtain ⟨_, _, _, p⟩ := (show ObjOk X.prog X.w H s.heap a (.tup xs) from I.hok a _ ea)
    obtain ⟨o, h1, h2, _⟩ := p.1
    exact PySem.W.kia_one PySem.W.kitx_tuple I.kIn ⟨o, h1, h2⟩ e (fun z => nomatch z) h
  | @dK a kvs ea =>
    cases (show u = Value.ref a from rx)
    obtain ⟨_, _, vs, _, p⟩ := (show ObjOk X.prog X.w H s.heap a (.dK kvs) from I.hok a _ ea)
    obtain ⟨o, es, ep, h1, h2, _⟩ := p
    exact PySem.W.kia_one PySem.W.kitx_dict I.kIn ⟨o, h1, h2.1⟩ e (fun z => nomatch z) h
  | @dT a kvs ea =>
    cases (show u = Value.ref a from rx)
    obtain ⟨_, _, xs, _, o, es, ep, h1, h2, _⟩ := (show ObjOk X.prog X.w H s.heap a (.dT kvs) from I.hok a _ ea)
    exact PySem.W.kia_one PySem.W.kitx_dict I.kIn ⟨o, h1, h2.1⟩ e (fun z => nomatch z) h
  | @ins a C dx fs ea cl ha hn htk hm =>
    cases (show u = Value.ref a from rx)
    obtain ⟨mA, O, _⟩ := ins_get I.hok ea
    obtain ⟨od, J, _⟩ := O.look
    exact PySem.W.kia_one (PySem.W.kitx_own (cl.get _) cl.hd ha hn htk hm) I.kIn J e (fun z => nomatch z) h
end
end L2
namespace L2
open PySem PySem.Spec PyProof.Rows
structure Room (k : Nat) (A : Around) : Prop where
  hd : A.handled = none
  dp : A.depth + 3 * k + 5 < recursionLimit
  un : A.units + 16 * k + 200 < cLine
  gd : A.guards = some []
theorem Room.mono {j k : Nat} {A : Around} (r : Room k A) (h : j ≤ k) : Room j A := ⟨r.hd, by have := r.dp; omega, by have := r.un; omega, r.gd⟩
theorem Room.deeper {k : Nat} {A : Around} (r : Room (k + 1) A) (env : Env) : Room k (A.deeper env) :=
  ⟨r.hd, by have := r.dp; show A.depth + 1 + 3 * k + 5 < _; omega, by have := r.un; show A.units + 3 + 16 * k + 200 < _; omega, r.gd⟩
theorem Room.depth {k : Nat} {A : Around} (r : Room k A) : A.depth < recursionLimit := by have := r.dp; omega
def tNil : TA := fun _ H Q => Q [] H
def tCons (ta : TE) (tr : TA) : TA := fun σ H Q => ta σ H fun x H1 => tr σ H1 fun xs H2 => Q (x :: xs) H2
section
variable {X : Cx} {e : Expr} {es : List Expr} {te : TE} {t : TA} {pos : Pos}
theorem pa_nil : PA X [] tNil := .mk <| fun _ _ _ _ H Q I h => Calls.spliced_nil ⟨[], H, I, .nil, h⟩
theorem pa_cons (ha : PE X e te) (hr : PA X es t) (hs : starEach (e :: es) X.env = (false, eval e X.env) :: starEach es X.env := by rfl) : PA X (e :: es) (tCons te t) := .mk <| by
  intro pos pins s σ H Q I h
  rw [hs]
  show wpAny _ _ (spliced ((false, eval e X.env) :: backTo pos (starEach es X.env))) _ _ s
  refine Calls.spliced_cons (thn (ha pins s σ H _ I h) fun u s1 ⟨x, H1, I1, r1, q1⟩ => ?_)
  exact thn (hr pos pins s1 σ H1 _ I1 q1) fun us s2 ⟨xs, H2, I2, r2, q2⟩ => ⟨x :: xs, H2, I2, .cons r1 r2, q2⟩
def tTup (t : TA) : TE := fun σ H Q => t σ H fun xs H1 => xs.length ≤ sizeLine ∧ ∀ p, H1 p = none → Q (.ref p) (upd H1 p (.tup xs))
def tLst (t : TA) : TE := fun σ H Q => t σ H fun xs H1 => xs.length ≤ sizeLine ∧ ∀ p, H1 p = none → Q (.ref p) (upd H1 p (.lst xs))
theorem pe_tup {x1} (h : PA X es t) : PE X (.Tuple es x1 pos) (tTup t) := .mk <| by
  intro pins s σ H Q I hq
  refine wpAny_Tuple_spliced (thn (h pos pins s σ H _ I hq) fun us s1 ⟨xs, H1, I1, r, z, q⟩ => ⟨by rw [← r.length]; exact z, ?_⟩)
  have hf : H1 s1.heap.objs.size = none := I1.hok.fresh (Nat.le_refl _)
  refine ⟨.ref s1.heap.objs.size, upd H1 s1.heap.objs.size (.tup xs), I1.laid (t' := s1.toks) (fun b u e => Heap.get?_push_of_some _ e) (Nat.le_refl _) ?_, rfl, q _ hf⟩
  exact ⟨z, us, r, ⟨_, Heap.get?_push_size _ rfl, rfl, _, rfl⟩, _, Heap.get?_push_size _ rfl, rfl⟩
theorem pe_lst (h : PA X es t) : PE X (.List es pos) (tLst t) := .mk <| by
  intro pins s σ H Q I hq
  refine wpAny_List_spliced (thn (h pos pins s σ H _ I hq) fun us s1 ⟨xs, H1, I1, r, z, q⟩ => ⟨by rw [← r.length]; exact z, ?_⟩)
  have hf : H1 s1.heap.objs.size = none := I1.hok.fresh (Nat.le_refl _)
  refine ⟨.ref s1.heap.objs.size, upd H1 s1.heap.objs.size (.lst xs), I1.laid (t' := s1.toks) (fun b u e => Heap.get?_push_of_some _ e) (Nat.le_refl _) ?_, rfl, q _ hf⟩
  exact ⟨z, us, 0, r, Heap.get?_push_size _ rfl⟩
end
abbrev Sp := List V → Hp → VK → XK → Prop
abbrev CXT := List Env → Hp → Shared → XK → Value → Shared → Prop
structure Env0 (P : Program) (w : World) (K : PySem.W.Frag) (mg : Str → Option Value) (base : Heap) (A : Around) (outer : List Env) (s : Shared) (H : Hp) : Prop where
  frames : A.frames = some outer
  mod : Mod K mg base
  bs : ∀ b o, base.get? b = some o → s.heap.get? b = some o ∧ H b = none
  bsz : base.objs.size ≤ s.heap.objs.size
  funs : s.heap.FunFrames base outer
  frf : ∀ b ∈ frs outer, H b = none
  tt : TabT K H
  hok : HOk P w H s.heap
  bare : AllBare s.gens
def CE (outer : List Env) (P : Program) (w : World) (H : Hp) (s : Shared) (Q : VK) (u : Value) (s' : Shared) : Prop :=
  ∃ v H', s'.os = s.os ∧ AllBare s'.gens ∧ Un (frs outer) [] H H' s.heap s'.heap ∧ HOk P w H' s'.heap ∧ RelV v u ∧ Q v H'
def CR (CX : CXT) (outer : List Env) (P : Program) (w : World) (H : Hp) (s : Shared) (Q : VK) (E : XK) (r : Result) (s' : Shared) : Prop :=
  match r with
  | .ok (.ret u) => CE outer P w H s Q u s'
  | .ok _ => False
  | .error e => CX outer H s E e s'
structure FnOk (P : Program) (w : World) (K : PySem.W.Frag) (mg : Str → Option Value) (base : Heap) (CX : CXT) (k : Nat) (f : Addr) (fd : FuncData) (ps : List Str) (sp : Sp) : Prop where
  len : ∀ vs H Q E, sp vs H Q E → vs.length = ps.length
  run : ∀ (A : Around) (outer : List Env) (s : Shared) (H : Hp) (args : Args) (us : List Value) (vs : List V) (Q : VK) (E : XK), Room k A → Env0 P w K mg base A outer s H → BindsTo s fd args (ps.zip us) → Vals vs us → sp vs H Q E →
    codeAny (model P w) A (.call (.ref f) args) (CR CX outer P w H s Q E) s
section
variable {X : Cx} {pins : List (Addr × Obj)} {σ : St} {H : Hp} {s s' : Shared}
theorem Inv.env0 (I : Inv X pins σ H s) : Env0 X.prog X.w X.K X.mg X.base X.A X.stack s H :=
  ⟨I.ok.frames, I.ok.mod, I.bs, Nat.le_trans I.ok.bsz I.sz, I.stack, I.stkFree, I.ok.tt.mono I.base.tbls, I.hok, I.bare⟩
theorem Inv.after {Q : VK} {u : Value} (I : Inv X pins σ H s) (h : CE X.stack X.prog X.w H s Q u s') : EP X pins σ Q u s' := by
  obtain ⟨v, H', os, bare, un, hok, r, q⟩ := h
  obtain ⟨hh, g, d, t, os'⟩ := s'
  obtain rfl : os' = s.os := os
  exact ⟨v, H', I.call (h' := hh) (g' := g) (d' := d) (t' := t) (ch := []) un hok bare (fun b z => absurd z (by simp)), r, q⟩
end
def tCall (sp : Sp) (dvs : List V) (E : XK) (t : TA) : TE := fun σ H Q => t σ H fun vs H1 => sp (vs ++ dvs) H1 Q E
def Binds (K : PySem.W.Frag) (fd : FuncData) (ps : List Str) (ds : List Value) : Prop :=
  ∀ (s : Shared) (us : List Value), K.In s.heap → (us ++ ds).length = ps.length → BindsTo s fd ⟨us, []⟩ (ps.zip (us ++ ds))
theorem Binds.all {K : PySem.W.Frag} {fd : FuncData} {ps : List Str} (h : ∀ us : List Value, us.length = ps.length → bindArgs fd ⟨us, []⟩ = pure (ps.zip us)) : Binds K fd ps [] := fun s us _ hl => by
  rw [List.append_nil] at hl ⊢
  exact .of_eq (h us hl)
def Passes (CX : CXT) (X : Cx) (E : XK) : Prop := ∀ (pins : List (Addr × Obj)) (σ : St) (H : Hp) (s : Shared) (e : Value) (s' : Shared), Inv X pins σ H s → CX X.stack H s E e s' → X.xe e s'
section
variable {X : Cx} {CX : CXT} {k : Nat} {f C : Addr} {fd : FuncData} {ps : List Str} {sp : Sp} {dvs : List V} {ds : List Value} {E : XK} {x m : Str} {p pos apos : Pos} {e o : Expr} {es : List Expr} {ta : TE} {t : TA}
theorem run_fn {pins : List (Addr × Obj)} {σ : St} {H : Hp} {s : Shared} {Q : VK} {us : List Value} {vs : List V} (F : FnOk X.prog X.w X.K X.mg X.base CX k f fd ps sp) (hr : Room k X.A) (hb : Binds X.K fd ps ds) (hd : Vals dvs ds) (hx : Passes CX X E)
    (I : Inv X pins σ H s) (r : Vals vs us) (h : sp (vs ++ dvs) H Q E) : wpAny (model X.prog X.w) X.A (call (.ref f) us) (EP X pins σ Q) X.xe s := by
  have r2 : Vals (vs ++ dvs) (us ++ ds) := r.append hd
  have hl : (us ++ ds).length = ps.length := by rw [← r2.length]; exact F.len _ _ _ _ h
  refine wpAny_call (codeAny_mono (F.run X.A X.stack s H ⟨us, []⟩ (us ++ ds) (vs ++ dvs) Q E hr I.env0 (hb s us I.kIn hl) r2 h) fun r s' hq => ?_)
  cases r with
  | error e => exact hx pins σ H s e s' I hq
  | ok fl =>
    cases fl with
    | ret u => exact I.after hq
    | next => exact False.elim hq
    | brk => exact False.elim hq
    | cont => exact False.elim hq
theorem pe_call (F : FnOk X.prog X.w X.K X.mg X.base CX k f fd ps sp) (hr : Room k X.A) (hg : Gl X x) (hm : X.mg x = some (.ref f)) (hk : PySem.W.keepIn X.K (.ref f) = true) (hb : Binds X.K fd ps ds) (hd : Vals dvs ds) (hx : Passes CX X E)
    (ha : PA X (e :: es) t) (hdb : (x == ("__debug__" : Str)) = false := by decide) (he : starEach (e :: es) X.env = (false, eval e X.env) :: starEach es X.env := by rfl) (hpl : (backTo pos (starEach es X.env)).any (·.1) = false := by rfl) :
    PE X (.Call (.Name x p) (e :: es) [] pos) (tCall sp dvs E t) := .mk <| by
  intro pins s σ H Q I h
  refine wpAny_Call_Name_kw (ld_glob I hg hm ?_ hdb)
  refine PySem.W.callWith_K (h₀ := X.base) I.ok.mod.kin hk (thn (ha pos pins s σ H _ I h) fun us s1 ⟨vs, H1, I1, r, q⟩ => ⟨I1.kIn, ?_⟩) he hpl
  exact run_fn F hr hb hd hx I1 r q
structure Mk (K : PySem.W.Frag) (C f : Addr) : Prop where
  makes : PySem.W.makesIn K C = true
  init : PySem.W.findIn K (.ref C) "__init__" = some (some (.ref f))
  fn : PySem.W.isFn K (.ref f) = true
  kp : PySem.W.keepIn K (.ref C) = true
end
section
variable {X : Cx} {CX : CXT} {k : Nat} {f C : Addr} {fd : FuncData} {ps ks : List Str} {sp : Sp} {E : XK} {x m : Str} {p pos apos kpos : Pos} {e o : Expr} {es : List Expr} {kws : List Keyword} {te ta : TE} {t tk : TA} {nm : Option Str}
structure KBinds (K : PySem.W.Frag) (fd : FuncData) (ps ks : List Str) (g : List Value → List Value → List Value) (gV : List V → List V → List V) : Prop where
  to : ∀ (s : Shared) (us ws : List Value), K.In s.heap → (g us ws).length = ps.length → BindsTo s fd ⟨us, ks.zip ws⟩ (ps.zip (g us ws))
  rel : ∀ {vs : List V} {us : List Value} {zs : List V} {ws : List Value}, Vals vs us → Vals zs ws → Vals (gV vs zs) (g us ws)
variable {g : List Value → List Value → List Value} {gV : List V → List V → List V}
end
structure FnScope (N P : List Str) (sc : Scope) : Prop where
  kind : sc.kind = .function
  co : sc.isCoroutine = false
  gen : sc.isGenerator = false
  nd : N.Nodup
  pre : N.take P.length = P
  par : ∀ x ∈ P, sc.names.lookup x = some .local ∨ sc.names.lookup x = some .cell
  nofree : ∀ y ∈ sc.names, y.2 ≠ .free
theorem bindL_out {kindOf : Str → Option NameKind} {x : Str} : ∀ {binds : List (Str × Value)} {m : Str → Option Value}, (∀ v, (x, v) ∉ binds) → bindL kindOf binds m x = m x
  | [], _, _ => rfl
  | (n, v) :: r, m, h => by
    unfold bindL
    rw [bindL_out fun w hw => h w (List.mem_cons_of_mem _ hw)]
    split
    · have : x ≠ n := by rintro rfl; exact h v List.mem_cons_self
      simp [this]
    · rfl
theorem bindC_out {kindOf : Str → Option NameKind} {x : Str} : ∀ {binds : List (Str × Value)} {m : Str → Option Value}, (∀ v, (x, v) ∉ binds) → bindC kindOf binds m x = m x
  | [], _, _ => rfl
  | (n, v) :: r, m, h => by
    unfold bindC
    rw [bindC_out fun w hw => h w (List.mem_cons_of_mem _ hw)]
    split
    · rfl
    · have : x ≠ n := by rintro rfl; exact h v List.mem_cons_self
      simp [this]
theorem bindL_get {kindOf : Str → Option NameKind} {x : Str} {v : Value} : ∀ {P : List Str} {vs : List Value} {i : Nat} {m : Str → Option Value}, P.Nodup → P[i]? = some x → vs[i]? = some v → kindOf x = some .local →
    bindL kindOf (P.zip vs) m x = some v
  | [], _, _, _, _, h, _, _ => by simp at h
  | _ :: _, [], _, _, _, _, h, _ => by simp at h
  | p :: P, w :: vs, 0, m, nd, h1, h2, hk => by
    simp at h1 h2; subst h1; subst h2
    show bindL kindOf ((p, w) :: P.zip vs) m p = _
    unfold bindL
    rw [bindL_out fun v hv => (List.nodup_cons.mp nd).1 (List.of_mem_zip hv).1, if_pos hk]
    simp
  | p :: P, w :: vs, i + 1, m, nd, h1, h2, hk => by
    show bindL kindOf ((p, w) :: P.zip vs) m x = _
    unfold bindL
    exact bindL_get (i := i) (List.nodup_cons.mp nd).2 (by simpa using h1) (by simpa using h2) hk
theorem bindC_get {kindOf : Str → Option NameKind} {x : Str} {v : Value} : ∀ {P : List Str} {vs : List Value} {i : Nat} {m : Str → Option Value}, P.Nodup → P[i]? = some x → vs[i]? = some v → kindOf x ≠ some .local →
    bindC kindOf (P.zip vs) m x = some v
  | [], _, _, _, _, h, _, _ => by simp at h
  | _ :: _, [], _, _, _, _, h, _ => by simp at h
  | p :: P, w :: vs, 0, m, nd, h1, h2, hk => by
    simp at h1 h2; subst h1; subst h2
    show bindC kindOf ((p, w) :: P.zip vs) m p = _
    unfold bindC
    rw [bindC_out fun v hv => (List.nodup_cons.mp nd).1 (List.of_mem_zip hv).1, if_neg hk]
    simp
  | p :: P, w :: vs, i + 1, m, nd, h1, h2, hk => by
    show bindC kindOf ((p, w) :: P.zip vs) m x = _
    unfold bindC
    exact bindC_get (i := i) (List.nodup_cons.mp nd).2 (by simpa using h1) (by simpa using h2) hk
def start (N : List Str) (vs : List V) : St := vs.map some ++ List.replicate (N.length - vs.length) none
def cxOf (CX : CXT) (P : Program) (w : World) (K : PySem.W.Frag) (mg : Str → Option Value) (base : Heap) (N : List Str) (qual : Str) (scope : Scope) (f : Addr) (cd : Value) (A : Around) (outer : List Env) (s : Shared) (H : Hp) (E : XK) : Cx where
  prog := P
  w := w
  K := K
  mg := mg
  base := base
  A := A.deeper (envOfC qual scope s.heap.objs.size f cd)
  N := N
  s₀ := s
  H₀ := H
  env := envOfC qual scope s.heap.objs.size f cd
  outer := outer
  stack := envOfC qual scope s.heap.objs.size f cd :: outer
  ex := []
  calm := true
  fn := fun _ => true
  pn := []
  xe := fun e s' => wpAny (model P w) (A.deeper (envOfC qual scope s.heap.objs.size f cd)) (leaving (envOfC qual scope s.heap.objs.size f cd) e) (fun _ s'' => CX outer H s E e s'') (fun e' s'' => CX outer H s E e' s'') s'
theorem cell_has {sc : Scope} {n : Nat} {x : Str} (h : sc.names.lookup x = some .cell) : ∃ c, (cellsFrom n sc.names []).lookup x = some c := by
  have q := PySem.W.cellsFrom_some sc.names n [] (.inl h)
  exact Option.isSome_iff_exists.mp q
theorem inv_start {CX : CXT} {P : Program} {w : World} {K : PySem.W.Frag} {mg : Str → Option Value} {base : Heap} {N ps : List Str} {qual : Str} {scope : Scope} {f : Addr} {cd : Value} {A : Around} {outer : List Env} {s s1 : Shared} {H : Hp} {E : XK} {us : List Value} {vs : List V}
    (S : FnScope N ps scope) (hd : A.handled = none) (e0 : Env0 P w K mg base A outer s H) (hl : vs.length = ps.length) (r : Vals vs us)
    (x : InCallC s s.heap.objs.size (bindL (envOfC qual scope s.heap.objs.size f cd).kindOf (ps.zip us) fun _ => none) (cellsFrom (s.heap.objs.size + 1) scope.names []) (bindC (envOfC qual scope s.heap.objs.size f cd).kindOf (ps.zip us) fun _ => none) s1) :
    Inv (cxOf CX P w K mg base N qual scope f cd A outer s H E) [] (start N vs) H s1 := by
  have hpl : ps.length ≤ N.length := by have := congrArg List.length S.pre; rw [List.length_take] at this; omega
  obtain ⟨h1, tk, rfl, hk⟩ := x.done
  have noA : ∀ b : Addr, b ∉ (cxOf CX P w K mg base N qual scope f cd A outer s H E).ex := fun b z => absurd (show b ∈ ([] : List Addr) from z) (by simp)
  refine ⟨⟨e0.mod, S.kind, rfl, rfl, Nat.le_refl _, fun y z c h1 h2 => ?_, fun y hy => ?_, fun y c _ h => ?_, fun _ => hd, Around.frames_deeper e0.frames, .inr ⟨rfl, rfl⟩, fun b z => absurd z (noA b), e0.bs, e0.bsz, fun b _ _ => noA b, fun b z => absurd z (noA b), e0.funs, e0.frf, e0.tt⟩,
    rfl, e0.bare, Un.kept hk, ⟨_, x.toInCall.ns, fun i y v h1 h2 h3 => ?_⟩, fun y c h => ⟨_, x.cell y c h⟩, e0.hok.fresh (Nat.le_refl _), fun y c h => ?_, fun p hp => absurd (show p ∈ ([] : List (Addr × Obj)) from hp) (by simp), e0.hok.kept hk, ?_⟩
  · exact name_of_addr x.apart (PySem.mem_of_lookup h1) (PySem.mem_of_lookup h2)
  · have hy : scope.names.lookup y = some .cell ∨ scope.names.lookup y = some .free := hy
    rcases hy with hy | hy
    · exact cell_has hy
    · exact absurd rfl (S.nofree _ (PySem.mem_of_lookup hy))
  · exact Nat.le_of_lt (x.above y c (PySem.mem_of_lookup h))
  · have hi : i < vs.length := by
      unfold start at h2
      by_cases hi : i < vs.length
      · exact hi
      · rw [List.getElem?_append_right (by simpa using hi)] at h2
        rw [List.getElem?_replicate] at h2
        split at h2 <;> cases h2
    have ha : vs[i]? = some v := by
      unfold start at h2
      rw [List.getElem?_append_left (by simpa using hi), List.getElem?_map] at h2
      cases e : vs[i]? with
      | none => rw [e] at h2; cases h2
      | some a => rw [e] at h2; cases h2; rfl
    obtain ⟨u, hu, rv⟩ := r.get ha
    have hp : ps[i]? = some y := by
      rw [← S.pre, List.getElem?_take_of_lt (by omega)]; exact h1
    have ndP : ps.Nodup := by rw [← S.pre]; exact S.nd.sublist (List.take_sublist _ _)
    refine ⟨u, rv, ?_⟩
    rcases S.par y (List.mem_of_getElem? hp) with k | k
    · exact .inl ⟨k, bindL_get ndP hp hu k⟩
    · obtain ⟨c, e⟩ := cell_has (n := s.heap.objs.size + 1) k
      refine .inr ⟨.inl k, c, e, ?_⟩
      have q := x.cell y c e
      rw [bindC_get ndP hp hu (by show scope.names.lookup y ≠ _; rw [k]; decide)] at q
      exact q
  · exact e0.hok.fresh (Nat.le_of_lt (x.above y c (PySem.mem_of_lookup h)))
  · unfold start
    show _ = N.length
    rw [List.length_append, List.length_map, List.length_replicate]
    omega
theorem fn_of {CX : CXT} {P : Program} {w : World} {K : PySem.W.Frag} {mg : Str → Option Value} {base : Heap} {k : Nat} {f : Addr} {name qual : Str} {params : Arguments} {body : List Stmt} {scope : Scope} {dV kV doc pm cdv ct oc : Value} {an od : Option Addr}
    {osl : Array (Option Value)} {N ps : List Str} {sp : Sp} (lk : K.lookup f = some ⟨oc, od, .func (PySem.W.fnOf name qual params body scope dV kV doc pm an cdv ct), osl⟩) (hcd : PySem.W.codeIn K cdv qual = true) (S : FnScope N ps scope)
    (len : ∀ vs H Q E, sp vs H Q E → vs.length = ps.length)
    (hbody : ∀ (A : Around) (outer : List Env) (s : Shared) (H : Hp) (vs : List V) (Q : VK) (E : XK), Room k (A.deeper (envOfC qual scope s.heap.objs.size f cdv)) → sp vs H Q E →
      ∃ t, PSs (cxOf CX P w K mg base N qual scope f cdv A outer s H E) body t ∧ t { nx := fun _ H' => Q .non H', rt := Q } (start N vs) H) :
    FnOk P w K mg base CX (k + 1) f (PySem.W.fnOf name qual params body scope dV kV doc pm an cdv ct) ps sp := by
  refine ⟨len, fun A outer s H args us vs Q E hr e0 hb r hsp => ?_⟩
  have hl := len _ _ _ _ hsp
  have KX : K.In s.heap := e0.mod.kin.keeps fun b o e => (e0.bs b o e).1
  have lim : s.heap.NoLimit := e0.mod.nolimit.keeps fun b o e => (e0.bs b o e).1
  have hkind : ∀ y ∈ ps.zip us, scope.names.lookup y.1 = some .local ∨ (scope.names.lookup y.1 = some .cell ∧ ((cellsFrom (s.heap.objs.size + 1) scope.names []).lookup y.1).isSome = true) := fun ⟨n, v⟩ hy => by
    rcases S.par n (List.of_mem_zip hy).1 with q | q
    · exact .inl q
    · exact .inr ⟨q, PySem.W.cellsFrom_some _ _ _ (.inl q)⟩
  refine codeAny_call_function hr.depth (KX _ _ lk) rfl S.co S.gen rfl (PySem.W.codeRec_of KX hcd) (hb _ _ _ _ ?_)
  refine wpAny_newFunctionEnv_cells S.kind hkind fun env he s1 x => ?_
  subst he
  refine ⟨lim.keeps x.toInCall.keep, codeAny_func ?_⟩
  obtain ⟨t, ht, hq⟩ := hbody A outer s H vs Q E (hr.deeper _) hsp
  have I : Inv (cxOf CX P w K mg base N qual scope f cdv A outer s H E) [] (start N vs) H s1 := inv_start S hr.hd e0 hl r x
  refine wpAny_mono (ht [] s1 (start N vs) H _ I hq) (fun fl s' hs => ?_) fun e s' hs => hs
  have fin : ∀ {σ' : St} {H' : Hp} {v : V} {u : Value}, Inv (cxOf CX P w K mg base N qual scope f cdv A outer s H E) [] σ' H' s' → RelV v u → Q v H' → CE outer P w H s Q u s' :=
    fun {σ' H' v u} J rv q => ⟨v, H', J.os, J.bare, J.base, J.hok, rv, q⟩
  cases fl with
  | ret u =>
    obtain ⟨v, σ', H', J, rv, q⟩ := hs
    exact fin J rv q
  | next =>
    obtain ⟨σ', H', J, q⟩ := hs
    exact fin (v := V.non) (u := Value.none) J rfl q
  | brk =>
    obtain ⟨_, _, _, q⟩ := hs
    exact False.elim q
  | cont =>
    obtain ⟨_, _, _, q⟩ := hs
    exact False.elim q
end L2
namespace L2
open PySem PySem.Spec PyProof.Rows
section
variable {X : Cx} {x : Str} {p pos : Pos} {e : Expr} {es : List Expr} {t : TA} {id T : String} {r : List V → Hp → VK → Prop}
def tCB (r : List V → Hp → VK → Prop) (t : TA) : TE := fun σ H Q => t σ H fun vs H1 => r vs H1 Q
theorem pe_callB (hc : CallR X (.builtin id) r) (hg : Gl X x) (hm : X.mg x = none) (hv : bootBuiltins x = some (.builtin id)) (ha : PA X (e :: es) t) (hn : x ≠ "__name__" := by decide) (hdb : (x == ("__debug__" : Str)) = false := by decide)
    (he : starEach (e :: es) X.env = (false, eval e X.env) :: starEach es X.env := by rfl) (hpl : (backTo pos (starEach es X.env)).any (·.1) = false := by rfl) : PE X (.Call (.Name x p) (e :: es) [] pos) (tCB r t) := .mk <| by
  intro pins s σ H Q I h
  refine wpAny_Call_Name_kw (ld_blt I hg hm hv ?_ hn hdb)
  exact PyProof.Rows.callWith_builtin1 (thn (ha pos pins s σ H _ I h) fun us s1 ⟨vs, H1, I1, r1, q1⟩ => hc pins s1 σ H1 vs us Q I1 r1 q1) he hpl
theorem pe_callTy (hc : CallR X (.type T) r) (hg : Gl X x) (hm : X.mg x = none) (hv : bootBuiltins x = some (.type T)) (ha : PA X (e :: es) t) (hn : x ≠ "__name__" := by decide) (hdb : (x == ("__debug__" : Str)) = false := by decide)
    (he : starEach (e :: es) X.env = (false, eval e X.env) :: starEach es X.env := by rfl) (hpl : (backTo pos (starEach es X.env)).any (·.1) = false := by rfl) : PE X (.Call (.Name x p) (e :: es) [] pos) (tCB r t) := .mk <| by
  intro pins s σ H Q I h
  refine wpAny_Call_Name_kw (ld_blt I hg hm hv ?_ hn hdb)
  exact PyProof.Rows.callWith_type1 (thn (ha pos pins s σ H _ I h) fun us s1 ⟨vs, H1, I1, r1, q1⟩ => hc pins s1 σ H1 vs us Q I1 r1 q1) he hpl
end
end L2
namespace HT
open PySem PyProof.Rows
section
open PySem.SeqAt
open PySem.AutoSeq1 (wpAny_loadPart')
open PySem.MeetsSeq PySem.MeetsSeq2 PySem.MeetsSeq3
end
section
variable {prog : Program} {w : World} {A : Around} {E : Value → Shared → Prop} {s : Shared}
theorem cat_tup {t b : Addr} {vs ws : List Value} {Q : Value → Shared → Prop} (ht : IsTup s.heap t vs.toArray) (hb : IsTup s.heap b ws.toArray) (hv : vs ≠ [])
    (h1 : ws = [] → Q (.ref t) s) (h2 : ws ≠ [] → Q (.ref s.heap.objs.size) { s with heap := s.heap.push { cls := .type "tuple", data := .seq (vs ++ ws).toArray } })
    (hsz : vs.length + ws.length ≤ sizeLine) : wpAny (model prog w) A (binaryOp .Add (.ref t) (.ref b)) Q E s := by
  obtain ⟨⟨cls, dd, data, sl⟩, ho, hc, n, hd⟩ := id ht
  obtain ⟨⟨cls2, dd2, data2, sl2⟩, ho2, hc2, n2, hd2⟩ := id hb
  simp only at hc hd hc2 hd2
  subst hc hd hc2 hd2
  have e : vs.toArray ++ ws.toArray = (vs ++ ws).toArray := by simp
  by_cases hw : ws = []
  · exact concat_meets ⟨_, ho, rfl⟩ ⟨_, ho2, rfl⟩ noFill_tuple_add seq_tuple_add PySem.F.slot_tuple_add PySem.F.entry_tuple_add (PySem.F.args_tuple_add_2 _ _)
      (tuple_addW1 t b vs.toArray ws.toArray n n2 dd dd2 sl sl2 (by simpa using hv) (by simp [hw])) ⟨ho, ho2, h1 hw⟩
  · refine concat_meets ⟨_, ho, rfl⟩ ⟨_, ho2, rfl⟩ noFill_tuple_add seq_tuple_add PySem.F.slot_tuple_add PySem.F.entry_tuple_add (PySem.F.args_tuple_add_2 _ _)
      (tuple_addW2 t b vs.toArray ws.toArray n n2 dd dd2 sl sl2 (by simpa using hv) (by simpa using hw) (by rw [List.size_toArray, List.size_toArray]; exact hsz)) ⟨ho, ho2, ?_⟩
    rw [e]
    exact h2 hw
def sIx (n d : Nat) : Option Int → Nat
  | none => d
  | some v => if v < 0 then (v + (n : Int)).toNat else min v.toNat n
theorem sIx_none (n d : Nat) : sIx n d none = d := rfl
theorem sIx_nat (n d k : Nat) : sIx n d (some (k : Int)) = min k n := by
  show (if (k : Int) < 0 then ((k : Int) + (n : Int)).toNat else min (k : Int).toNat n) = min k n
  rw [if_neg (by omega), Int.toNat_natCast]
theorem sIx_le (n d : Nat) (hd : d ≤ n) (o : Option Int) : sIx n d o ≤ n := by
  cases o with
  | none => exact hd
  | some v =>
    show (if v < 0 then (v + (n : Int)).toNat else min v.toNat n) ≤ n
    by_cases hv : v < 0
    · rw [if_pos hv]; omega
    · rw [if_neg hv]; exact Nat.min_le_right _ _
theorem clip_eq (v : Int) (n d : Nat) : (if v < 0 then max (v + (n : Int)) 0 else min v (n : Int)) = ((sIx n d (some v) : Nat) : Int) := by
  show (if v < 0 then max (v + (n : Int)) 0 else min v (n : Int)) = (((if v < 0 then (v + (n : Int)).toNat else min v.toNat n) : Nat) : Int)
  by_cases hv : v < 0
  · simp only [if_pos hv]; omega
  · simp only [if_neg hv]; omega
theorem adjust_gen (lo hi : Option Int) (n : Nat) : Builtin.Slice.sliceAdjust lo hi 1 (n : Int) = (((sIx n 0 lo : Nat) : Int), ((sIx n n hi : Nat) : Int)) := by
  have h1 : ¬ ((1 : Int) < 0) := by omega
  unfold Builtin.Slice.sliceAdjust
  simp only [h1, if_false]
  refine Prod.ext ?_ ?_
  · cases lo with
    | none => rfl
    | some v => exact clip_eq v n 0
  · cases hi with
    | none => rfl
    | some v => exact clip_eq v n n
theorem places_gen (i j : Nat) : Builtin.Slice.slicePlaces (i : Int) (j : Int) 1 = j - i := by
  unfold Builtin.Slice.slicePlaces
  have h1 : (1 : Int) > 0 := by omega
  simp only [h1, if_true, Int.ediv_one]
  split <;> omega
theorem slicePart_ {v : Value} {o : Option Int} {Q : Option Int → Shared → Prop} (p : IsPart v o) (h : Q o s) : wpAny (model prog w) A (Builtin.Slice.slicePartIndex v) Q E s := by
  cases p with
  | none => exact slicePart_none h
  | int i t => exact slicePart_int h
theorem sliceApplied_gen {sl : Addr} {vl vu : Value} {lo hi : Option Int} {n : Nat} {Q : Int × Int × Nat → Shared → Prop} (hs : s.heap.IsSliceOf sl vl vu .none) (pl : IsPart vl lo) (pu : IsPart vu hi)
    (h : Q (((sIx n 0 lo : Nat) : Int), 1, sIx n n hi - sIx n 0 lo) s) : wpAny (model prog w) A (Builtin.Slice.sliceApplied (.ref sl) (pure (n : Int))) Q E s := by
  obtain ⟨os, hos, hcs, hds⟩ := id hs
  unfold Builtin.Slice.sliceApplied Builtin.Slice.sliceFields
  refine wpAny_bind (wpAny_bind (wpAny_field hos hds (x := vl) rfl (wpAny_bind (wpAny_field hos hds (x := vu) rfl (wpAny_bind (wpAny_field hos hds (x := .none) rfl (wpAny_pure ?_)))))))
  refine wpAny_bind (slicePart_none ?_)
  show wpAny _ _ (if ((1 : Int) == 0) = true then _ else _) _ _ s
  rw [if_neg (by decide)]
  refine wpAny_bind (slicePart_ pl (wpAny_bind (slicePart_ pu (wpAny_bind (wpAny_pure ?_)))))
  show wpAny _ _ (match Builtin.Slice.sliceAdjust lo hi 1 (n : Int) with | (lo, hi) => pure (lo, (1 : Int), Builtin.Slice.slicePlaces lo hi 1)) _ _ s
  rw [adjust_gen lo hi n]
  show wpAny _ _ (pure (((sIx n 0 lo : Nat) : Int), (1 : Int), Builtin.Slice.slicePlaces ((sIx n 0 lo : Nat) : Int) ((sIx n n hi : Nat) : Int) 1)) _ _ s
  rw [places_gen]
  exact wpAny_pure h
theorem pick_gen (xs : Array Value) (i k : Nat) : ((List.range k).filterMap fun (m : Nat) => xs[((i : Int) + (m : Int) * 1).toNat]?).toArray = ((xs.toList.drop i).take k).toArray := by
  have e : (fun (m : Nat) => xs[((i : Int) + (m : Int) * 1).toNat]?) = fun m => xs[i + m]? := by
    funext m
    have : ((i : Int) + (m : Int) * 1).toNat = i + m := by omega
    rw [this]
  rw [e]
  have := pick_run xs i k
  rw [List.filterMap_map] at this
  have e2 : ((fun x => xs[x]?) ∘ fun x => i + x) = fun m => xs[i + m]? := rfl
  rw [e2] at this
  rw [this]
theorem getItem_tuple_cut {t sl : Addr} {items : Array Value} {vl vu : Value} {lo hi : Option Int} {Q : Value → Shared → Prop} (ht : IsTup s.heap t items) (hs : s.heap.IsSliceOf sl vl vu .none) (pl : IsPart vl lo) (pu : IsPart vu hi)
    (hw : ¬ (sIx items.size 0 lo = 0 ∧ sIx items.size items.size hi = items.size))
    (h : Q (.ref s.heap.objs.size) { s with heap := s.heap.push { cls := .type "tuple", data := .seq ((items.toList.drop (sIx items.size 0 lo)).take (sIx items.size items.size hi - sIx items.size 0 lo)).toArray } })
    (hsz : items.size ≤ sizeLine) : wpAny (model prog w) A (getItem (.ref t) (.ref sl)) Q E s := by
  have htake : sizeOk (.seq ((items.toList.drop (sIx items.size 0 lo)).take (sIx items.size items.size hi - sIx items.size 0 lo)).toArray) := by
    show ((items.toList.drop (sIx items.size 0 lo)).take (sIx items.size items.size hi - sIx items.size 0 lo)).toArray.size ≤ sizeLine
    rw [List.size_toArray, List.length_take, List.length_drop, Array.length_toList]
    omega
  have hj : sIx items.size items.size hi ≤ items.size := sIx_le _ _ (Nat.le_refl _) hi
  obtain ⟨os, hos, hcs, hds⟩ := id hs
  have hTs : s.TypeIs (.ref sl) "slice" := ⟨os, hos, hcs⟩
  unfold getItem
  try with_reducible refine wpAny_holding ?_
  first | refine wpAny_bind (wpAny_pure ?_) | skip
  refine wpAny_bind (wpAny_sequenceKey ht.typeIs (by decide) ?_)
  refine wpAny_bind (wpAny_callSpecial?_slot (name := Str.ofString "__getitem__") ht.typeIs PyProof.Rows.slot_tuple_getitem
    (wpAny_call_entry PyProof.Rows.slot_tuple_getitem ht.typeIs entry_tuple_getitem ?_ (args_tuple_getitem _ _)))
  show wpAny _ _ (Builtin.Tuple.tupleItemsOf (.ref t) >>= _) _ _ s
  refine wpAny_bind (tupleItemsOf_ ht ?_)
  refine wpAny_bind (wpAny_typeOf hTs ?_)
  rw [if_pos (by decide)]
  refine wpAny_bind (sliceApplied_gen hs pl pu ?_)
  have hno : ¬ ((((sIx items.size 0 lo : Nat) : Int) == 0 && (1 : Int) == 1 && (sIx items.size items.size hi - sIx items.size 0 lo) == items.size) = true) := by
    intro q
    rw [Bool.and_eq_true, Bool.and_eq_true] at q
    have q1 : ((sIx items.size 0 lo : Nat) : Int) = 0 := eq_of_beq q.1.1
    have q2 : sIx items.size items.size hi - sIx items.size 0 lo = items.size := eq_of_beq q.2
    exact hw ⟨by omega, by omega⟩
  show wpAny _ _ (if (((sIx items.size 0 lo : Nat) : Int) == 0 && (1 : Int) == 1 && (sIx items.size items.size hi - sIx items.size 0 lo) == items.size) = true then _ else _) _ _ s
  rw [if_neg hno, pick_gen]
  first
    | exact wpAny_bind (m := Builtin.Tuple.tupleExact _) (wpAny_newObj_type (wpAny_pure ⟨_, rfl, wpAny_pure h⟩) htake)
    | exact wpAny_bind (m := Builtin.Tuple.tupleExact _) (wpAny_newObj_type (wpAny_bind (wpAny_pure (wpAny_pure ⟨_, rfl, wpAny_pure h⟩))) htake)
    | exact wpAny_bind (wpAny_bind (m := Builtin.Tuple.tupleExact _) (wpAny_newObj_type (wpAny_pure (wpAny_pure ⟨_, rfl, wpAny_pure h⟩)) htake))
    | exact wpAny_bind (wpAny_bind (m := Builtin.Tuple.tupleExact _) (wpAny_newObj_type (wpAny_pure ⟨_, rfl, wpAny_pure h⟩) htake))
end
end HT
namespace L2
open PySem PySem.Spec PyProof.Rows
abbrev TO := St → Hp → (Option Int → Hp → Prop) → Prop
def PO (X : Cx) (e : Option Expr) (t : TO) : Prop :=
  ∀ (pins : List (Addr × Obj)) (s : Shared) (σ : St) (H : Hp) (Q : Option Int → Hp → Prop), Inv X pins σ H s → t σ H Q →
    wpAny (model X.prog X.w) X.A (evalPart e X.env) (fun u s' => ∃ o H', Inv X pins σ H' s' ∧ IsPart u o ∧ Q o H') X.xe s
def tNoPart : TO := fun _ H Q => Q none H
def tPart (t : TE) : TO := fun σ H Q => t σ H fun x H1 => ∃ i, x = .int i ∧ Q (some i) H1
section
variable {X : Cx} {e : Expr} {te : TE} {lo hi : Option Expr} {tl th : TO} {pos p2 : Pos}
theorem po_none : PO X none tNoPart := by
  intro pins s σ H Q I h
  rw [evalPart_none]
  exact wpAny_pure ⟨none, H, I, .none, h⟩
theorem po_some (h : PE X e te) : PO X (some e) (tPart te) := by
  intro pins s σ H Q I hw
  rw [evalPart_some]
  refine thn (h pins s σ H _ I hw) fun u s1 ⟨x, H1, I1, r1, q1⟩ => ?_
  obtain ⟨i, rfl, q⟩ := q1
  obtain ⟨t, rfl⟩ := r1
  exact ⟨some i, H1, I1, .int i t, q⟩
def SlR (X : Cx) (r : V → Option Int → Option Int → Hp → VK → Prop) : Prop :=
  ∀ (pins : List (Addr × Obj)) (s : Shared) (σ : St) (H : Hp) (x : V) (v vl vu : Value) (lo hi : Option Int) (sl : Addr) (Q : VK), Inv X pins σ H s → RelV x v → s.heap.IsSliceOf sl vl vu .none → IsPart vl lo → IsPart vu hi → r x lo hi H Q →
    ∃ T id, typeLookup (.type T) "__getitem__" = pure (some (.builtin id)) ∧ s.TypeIs v T ∧ wpAny (model X.prog X.w) X.A (getItem v (.ref sl)) (EP X pins σ Q) X.xe s
def tSl (r : V → Option Int → Option Int → Hp → VK → Prop) (te : TE) (tl th : TO) : TE := fun σ H Q => te σ H fun x H1 => tl σ H1 fun l H2 => th σ H2 fun u H3 => r x l u H3 Q
theorem pe_slice {r : V → Option Int → Option Int → Hp → VK → Prop} (hr : SlR X r) (he : PE X e te) (hl : PO X lo tl) (hu : PO X hi th) : PE X (.Subscript e (.Slice lo hi none p2) pos) (tSl r te tl th) := .mk <| by
  intro pins s σ H Q I h
  refine Subscript_ (thn (he pins s σ H _ I h) fun v s1 ⟨x, H1, I1, r1, q1⟩ => ?_)
  refine wpAny_Slice (thn (hl pins s1 σ H1 _ I1 q1) fun vl s2 ⟨l, H2, I2, pl, q2⟩ => thn (hu pins s2 σ H2 _ I2 q2) fun vu s3 ⟨u, H3, I3, pu, q3⟩ => ?_)
  rw [evalPart_none]
  refine wpAny_pure ?_
  have I4 : Inv X pins σ H3 { s3 with heap := s3.heap.push { cls := .type "slice", data := .fields #[vl, vu, .none] } } := I3.kept (t' := s3.toks) fun b ob q => Heap.get?_push_of_some _ q
  obtain ⟨T, id, hT, ht, hg⟩ := hr pins { s3 with heap := s3.heap.push { cls := .type "slice", data := .fields #[vl, vu, .none] } } σ H3 x v vl vu l u s3.heap.objs.size Q I4 r1 (Heap.IsSliceOf.new ..) pl pu q3
  show wpAny (model X.prog X.w) X.A (subscriptTail e (.Slice lo hi none p2) v (.ref s3.heap.objs.size)) (EP X pins σ Q) X.xe { s3 with heap := s3.heap.push { cls := .type "slice", data := .fields #[vl, vu, .none] } }
  exact tail_any (ops := [.ref s3.heap.objs.size, v]) ht hT hg (by with_unfolding_all rfl)
def cutV (xs : List V) (lo hi : Option Int) : List V := (xs.drop (HT.sIx xs.length 0 lo)).take (HT.sIx xs.length xs.length hi - HT.sIx xs.length 0 lo)
theorem cutV_length (xs : List V) (lo hi : Option Int) : (cutV xs lo hi).length ≤ xs.length := by
  unfold cutV
  rw [List.length_take, List.length_drop]
  omega
def rSlT (K : PySem.W.Frag) : V → Option Int → Option Int → Hp → VK → Prop := fun x lo hi H Q => ∃ a xs, x = .ref a ∧ SqT K H a xs ∧
  ¬ (HT.sIx xs.length 0 lo = 0 ∧ HT.sIx xs.length xs.length hi = xs.length) ∧ ∀ p, H p = none → Q (.ref p) (upd H p (.tup (cutV xs lo hi)))
theorem sl_tup : SlR X (rSlT X.K) := by
  intro pins s σ H x v vl vu lo hi sl Q I rx hs pl pu h
  obtain ⟨a, xs, rfl, hx, hw, q⟩ := h
  cases rx
  obtain ⟨its, r, ht, hz⟩ := I.tuple hx
  have hlen : its.toArray.size = xs.length := by rw [List.size_toArray]; exact r.length.symm
  refine ⟨"tuple", _, PyProof.Rows.slot_tuple_getitem.lookup, ht.typeIs, ?_⟩
  refine HT.getItem_tuple_cut ht hs pl pu (by rw [hlen]; exact hw) ?_ (by rw [hlen]; exact hz)
  rw [hlen]
  refine ⟨.ref s.heap.objs.size, _, I.laid (t' := s.toks) (o := .tup (cutV xs lo hi)) (fun b ob q => Heap.get?_push_of_some _ q) (Nat.le_refl _) ?_, rfl, q _ (I.hok.fresh (Nat.le_refl _))⟩
  exact ⟨Nat.le_trans (cutV_length xs lo hi) hz, _, (r.drop (HT.sIx xs.length 0 lo)).take (HT.sIx xs.length xs.length hi - HT.sIx xs.length 0 lo), TupD.new _ _⟩
def rCatT (K : PySem.W.Frag) : R2 := fun x y H Q => ∃ a b xs ys, x = .ref a ∧ y = .ref b ∧ SqT K H a xs ∧ SqT K H b ys ∧ xs ≠ [] ∧ xs.length + ys.length ≤ sizeLine ∧
  (ys = [] → Q (.ref a) H) ∧ (ys ≠ [] → ∀ p, H p = none → Q (.ref p) (upd H p (.tup (xs ++ ys))))
theorem Vals.nil_iff {xs : List V} {us : List Value} (r : Vals xs us) : us = [] ↔ xs = [] := by
  cases r with
  | nil => simp
  | cons _ _ => simp
theorem op_catT : OpR X (binaryOp .Add) (rCatT X.K) := by
  intro pins s σ H x y v u Q I rx ry h
  obtain ⟨a, b, xs, ys, rfl, rfl, ha, hb, hx, hz, q1, q2⟩ := h
  cases rx
  cases ry
  obtain ⟨its, r1, p1, _⟩ := I.tuple ha
  obtain ⟨its2, r2, p2, _⟩ := I.tuple hb
  refine HT.cat_tup p1 p2 (fun z => hx (r1.nil_iff.mp z)) (fun z => ⟨.ref a, H, I, rfl, q1 (r2.nil_iff.mp z)⟩) (fun z => ?_) (by rw [← r1.length, ← r2.length]; exact hz)
  refine ⟨.ref s.heap.objs.size, _, I.laid (t' := s.toks) (o := .tup (xs ++ ys)) (fun b ob q => Heap.get?_push_of_some _ q) (Nat.le_refl _) ?_, rfl, q2 (fun w => z (r2.nil_iff.mpr w)) _ (I.hok.fresh (Nat.le_refl _))⟩
  exact ⟨by rw [List.length_append]; exact hz, _, r1.append r2, TupD.new _ _⟩
end
end L2
namespace L2
open PySem PySem.Spec PyProof.Rows
def ixN (n : Nat) (i : Int) : Option Nat := if 0 ≤ i then (if i < n then some i.toNat else none) else if -(n : Int) ≤ i then some (i + n).toNat else none
def atI {α : Type} (xs : List α) (i : Int) : Option α := (ixN xs.length i).bind fun j => xs[j]?
theorem ixN_seq {n : Nat} {i : Int} {j : Nat} (h : ixN n i = some j) : seqIndex? i n = some j ∧ j < n ∧ -(n : Int) ≤ i ∧ i < n := by
  unfold ixN at h
  by_cases h0 : 0 ≤ i
  · rw [if_pos h0] at h
    by_cases h1 : i < n
    · rw [if_pos h1] at h
      have e : i.toNat = j := Option.some.inj h
      exact ⟨by rw [seqIndex_of h0 h1, e], by omega, by omega, h1⟩
    · rw [if_neg h1] at h; cases h
  · rw [if_neg h0] at h
    by_cases h1 : -(n : Int) ≤ i
    · rw [if_pos h1] at h
      have e : (i + n).toNat = j := Option.some.inj h
      exact ⟨by rw [seqIndex_neg (by omega) h1, e], by omega, h1, by omega⟩
    · rw [if_neg h1] at h; cases h
theorem atI_get {α : Type} {xs : List α} {i : Int} {v : α} (h : atI xs i = some v) : ∃ j, seqIndex? i xs.length = some j ∧ xs[j]? = some v ∧ j < xs.length ∧ -(xs.length : Int) ≤ i ∧ i < xs.length := by
  unfold atI at h
  cases e : ixN xs.length i with
  | none => rw [e] at h; cases h
  | some j =>
    rw [e] at h
    obtain ⟨h1, h2, h3, h4⟩ := ixN_seq e
    exact ⟨j, h1, h, h2, h3, h4⟩
def PlainIx (b : Expr) : Prop := ∀ o i, subscripted b false o i = operate [o, i] (getItem o i)
def IxR (X : Cx) (r : R2) : Prop :=
  ∀ (value slice : Expr) (pins : List (Addr × Obj)) (s : Shared) (σ : St) (H : Hp) (x y : V) (v u : Value) (Q : VK), Inv X pins σ H s → RelV x v → RelV y u → r x y H Q →
    subscripted slice false v u = operate [v, u] (getItem v u) → wpAny (model X.prog X.w) X.A (subscriptTail value slice v u) (EP X pins σ Q) X.xe s
def MtR (X : Cx) (id : String) (r : V → List V → Hp → VK → Prop) : Prop :=
  ∀ (pins : List (Addr × Obj)) (s : Shared) (σ : St) (H : Hp) (x : V) (xs : List V) (v : Value) (us : List Value) (Q : VK), Inv X pins σ H s → RelV x v → Vals xs us → r x xs H Q →
    wpAny (model X.prog X.w) X.A (call (.builtin id) (v :: us)) (EP X pins σ Q) X.xe s
section
variable {X : Cx} {a b : Expr} {ta tb : TE} {pos : Pos}
theorem IxR.or {r r' : R2} (h : IxR X r) (h' : IxR X r') : IxR X (fun x y H Q => r x y H Q ∨ r' x y H Q) := by
  intro value slice pins s σ H x y v u Q I rx ry q hs
  rcases q with q | q
  · exact h value slice pins s σ H x y v u Q I rx ry q hs
  · exact h' value slice pins s σ H x y v u Q I rx ry q hs
theorem pe_ix {r : R2} (hr : IxR X r) (ha : PE X a ta) (hb : PE X b tb) (hs : PlainIx b) : PE X (.Subscript a b pos) (tOp r ta tb) := .mk <| by
  intro pins s σ H Q I h
  exact Subscript_ (binT ha hb I h fun v u s2 x y H2 I2 rx ry q => hr a b pins s2 σ H2 x y v u Q I2 rx ry q (hs _ _))
def rIxL (K : PySem.W.Frag) : R2 := fun x y H Q => ∃ p xs i v, x = .ref p ∧ y = .int i ∧ SqL K H p xs ∧ atI xs i = some v ∧ Q v H
def rIxT (K : PySem.W.Frag) : R2 := fun x y H Q => ∃ p xs i v, x = .ref p ∧ y = .int i ∧ SqT K H p xs ∧ atI xs i = some v ∧ Q v H
def rIxS : R2 := fun x y H Q => ∃ z i c, x = .str z ∧ y = .int i ∧ z.length ≤ sizeLine ∧ atI z.cps.toList i = some c ∧ Q (.str ⟨#[c]⟩) H
theorem ix_list : IxR X (rIxL X.K) := by
  intro value slice pins s σ H x y v u Q I rx ry h hs
  obtain ⟨p, xs, i, z, rfl, rfl, hq, he, q⟩ := h
  cases rx
  obtain ⟨t, rfl⟩ := ry
  obtain ⟨its, r, pl, hz⟩ := I.list hq
  obtain ⟨j, h1, h2, h3, h4, h5⟩ := atI_get he
  obtain ⟨w, ew, rw'⟩ := r.get h2
  have hl := r.length
  have hn := line63
  have fin : EP X pins σ Q w s := ⟨z, H, I, rw', q⟩
  by_cases h0 : 0 ≤ i
  · have hj : i.toNat = j := by
      rw [seqIndex_of h0 h5] at h1
      exact Option.some.inj h1
    exact item_listR pl.isList h0 (by omega) (by rw [hj]; simpa using ew) fin hs
  · have hj : (i + (its.toArray.size : Int)).toNat = j := by
      rw [seqIndex_neg (by omega) h4] at h1
      rw [List.size_toArray, ← hl]
      exact Option.some.inj h1
    exact subscriptTail_builtinR (x := w) pl.isList.typeIs slot_list_getitem.lookup
      (wpAny_getItem_list_neg (Q := fun r s' => r = w ∧ EP X pins σ Q r s') pl.isList (by omega) (by rw [List.size_toArray] <;> omega) (by omega) (by rw [hj]; simpa using ew) ⟨rfl, fin⟩) hs
theorem ix_tup : IxR X (rIxT X.K) := by
  intro value slice pins s σ H x y v u Q I rx ry h hs
  obtain ⟨p, xs, i, z, rfl, rfl, hq, he, q⟩ := h
  cases rx
  obtain ⟨t, rfl⟩ := ry
  obtain ⟨its, r, pl, hz⟩ := I.tuple hq
  obtain ⟨j, h1, h2, h3, h4, h5⟩ := atI_get he
  obtain ⟨w, ew, rw'⟩ := r.get h2
  have hl := r.length
  have hn := line63
  have fin : EP X pins σ Q w s := ⟨z, H, I, rw', q⟩
  exact subscriptTail_builtinR (x := w) pl.typeIs slot_tuple_getitem.lookup
    (getItem_tuple (j := j) (Q := fun r s' => r = w ∧ EP X pins σ Q r s') pl (by omega) (by omega) (by rw [List.size_toArray, ← hl]; exact h1) (by simpa using ew) ⟨rfl, fin⟩) hs
theorem ix_str : IxR X rIxS := by
  intro value slice pins s σ H x y v u Q I rx ry h hs
  obtain ⟨z, i, c, rfl, rfl, hz, he, q⟩ := h
  obtain ⟨t, rfl⟩ := rx
  obtain ⟨t', rfl⟩ := ry
  obtain ⟨j, h1, h2, h3, h4, h5⟩ := atI_get he
  have hl : z.cps.toList.length = z.length := by simp [Str.length]
  rw [hl] at h1 h4 h5
  have hn := line63
  exact tail_any (typeIs_str s z t) slot_str_getitem.lookup (getItem_str (c := c) (by
    have e1 : decide (i < -(2 ^ 63 : Int)) = false := decide_eq_false (by omega)
    have e2 : decide (i ≥ 2 ^ 63) = false := decide_eq_false (by omega)
    rw [e1, e2, Bool.or_false]) (by rw [h1]; simpa using h2) ⟨.str ⟨#[c]⟩, H, I.tok _, ⟨_, rfl⟩, q⟩) hs
def rIx (K : PySem.W.Frag) : R2 := fun x y H Q => rIxL K x y H Q ∨ rIxT K x y H Q ∨ rIxS x y H Q
theorem ix_seq : IxR X (rIx X.K) := ix_list.or (ix_tup.or ix_str)
theorem mapSeq_set (its : List Value) (n j : Nat) (u : Value) : Obj.mapSeq (·.setIfInBounds j u) { cls := .type "list", data := .seq its.toArray n } = { cls := .type "list", data := .seq (its.set j u).toArray n } := by
  simp [Obj.mapSeq]
theorem Inv.lst {pins : List (Addr × Obj)} {σ : St} {H : Hp} {s : Shared} {p : Addr} {xs : List V} (I : Inv X pins σ H s) (h : H p = some (.lst xs)) :
    ∃ (its : List Value) (n : Nat), Vals xs its ∧ s.heap.get? p = some { cls := .type "list", data := .seq its.toArray n } ∧ xs.length ≤ sizeLine := by
  obtain ⟨z, its, n, r, e⟩ := I.hok p _ h
  exact ⟨its, n, r, e, z⟩
theorem Inv.lstUpd {pins : List (Addr × Obj)} {σ : St} {H : Hp} {s : Shared} {p : Addr} {xs ys : List V} {its its' : List Value} {n n' : Nat} {f : Obj → Obj} (I : Inv X pins σ H s) (h : H p = some (.lst xs))
    (ho : s.heap.get? p = some { cls := .type "list", data := .seq its.toArray n }) (hf : f { cls := .type "list", data := .seq its.toArray n } = { cls := .type "list", data := .seq its'.toArray n' }) (r : Vals ys its') (hz : ys.length ≤ sizeLine) (t : Nat) :
    Inv X pins σ (upd H p (.lst ys)) { s with heap := s.heap.update p f, toks := t } := by
  have e : (s.heap.update p f).get? p = some { cls := .type "list", data := .seq its'.toArray n' } := by
    rw [Heap.get?_update_self f ho (by rw [hf] <;> rfl), hf]
  refine I.write (x := p) (e := p) (by rw [h]; trivial) (.inl rfl) (fun b u hb q => (Heap.get?_update_other _ _ (Ne.symm hb)).trans q) ⟨_, e⟩ ?_
  exact ⟨hz, its', n', r, e⟩
def rSetL : V → V → V → Hp → (Hp → Prop) → Prop := fun o i v H Q => ∃ p xs k j, o = .ref p ∧ i = .int k ∧ H p = some (.lst xs) ∧ ixN xs.length k = some j ∧ Q (upd H p (.lst (xs.set j v)))
theorem set_list : PSet X rSetL := by
  intro pins s σ H o i v ov iv u Q I ro ri rv h
  obtain ⟨p, xs, k, j, rfl, rfl, hp, hj, q⟩ := h
  cases ro
  obtain ⟨t, rfl⟩ := ri
  obtain ⟨its, n, r, ho, hz⟩ := I.lst hp
  obtain ⟨h1, h2, h3, h4⟩ := ixN_seq hj
  have hl := r.length
  have hn := line63
  have I' : Inv X pins σ (upd H p (.lst (xs.set j v))) { s with heap := s.heap.update p (Obj.mapSeq (·.setIfInBounds j u)) } :=
    I.lstUpd hp ho (mapSeq_set its n j u) (r.set rv j) (by rw [List.length_set]; exact hz) s.toks
  by_cases h0 : 0 ≤ k
  · have hk : k.toNat = j := by
      rw [seqIndex_of h0 h4] at h1
      exact Option.some.inj h1
    exact PySem.W.ki_setAt ho h0 (by omega) (by rw [List.size_toArray, ← hl]; exact h4) (by rw [hk]; exact ⟨_, I', q⟩)
  · have hk : (k + (its.toArray.size : Int)).toNat = j := by
      rw [seqIndex_neg (by omega) h3] at h1
      rw [List.size_toArray, ← hl]
      exact Option.some.inj h1
    exact PySem.W.ki_setBack ho (by omega) (by rw [List.size_toArray, ← hl]; exact h3) (by omega) (by rw [hk]; exact ⟨_, I', q⟩)
theorem slice_bounds (lo hi : Option Int) (n : Nat) : (sliceBounds lo hi none n).1 = ((HT.sIx n 0 lo : Nat) : Int) ∧ (sliceBounds lo hi none n).2.1 = ((HT.sIx n n hi : Nat) : Int) ∧ (sliceBounds lo hi none n).2.2 = 1 := by
  refine ⟨?_, ?_, rfl⟩
  · cases lo with
    | none => simp [sliceBounds, HT.sIx]
    | some i =>
      simp only [sliceBounds, HT.sIx, Option.getD_none, show (1 : Int) > 0 by decide, if_true]
      by_cases h : i < 0
      · simp only [h, if_true] <;> omega
      · simp only [h, if_false] <;> omega
  · cases hi with
    | none => simp [sliceBounds, HT.sIx]
    | some i =>
      simp only [sliceBounds, HT.sIx, Option.getD_none, show (1 : Int) > 0 by decide, if_true]
      by_cases h : i < 0
      · simp only [h, if_true] <;> omega
      · simp only [h, if_false] <;> omega
theorem slicePick_cut (its : List Value) (lo hi : Option Int) : slicePick its.toArray lo hi none = ((its.drop (HT.sIx its.length 0 lo)).take (HT.sIx its.length its.length hi - HT.sIx its.length 0 lo)).toArray := by
  obtain ⟨h1, h2, h3⟩ := slice_bounds lo hi its.toArray.size
  unfold slicePick
  rw [h1, h2, h3]
  simp only [sliceRange_one, pick_run, List.size_toArray] <;> rfl
def rSlL (K : PySem.W.Frag) : V → Option Int → Option Int → Hp → VK → Prop := fun x lo hi H Q => ∃ a xs, x = .ref a ∧ SqL K H a xs ∧ ∀ p, H p = none → Q (.ref p) (upd H p (.lst (cutV xs lo hi)))
theorem sl_list : SlR X (rSlL X.K) := by
  intro pins s σ H x v vl vu lo hi sl Q I rx hs pl pu h
  obtain ⟨a, xs, rfl, hx, q⟩ := h
  cases rx
  obtain ⟨its, r, ht, hz⟩ := I.list hx
  have hlen := r.length
  refine ⟨"list", _, slot_list_getitem.lookup, ht.isList.typeIs, ?_⟩
  refine wpAny_getItem_list_slice ht.isList hs pl pu .none (by simp) ?_ (by rw [List.size_toArray] <;> omega)
  rw [slicePick_cut, ← hlen]
  refine ⟨.ref s.heap.objs.size, _, I.laid (t' := s.toks) (o := .lst (cutV xs lo hi)) (fun b ob q => Heap.get?_push_of_some _ q) (Nat.le_refl _) ?_, rfl, q _ (I.hok.fresh (Nat.le_refl _))⟩
  exact ⟨Nat.le_trans (cutV_length xs lo hi) hz, _, 0, (r.drop (HT.sIx xs.length 0 lo)).take (HT.sIx xs.length xs.length hi - HT.sIx xs.length 0 lo), Heap.get?_push_size _ rfl⟩
theorem call_list_of : CallR X (.type "list") (fun xs H Q => ∃ p ys, xs = [.ref p] ∧ (SqL X.K H p ys ∨ SqT X.K H p ys) ∧ ∀ l, H l = none → Q (.ref l) (upd H l (.lst ys))) := by
  intro pins s σ H xs us Q I r h
  obtain ⟨p, ys, rfl, hq, q⟩ := h
  obtain ⟨u, rfl, rx⟩ := vals1 r
  cases rx
  have fin : ∀ (its : List Value), Vals ys its → ys.length ≤ sizeLine → ∀ (h' : Heap) (c' : Nat), (∀ b o', s.heap.get? b = some o' → h'.get? b = some o') →
      h'.get? s.heap.objs.size = some { cls := .type "list", dict := none, data := .seq its.toArray c', slots := #[] } → EP X pins σ Q (.ref s.heap.objs.size) { s with heap := h' } := fun its r' hz h' c' kp e =>
    ⟨.ref s.heap.objs.size, _, I.laid (t' := s.toks) kp (Nat.le_refl _) (show ObjOk X.prog X.w _ h' _ (.lst ys) from ⟨hz, its, c', r', e⟩), rfl, q _ (I.hok.fresh (Nat.le_refl _))⟩
  rcases hq with hq | hq
  · obtain ⟨its, r', pl, hz⟩ := I.list hq
    have hlen := r'.length
    obtain ⟨o, ho, hc, n, hd⟩ := pl.isList
    exact call_list_seq p (.inl rfl) ho hc hd (fun h' c' kp e => fin its r' hz h' c' kp e) (by simp only [List.size_toArray] <;> omega)
  · obtain ⟨its, r', pl, hz⟩ := I.tuple hq
    have hlen := r'.length
    obtain ⟨o, ho, hc, n, hd⟩ := pl
    exact call_list_seq p (.inr rfl) ho hc hd (fun h' c' kp e => fin its r' hz h' c' kp e) (by simp only [List.size_toArray] <;> omega)
theorem call_tuple_of : CallR X (.type "tuple") (fun xs H Q => ∃ p ys, xs = [.ref p] ∧ ((SqL X.K H p ys ∧ ∀ l, H l = none → Q (.ref l) (upd H l (.tup ys))) ∨ (SqT X.K H p ys ∧ Q (.ref p) H))) := by
  intro pins s σ H xs us Q I r h
  obtain ⟨p, ys, rfl, h⟩ := h
  obtain ⟨u, rfl, rx⟩ := vals1 r
  cases rx
  rcases h with ⟨hq, q⟩ | ⟨hq, q⟩
  · obtain ⟨its, r', pl, hz⟩ := I.list hq
    have hlen := r'.length
    refine call_tuple_list pl.isList (fun h' kp => ?_) (by simp only [List.size_toArray] <;> omega)
    have I1 : Inv X pins σ H { s with heap := h' } := I.kept (t' := s.toks) kp
    have I2 : Inv X pins σ (upd H h'.objs.size (.tup ys)) { s with heap := h'.push { cls := .type "tuple", data := .seq its.toArray } } :=
      I1.laid (t' := s.toks) (fun b o e => Heap.get?_push_of_some _ e) (Nat.le_refl _) (show ObjOk X.prog X.w _ _ _ (.tup ys) from ⟨hz, its, r', TupD.new _ _⟩)
    exact ⟨.ref h'.objs.size, _, I2, rfl, q _ (I1.hok.fresh (Nat.le_refl _))⟩
  · obtain ⟨its, r', pl, hz⟩ := I.tuple hq
    exact call_tuple_same pl ⟨.ref p, H, I, rfl, q⟩
def tyV (K : PySem.W.Frag) (T : String) (x : V) (H : Hp) : Prop := match x with
  | .str _ => T = "str"
  | .int _ => T = "int"
  | .ref p => (T = "list" ∧ ∃ xs, SqL K H p xs) ∨ (T = "tuple" ∧ ∃ o, K.lookup p = some o ∧ o.cls = .type "tuple" ∧ o.dict = none) ∨
      (T = "dict" ∧ ((∃ kvs, H p = some (.dK kvs)) ∨ ∃ kvs, H p = some (.dT kvs))) ∨ (T = "set" ∧ ∃ S n, H p = some (.set S n))
  | _ => False
theorem tyV_is {pins : List (Addr × Obj)} {σ : St} {H : Hp} {s : Shared} {T : String} {x : V} {v : Value} (I : Inv X pins σ H s) (r : RelV x v) (ty : tyV X.K T x H) :
    s.TypeIs v T ∧ ∀ a, v = .ref a → ∃ ob, s.heap.get? a = some ob ∧ ob.dict = none := by
  cases x with
  | str z =>
    obtain ⟨t, rfl⟩ := r
    cases (show T = "str" from ty)
    exact ⟨typeIs_str s z t, fun _ e => nomatch e⟩
  | int i =>
    obtain ⟨t, rfl⟩ := r
    cases (show T = "int" from ty)
    exact ⟨typeIs_int s i t, fun _ e => nomatch e⟩
  | ref p =>
    cases r
    rcases ty with ⟨rfl, xs, hq⟩ | ⟨rfl, o, hk, hc, hd⟩ | ⟨rfl, hk⟩ | ⟨rfl, S, n, hk⟩
    · obtain ⟨its, _, pl, _⟩ := I.list hq
      refine ⟨pl.isList.typeIs, fun a e => ?_⟩
      cases e
      obtain ⟨o, n, e, c, hd, _⟩ := pl
      exact ⟨o, e, hd⟩
    · refine ⟨⟨o, I.kIn p o hk, hc⟩, fun a e => ?_⟩
      cases e
      exact ⟨o, I.kIn _ o hk, hd⟩
    · have z : ∃ o, s.heap.get? p = some o ∧ o.ExactDict := by
        rcases hk with ⟨kvs, hk⟩ | ⟨kvs, hk⟩
        · obtain ⟨_, _, _, _, o, _, _, e, ex, _⟩ := I.hok p _ hk
          exact ⟨o, e, ex⟩
        · obtain ⟨_, _, _, _, o, _, _, e, ex, _⟩ := I.hok p _ hk
          exact ⟨o, e, ex⟩
      obtain ⟨o, e, ex⟩ := z
      refine ⟨⟨o, e, ex.1⟩, fun a e2 => ?_⟩
      cases e2
      exact ⟨o, e, ex.2.1⟩
    · obtain ⟨o, _, _, _, e, ex, _⟩ := I.hok p _ hk
      refine ⟨⟨o, e, ex.1⟩, fun a e2 => ?_⟩
      cases e2
      exact ⟨o, e, ex.2.1⟩
  | _ => exact False.elim ty
def tBM0 (K : PySem.W.Frag) (T : String) (r : V → List V → Hp → VK → Prop) (to : TE) : TE := fun σ H Q => to σ H fun x H1 => tyV K T x H1 ∧ r x [] H1 Q
def tBM (K : PySem.W.Frag) (T : String) (r : V → List V → Hp → VK → Prop) (to : TE) (t : TA) : TE := fun σ H Q => to σ H fun x H1 => tyV K T x H1 ∧ t σ H1 fun xs H2 => r x xs H2 Q
variable {o e : Expr} {es : List Expr} {to : TE} {t : TA} {name : Str} {apos cpos : Pos} {T id : String} {r : V → List V → Hp → VK → Prop}
theorem pe_bm0 (pa : PlainAttrs T) (slot : Slot T name id) (hty : typeOf (.builtin id) = pure (.type "method_descriptor")) (hm : MtR X id r) (ho : PE X o to)
    (hbase : attributeBase o name X.env (eval o X.env) = eval o X.env := by rfl) (hline : (apos.endLine == cpos.line) = true := by rfl) : PE X (.Call (.Attribute o name apos) [] [] cpos) (tBM0 X.K T r to) := .mk <| by
  intro pins s σ H Q I h
  refine wpAny_Call_method0_late hbase hline (thn (ho pins s σ H _ I h) fun v s1 ⟨x, H1, I1, r1, ty, q1⟩ => ?_)
  obtain ⟨h1, h2⟩ := tyV_is I1 r1 ty
  exact ⟨T, id, pa, slot, hty, h1, h2, Calls.callWith_builtin rfl (PySem.evalArgs_none (hm pins s1 σ H1 x [] v [] Q I1 r1 .nil q1))⟩
theorem pe_bm (pa : PlainAttrs T) (slot : Slot T name id) (hty : typeOf (.builtin id) = pure (.type "method_descriptor")) (hm : MtR X id r) (ho : PE X o to) (ha : PA X (e :: es) t)
    (hbase : attributeBase o name X.env (eval o X.env) = eval o X.env := by rfl)
    (hfew : ((backTo cpos (starEach (e :: es) X.env)).all (fun x => !x.1) && (backToKw cpos (keywordEach [] X.env)).all (fun x => x.1.isSome)
      && decide ((e :: es).length + ([] : List Keyword).length + (if ([] : List Keyword).isEmpty then 0 else 1) < 30)) = true := by rfl)
    (hline : (apos.endLine == cpos.line) = true := by rfl) (hs : starEach (e :: es) X.env = (false, eval e X.env) :: starEach es X.env := by rfl) (hplain : (backTo cpos (starEach es X.env)).any (·.1) = false := by rfl) :
    PE X (.Call (.Attribute o name apos) (e :: es) [] cpos) (tBM X.K T r to t) := .mk <| by
  intro pins s σ H Q I h
  refine wpAny_Call_method_late hbase hfew hline rfl (thn (ho pins s σ H _ I h) fun v s1 ⟨x, H1, I1, r1, ty, q1⟩ => ?_)
  obtain ⟨h1, h2⟩ := tyV_is I1 r1 ty
  refine ⟨T, id, pa, slot, hty, h1, h2, ?_⟩
  have hA := ha cpos pins s1 σ H1 _ I1 q1
  rw [hs] at hA ⊢
  refine Calls.callWith_builtin (by show (false || (backTo cpos (starEach es X.env)).any (·.1)) = false; rw [hplain] <;> rfl) (Calls.evalArgs_plain ?_)
  exact thn hA fun us s2 ⟨vs, H2, I2, r2, q2⟩ => hm pins s2 σ H2 x vs v us Q I2 r1 r2 q2
end
end L2
namespace L2
open PySem PySem.Spec PyProof.Rows
def MtM (X : Cx) (id : String) (r : V → List V → Hp → VK → Prop) : Prop :=
  ∀ (pins : List (Addr × Obj)) (s : Shared) (σ : St) (H : Hp) (x : V) (xs : List V) (v : Value) (us : List Value) (Q : VK), Inv X pins σ H s → RelV x v → Vals xs us → r x xs H Q →
    wpAny (model X.prog X.w) X.A (call (.builtin id) (v :: us)) (EP X pins σ Q) X.xe s
theorem Vals.one : ∀ {x : V} {us : List Value}, Vals [x] us → ∃ u, us = [u] ∧ RelV x u
  | _, _, .cons r .nil => ⟨_, rfl, r⟩
theorem Vals.zero : ∀ {us : List Value}, Vals [] us → us = []
  | _, .nil => rfl
theorem Vals.eraseIdx : ∀ {xs : List V} {us : List Value} (i : Nat), Vals xs us → Vals (xs.eraseIdx i) (us.eraseIdx i)
  | _, _, _, .nil => .nil
  | _, _, 0, .cons _ t => t
  | _, _, i + 1, .cons r t => .cons r (Vals.eraseIdx i t)
theorem Vals.rep {xs : List V} {us : List Value} (h : Vals xs us) : ∀ k : Nat, Vals (List.replicate k xs).flatten (List.replicate k us).flatten
  | 0 => .nil
  | k + 1 => by
    rw [List.replicate_succ, List.replicate_succ, List.flatten_cons, List.flatten_cons]
    exact Vals.append h (Vals.rep h k)
theorem len_erase {α : Type} : ∀ (l : List α) (i : Nat), (l.eraseIdx i).length ≤ l.length
  | [], _ => Nat.le_refl _
  | _ :: _, 0 => Nat.le_succ _
  | _ :: r, i + 1 => Nat.succ_le_succ (len_erase r i)
theorem foldl_rep (its : List Value) : ∀ (k : Nat) (acc : List Value),
    List.foldl (fun x1 x2 => x1 ++ x2) acc.toArray (List.replicate k its.toArray) = (acc ++ (List.replicate k its).flatten).toArray
  | 0, acc => by simp
  | k + 1, acc => by
    have e : acc.toArray ++ its.toArray = (acc ++ its).toArray := by simp
    have e2 : (acc ++ its) ++ (List.replicate k its).flatten = acc ++ (List.replicate (k + 1) its).flatten := by
      rw [List.replicate_succ, List.flatten_cons, List.append_assoc]
    rw [← e2, ← foldl_rep its k (acc ++ its), ← e, List.replicate_succ, List.foldl_cons]
section
variable {X : Cx} {pins : List (Addr × Obj)} {σ : St} {H : Hp} {s : Shared} {l b : Addr} {xs ys zs : List V}
theorem Inv.lset {its its' : List Value} {n : Nat} {f : Array Value → Array Value} {t' : Nat} (I : Inv X pins σ H s) (hH : H l = some (.lst xs))
    (e : s.heap.get? l = some { cls := .type "list", data := .seq its.toArray n }) (hf : f its.toArray = its'.toArray) (hv : Vals ys its') (hz : ys.length ≤ sizeLine) :
    Inv X pins σ (upd H l (.lst ys)) { s with heap := s.heap.update l (Obj.mapSeq f), toks := t' } := by
  have q := PySem.IsL.update e f
  rw [hf] at q
  refine I.write (x := l) (e := l) (by rw [hH]; exact trivial) (.inl rfl) (fun b' u hb hu => (Heap.get?_update_other s.heap (Obj.mapSeq f) (Ne.symm hb)).trans hu) ⟨_, q⟩ ?_
  exact ⟨hz, its', _, hv, q⟩
theorem Inv.lnew {its : List Value} {t' : Nat} (I : Inv X pins σ H s) (hv : Vals ys its) (hz : ys.length ≤ sizeLine) :
    Inv X pins σ (upd H s.heap.objs.size (.lst ys)) { s with heap := s.heap.push { cls := .type "list", data := .seq its.toArray }, toks := t' } :=
  I.laid (fun _ _ q => Heap.get?_push_of_some _ q) (Nat.le_refl _) ⟨hz, its, 0, hv, Heap.get?_push_size _ rfl⟩
theorem Inv.fresh (I : Inv X pins σ H s) : H s.heap.objs.size = none := I.hok.fresh (Nat.le_refl _)
theorem Inv.lstM (I : Inv X pins σ H s) (hH : H l = some (.lst xs)) : xs.length ≤ sizeLine ∧ ∃ (its : List Value) (n : Nat), Vals xs its ∧ xs.length = its.length ∧ s.heap.get? l = some { cls := .type "list", data := .seq its.toArray n } := by
  obtain ⟨z, its, n, r, e⟩ := I.hok l _ hH
  exact ⟨z, its, n, r, r.length, e⟩
theorem notLongL {n : Nat} (h : n ≤ sizeLine) : Builtin.List.listTooLong n = false := by
  unfold Builtin.List.listTooLong
  exact decide_eq_false (by omega)
end
section
variable {X : Cx}
def rAppend : V → List V → Hp → VK → Prop := fun x vs H Q => ∃ l xs y, x = .ref l ∧ vs = [y] ∧ H l = some (.lst xs) ∧ xs.length < sizeLine ∧ Q .non (upd H l (.lst (xs ++ [y])))
theorem mt_append : MtM X "list.append" rAppend := by
  intro pins s σ H x vs v us Q I rx rv h
  obtain ⟨l, xs, y, rfl, rfl, hH, hz, q⟩ := h
  cases rx
  obtain ⟨u, rfl, ru⟩ := rv.one
  obtain ⟨z, its, n, r, hl, e⟩ := I.lstM hH
  refine call_meets F.slot_list_append ⟨_, e, rfl⟩ F.entry_list_append (F.args_list_append_2 _ _) (PySem.list_append l its.toArray n u (by rw [List.size_toArray]; omega)) ⟨e, ?_⟩
  refine ⟨.non, _, I.lset (its' := its ++ [u]) hH e (by simp) (r.append (.cons ru .nil)) ?_, rfl, q⟩
  rw [List.length_append, List.length_singleton]
  omega
def rPopAt : V → List V → Hp → VK → Prop := fun x vs H Q => ∃ l xs i k y, x = .ref l ∧ vs = [.int i] ∧ H l = some (.lst xs) ∧ -(2 ^ 63) ≤ i ∧ i < 2 ^ 63 ∧ seqIndex? i xs.length = some k ∧ xs[k]? = some y ∧ Q y (upd H l (.lst (xs.eraseIdx k)))
theorem mt_popAt : MtM X "list.pop" rPopAt := by
  intro pins s σ H x vs v us Q I rx rv h
  obtain ⟨l, xs, i, k, y, rfl, rfl, hH, h1, h2, hk, hy, q⟩ := h
  cases rx
  obtain ⟨u, rfl, ru⟩ := rv.one
  obtain ⟨t, rfl⟩ := ru
  obtain ⟨z, its, n, r, hl, e⟩ := I.lstM hH
  obtain ⟨w, hw, rw'⟩ := r.get hy
  refine call_meets F.slot_list_pop ⟨_, e, rfl⟩ F.entry_list_pop (F.args_list_pop_2 _ _)
    (MeetsSeq.list_pop_at l its.toArray n i t k w (fitsIndex_both h1 h2) (by rw [List.size_toArray, ← hl]; exact hk) (by rw [← Array.getElem?_toList]; exact hw) (by rw [List.size_toArray]; omega)) ⟨e, ?_⟩
  refine ⟨y, _, I.lset (its' := its.eraseIdx k) hH e ?_ (r.eraseIdx k) ?_, rw', q⟩
  · show its.toArray.eraseIdxIfInBounds k = (its.eraseIdx k).toArray
    rw [List.eraseIdxIfInBounds_toArray]
  · have := len_erase xs k
    omega
def rClear : V → List V → Hp → VK → Prop := fun x vs H Q => ∃ l xs, x = .ref l ∧ vs = [] ∧ H l = some (.lst xs) ∧ Q .non (upd H l (.lst []))
theorem mt_clear : MtM X "list.clear" rClear := by
  intro pins s σ H x vs v us Q I rx rv h
  obtain ⟨l, xs, rfl, rfl, hH, q⟩ := h
  cases rx
  have hus := rv.zero
  subst hus
  obtain ⟨z, its, n, r, hl, e⟩ := I.lstM hH
  refine call_meets F.slot_list_clear ⟨_, e, rfl⟩ F.entry_list_clear (F.args_list_clear_1 _) (AutoSeq1.list_clear_list_0 l its.toArray n (by rw [List.size_toArray]; omega)) ⟨e, ?_⟩
  exact ⟨.non, _, I.lset (its' := []) (ys := []) hH e rfl .nil (Nat.zero_le _), rfl, q⟩
def rCat : R2 := fun x y H Q => ∃ l b xs zs, x = .ref l ∧ y = .ref b ∧ H l = some (.lst xs) ∧ H b = some (.lst zs) ∧ xs.length + zs.length ≤ sizeLine ∧ ∀ p, H p = none → Q (.ref p) (upd H p (.lst (xs ++ zs)))
theorem op_cat : OpR X (binaryOp .Add) rCat := by
  intro pins s σ H x y v u Q I rx ry h
  obtain ⟨l, b, xs, zs, rfl, rfl, hH, hB, hz, q⟩ := h
  cases rx
  cases ry
  obtain ⟨z, its, n, r, hl, e⟩ := I.lstM hH
  obtain ⟨z2, its2, n2, r2, hl2, e2⟩ := I.lstM hB
  refine PySem.P.add_list e e2 ?_ (by rw [List.size_toArray, List.size_toArray]; omega)
  have ea : its.toArray ++ its2.toArray = (its ++ its2).toArray := by simp
  rw [ea]
  exact ⟨.ref _, _, I.lnew (t' := s.toks) (r.append r2) (by rw [List.length_append]; omega), rfl, q _ I.fresh⟩
def rRep : R2 := fun x y H Q => ∃ l k xs, x = .ref l ∧ y = .int k ∧ H l = some (.lst xs) ∧ -(2 ^ 63) ≤ k ∧ k < 2 ^ 63 ∧ xs.length * k.toNat ≤ sizeLine ∧
  ∀ p, H p = none → Q (.ref p) (upd H p (.lst (List.replicate k.toNat xs).flatten))
theorem len_rep {α : Type} (xs : List α) (k : Nat) : (List.replicate k xs).flatten.length = k * xs.length := by
  induction k with
  | zero => simp
  | succ k ih => rw [List.replicate_succ, List.flatten_cons, List.length_append, ih, Nat.succ_mul, Nat.add_comm]
theorem op_rep : OpR X (binaryOp .Mult) rRep := by
  intro pins s σ H x y v u Q I rx ry h
  obtain ⟨l, k, xs, rfl, rfl, hH, h1, h2, hz, q⟩ := h
  cases rx
  obtain ⟨t, rfl⟩ := ry
  obtain ⟨z, its, n, r, hl, e⟩ := I.lstM hH
  have hlen : its.toArray.size * k.toNat ≤ sizeLine := by rw [List.size_toArray, ← hl]; exact hz
  have hcap : ¬ its.toArray.size * k.toNat > (2 ^ 63 - 1) / 8 := by
    have : (sizeLine : Nat) ≤ (2 ^ 63 - 1) / 8 := by decide
    omega
  have hfit : ¬ (!Builtin.List.listFitsIndex k) = true := by
    rw [fitsIndex_both h1 h2]
    exact Bool.false_ne_true
  have hlong : ¬ Builtin.List.listTooLong (its.toArray.size * k.toNat) = true := by
    rw [notLongL hlen]
    exact Bool.false_ne_true
  have hnew : List.foldl (fun x1 x2 => x1 ++ x2) #[] (List.replicate (if its.toArray.isEmpty = true then 0 else k.toNat) its.toArray) = (List.replicate k.toNat its).flatten.toArray := by
    have f0 : ∀ m : Nat, List.foldl (fun x1 x2 => x1 ++ x2) #[] (List.replicate m its.toArray) = (List.replicate m its).flatten.toArray := fun m => by
      have := foldl_rep its m []
      rw [List.nil_append] at this
      exact this
    rw [f0]
    cases its with
    | nil => simp
    | cons a r' => rw [if_neg (by simp)]
  refine wpAny_binaryOp_repeat_ref (T := "list") (U := "int") (by decide) ⟨_, e, rfl⟩ (fun s' => typeIs_int s' k t) noFill_list_mul F.fills_int_mul F.slot_int_rmul repeat_list F.slot_int_index.lookup
    (call_meets F.slot_int_rmul (typeIs_int s k t) F.entry_int_rmul (F.args_int_rmul_2 _ _) (int___rmul___int_list k t l its.toArray n)
      ⟨e, rfl, ⟨_, e, rfl⟩, call_meets F.slot_list_mul ⟨_, e, rfl⟩ F.entry_list_mul (F.args_list_mul_2 _ _) (AutoListH.list___mul___list_int_3 l its.toArray n k t hfit hcap hlong) ⟨e, ?_⟩⟩)
  rw [hnew]
  exact ⟨.ref _, _, I.lnew (t' := s.toks) (r.rep k.toNat) (by rw [len_rep, Nat.mul_comm]; exact hz), rfl, q _ I.fresh⟩
end
section
variable {prog : Program} {w : World} {A : Around} {E : Value → Shared → Prop} {s : Shared}
set_option maxRecDepth 100000 in
end
section
variable {X : Cx}
end
end L2
namespace L2
open PySem PySem.Spec PyProof.Rows
section
variable {κ : Type} [DecidableEq κ]
end
section
variable {P : Program} {w : World} {H : Hp} {h : Heap} {a : Addr}
end
section
variable {X : Cx} {pins : List (Addr × Obj)} {σ : St} {H : Hp} {s : Shared} {a : Addr} {y v : V} {u r : Value} {o : Option V} {A : Around} {E : Value → Shared → Prop}
end
section
variable {X : Cx} {pins : List (Addr × Obj)} {σ : St} {H : Hp} {s : Shared} {a : Addr} {kvs : List (Key × V)} {k : Key} {u : Value} {A : Around} {E : Value → Shared → Prop}
end
section
variable {X : Cx} {o i e value : Expr} {pos pos' tpos : Pos} {td ty tv : TE}
end
section
variable {X : Cx} {pos : Pos}
end
structure M1 (X : Cx) (o : Expr) (m : Str) (apos : Pos) (e : Expr) (cpos : Pos) : Prop where
  base : attributeBase o m X.env (eval o X.env) = eval o X.env
  few : ((backTo cpos (starEach [e] X.env)).all (fun x => !x.1) && (backToKw cpos (keywordEach [] X.env)).all (fun x => x.1.isSome)
    && decide (([e] : List Expr).length + ([] : List Keyword).length + (if ([] : List Keyword).isEmpty then 0 else 1) < 30)) = true
  line : (apos.endLine == cpos.line) = true
  trees : backTo cpos (starEach [e] X.env) = [(false, eval e X.env)]
structure M2 (X : Cx) (o : Expr) (m : Str) (apos : Pos) (e f : Expr) (cpos : Pos) : Prop where
  base : attributeBase o m X.env (eval o X.env) = eval o X.env
  few : ((backTo cpos (starEach [e, f] X.env)).all (fun x => !x.1) && (backToKw cpos (keywordEach [] X.env)).all (fun x => x.1.isSome)
    && decide (([e, f] : List Expr).length + ([] : List Keyword).length + (if ([] : List Keyword).isEmpty then 0 else 1) < 30)) = true
  line : (apos.endLine == cpos.line) = true
  trees : backTo cpos (starEach [e, f] X.env) = [(false, eval e X.env), (false, eval f X.env)]
section
variable {X : Cx} {pins : List (Addr × Obj)} {σ : St} {H : Hp} {s : Shared} {a : Addr} {y d : V} {u r : Value} {o : Option V} {A : Around} {E : Value → Shared → Prop}
end
section
variable {X : Cx} {o e f : Expr} {apos cpos : Pos} {td ty tx : TE}
end
section
variable {X : Cx} {pins : List (Addr × Obj)} {σ : St} {H : Hp} {s : Shared} {a : Addr} {kvs : List (Key × V)} {A : Around} {E : Value → Shared → Prop}
end
section
variable {X : Cx} {pins : List (Addr × Obj)} {σ : St} {H : Hp} {s : Shared} {a : Addr} {y : V} {u : Value} {A : Around} {E : Value → Shared → Prop}
end
end L2
namespace Att
open PySem PySem.W PySem.Calls PyProof.Rows
theorem ints_of_wellAll {P : Params} {h : Heap} : ∀ (ns : List Int) (vs : List Value), WellAll P h vs (ns.map WData.int) → IntsAre vs ns := by
  intro ns
  induction ns with
  | nil =>
    intro vs w
    rw [List.map_nil] at w
    cases w
    exact .nil
  | cons n ns ih =>
    intro vs w
    rw [List.map_cons] at w
    cases w with
    | cons a b =>
      cases a
      exact .cons _ _ (ih _ b)
theorem script_of {l : OpenLaw} {n : Nat} (hn : l.most = some n) {P : Params} {h : Heap} {args : List WData} {vals : List Value}
    (hpre : l.row.toRowW.claim.pre args = true) (hwl : WellAll P h vals args) :
    ∃ a vs ns, vals = [Value.ref a] ∧ args = [WData.list (ns.map WData.int)] ∧ h.get? a = some { cls := .type "list", data := .seq vs.toArray } ∧ IntsAre vs ns ∧ ns.length ≤ n := by
  have hsh : WShape.hasAll [] args [.list .int] = true := (pre_splitW hpre).1
  have hc : l.pre.holds [] { args := args } = true := (pre_splitW hpre).2
  obtain ⟨d, r, rfl, h1, h2⟩ := hasAllW_cons hsh
  obtain rfl := hasAllW_nil h2
  obtain ⟨xs, rfl, h3⟩ := hasW_list h1
  obtain ⟨ns, rfl⟩ := items_int h3
  have hlen : ns.length ≤ n := by
    unfold OpenLaw.pre at hc
    have h4 : (WTm.not (.lt (.lit (.int (n : Int))) (.len (.arg 0)))).holds [] { args := [.list (ns.map .int)] } = true := by
      have h4 := (holds_andW hc).1
      rw [hn] at h4
      exact h4
    have h5 := condW_of h4 (w_not (w_lt w_lit (w_len_list (w_arg rfl))))
    rw [List.length_map] at h5
    refine Nat.le_of_not_lt fun q => ?_
    have q' : (n : Int) < ((ns.length : Nat) : Int) := by omega
    first
      | (rw [decide_eq_true q'] at h5; exact absurd h5 (by decide))
      | (simp at h5; omega)
  cases hwl with
  | cons w1 w2 =>
    cases w2
    cases w1 with
    | list ho hall => exact ⟨_, _, ns, rfl, rfl, ho, ints_of_wellAll ns _ hall, hlen⟩
theorem post_true (l : OpenLaw) (args : List WData) : l.row.toRowW.claim.post args (.bool true) args = true :=
  postW_of (r := l.row.toRowW) (X := (true == true))
    (show WShape.has [] (.bool true) .bool = true by first | rfl | decide | simp [WShape.has, WShape.arms, WShape.armsAll])
    (show (WTm.eq .res (.lit (.bool true))).value [] { args := args, res := some (.bool true), after := args } = some (.bool (true == true)) from w_eq_bool (w_res rfl) w_lit) rfl
theorem attach_call {l : OpenLaw} {n : Nat} {q : Program} {loose : List Str} {XP : (Str → Option Value) → Heap → Prop} {YP : World → Heap → Prop} {d : DefRec}
    (hn : l.most = some n) (hdf : d.params.defaults = [])
    (call : ∀ (w : World) (s₀ s₁ : Shared) (mg mb : Str → Option Value) (fa : Addr) (o : Obj) (pm cd doc : Value) (a : Addr) (vs : List Value) (ns : List Int),
      Ground q loose [] XP w s₀ mg mb s₁.heap → YP w s₁.heap →
      s₁.heap.get? fa = some o → o.data = .func (docDef d.name d.params d.body d.scope pm cd doc) → s₁.heap.CodeRec cd d.name → mg d.name = some (.ref fa) →
      s₁.heap.get? a = some { cls := .type "list", data := .seq vs.toArray } → IntsAre vs ns → ns.length ≤ n → s₁.gens = #[] →
      codeAny (model l.prog w) callerA (.call (.ref fa) ⟨[.ref a], []⟩) (fun r s' => r = .ok (.ret (.bool true)) ∧ OldK s₁.heap s'.heap ∧ s'.os = s₁.os ∧ AllBare s'.gens) s₁) :
    WalkO q loose XP YP l.row.toRowW d [] (fun f vs => PySem.call f vs) := by
  intro w s₀ s₁ mg mb G Y fa o pm cd doc dV kV ho hd hcd hD hmg hg args vals as hpre hlay hrd hwl hlo
  obtain rfl : dV = .none := Dflts.none hD hdf
  obtain rfl : kV = .none := Dflts.noKw hD
  obtain ⟨a, vs, ns, rfl, rfl, hobj, hints, hlen⟩ := script_of hn hpre hwl
  refine enter_call (codeAny_mono (call w s₀ s₁ mg mb fa o pm cd doc a vs ns G Y ho (fd_plain hd) hcd hmg hobj hints hlen hg) fun r s' hq => ?_)
  obtain ⟨rfl, h2, h3, h4⟩ := hq
  exact ⟨.inl ⟨.bool true, .bool true, [], rfl, fun _ => rfl, .bool true, post_true l _, fun _ => ⟨List.Pairwise.nil, fun _ hm => (nomatch hm)⟩⟩, h2, h3, h4⟩
section
variable {prog : Program} {w : World} {A : Around} {E : Value → Shared → Prop} {s : Shared} {K : Frag}
end
end Att
namespace L2
open PySem PySem.Spec PyProof.Rows
theorem vals_ints : ∀ {vs : List Value} {ns : List Int}, IntsAre vs ns → Vals (ns.map V.int) vs
  | _, _, .nil => .nil
  | _, _, .cons n t h => .cons ⟨t, rfl⟩ (vals_ints h)
def Only (_ : Hp) : Prop := True
end L2
namespace L2
open PySem PySem.Spec PyProof.Rows
abbrev KOf {K : PySem.W.Frag} {h : Heap} (_ : K.In h) : PySem.W.Frag := K
end L2
namespace L2
open PySem PySem.Spec PyProof.Rows
def defArgs (s : Stmt) : Arguments := match s with
  | .FunctionDef _ a _ _ _ _ _ _ _ _ => a
  | _ => { posonlyargs := [], args := [], vararg := none, kwonlyargs := [], kw_defaults := [], kwarg := none, defaults := [] }
def defBody (s : Stmt) : List Stmt := match s with
  | .FunctionDef _ _ b _ _ _ _ _ _ _ => b
  | _ => []
def defScope (s : Stmt) : Scope := match s with
  | .FunctionDef _ _ _ _ _ _ sc _ _ _ => sc
  | _ => { kind := .function, names := [], isGenerator := false, isCoroutine := false }
abbrev CX0 : CXT := fun _ _ _ _ _ _ => False
abbrev E0 : XK := fun _ _ _ => False
theorem pass0 {X : Cx} : Passes CX0 X E0 := fun _ _ _ _ _ _ _ h => h.elim
structure Fun (K : PySem.W.Frag) (x qual : Str) (st : Stmt) (f : Addr) (fd : FuncData) : Prop where
  ex : ∃ (oc : Value) (od : Option Addr) (kV doc pm : Value) (an : Option Addr) (cdv ct : Value) (osl : Array (Option Value)),
    fd = PySem.W.fnOf x qual (defArgs st) (defBody st) (defScope st) .none kV doc pm an cdv ct ∧ K.lookup f = some ⟨oc, od, .func fd, osl⟩ ∧ PySem.W.codeIn K cdv qual = true
  kp : PySem.W.keepIn K (.ref f) = true
section
variable {P : Program} {w : World} {K : PySem.W.Frag} {mg : Str → Option Value} {base : Heap}
theorem Fun.ok {x qual : Str} {st : Stmt} {f : Addr} {fd : FuncData} {N ps : List Str} {k : Nat} {sp : Sp} (F : Fun K x qual st f fd) (S : FnScope N ps (defScope st)) (len : ∀ vs H Q E, sp vs H Q E → vs.length = ps.length)
    (hbody : ∀ (cdv : Value) (A : Around) (outer : List Env) (s : Shared) (H : Hp) (vs : List V) (Q : VK) (E : XK), Room k (A.deeper (envOfC qual (defScope st) s.heap.objs.size f cdv)) → sp vs H Q E →
      ∃ t, PSs (cxOf CX0 P w K mg base N qual (defScope st) f cdv A outer s H E).nox (defBody st) t ∧ t { nx := fun _ H' => Q .non H', rt := Q } (start N vs) H) : FnOk P w K mg base CX0 (k + 1) f fd ps sp := by
  obtain ⟨oc, od, kV, doc, pm, an, cdv, ct, osl, rfl, lk, hcd⟩ := F.ex
  refine fn_of lk hcd S len fun A outer s H vs Q E hr hsp => ?_
  obtain ⟨t, h, q⟩ := hbody cdv A outer s H vs Q E hr hsp
  exact ⟨t, h.nox, q⟩
theorem Fun.binds {x qual : Str} {st : Stmt} {f : Addr} {fd : FuncData} {ps : List Str} (F : Fun K x qual st f fd)
    (h : ∀ (kV doc pm : Value) (an : Option Addr) (cdv ct : Value) (us : List Value), us.length = ps.length → bindArgs (PySem.W.fnOf x qual (defArgs st) (defBody st) (defScope st) .none kV doc pm an cdv ct) ⟨us, []⟩ = pure (ps.zip us)) : Binds K fd ps [] := by
  obtain ⟨oc, od, kV, doc, pm, an, cdv, ct, osl, rfl, lk, hcd⟩ := F.ex
  exact .all (h kV doc pm an cdv ct)
theorem fun_mk {x qual : Str} {st : Stmt} {f : Addr} {oc : Value} {od an : Option Addr} {osl : Array (Option Value)} {kV doc pm cdv ct : Value} (l : K.lookup f = some ⟨oc, od, .func (PySem.W.fnOf x qual (defArgs st) (defBody st) (defScope st) .none kV doc pm an cdv ct), osl⟩)
    (c : PySem.W.codeIn K cdv qual = true) (k : PySem.W.keepIn K (.ref f) = true) : Fun K x qual st f (PySem.W.fnOf x qual (defArgs st) (defBody st) (defScope st) .none kV doc pm an cdv ct) := ⟨⟨oc, od, kV, doc, pm, an, cdv, ct, osl, rfl, l, c⟩, k⟩
end
theorem small1000 {n : Nat} (h : n ≤ 1000) : n < sizeLine := Nat.lt_of_le_of_lt h (by decide)
section
variable {X : Cx}
theorem pv (i : Nat) {x : Str} {pos : Pos} (hN : X.N[i]? = some x := by rfl) (hv : Vis X.env.scope x := by first | exact Or.inl rfl | exact Or.inr (Or.inl rfl) | exact Or.inr (Or.inr rfl)) (hd : (x == ("__debug__" : Str)) = false := by decide)
    (hcd : (x == ("__classdict__" : Str)) = false := by decide) : PE X (.Name x pos) (tVar i) := pe_var hN hv hd hcd
end
theorem ite2 {c A B : Prop} [Decidable c] (h1 : c → A) (h2 : ¬ c → B) : if c then A else B := by
  by_cases h : c
  · rw [if_pos h]
    exact h1 h
  · rw [if_neg h]
    exact h2 h
def Same (H H' : Hp) : Prop := ∀ b o, H b = some o → H' b = some o
theorem Same.refl (H : Hp) : Same H H := fun _ _ h => h
theorem Same.trans {H H1 H2 : Hp} (a : Same H H1) (b : Same H1 H2) : Same H H2 := fun c o h => b c o (a c o h)
section
variable {κ : Type} [DecidableEq κ]
end
end L2
set_option Elab.async false
set_option linter.all false
set_option maxRecDepth 100000
set_option maxHeartbeats 1000000
namespace L2
open PySem PySem.Spec PyProof.Rows
section
variable {prog : Program} {w : World} {A : Around} {E : Value → Shared → Prop} {R : Result → Shared → Prop} {s : Shared}
def compTail (elt : Expr) (gens : List Comprehension) (scope : Scope) (pos : Pos) (d : Nat) (acc : Value) (env : Env) : Sem Unit :=
  match gens[d + 1]? with
  | some g' => do
    let x ← eval g'.iter env
    standAt g'.iter.pos
    let x ← if g'.is_async != 0 then foldedIterable g'.iter x else foldedSetIterable g'.iter env x
    let _ ← runOwn (.compStart (.ListComp elt gens scope pos) (d + 1) (← holding [x] (if g'.is_async != 0 then asyncIter x else pyIter x)) acc env) env
  | none => do let _ ← call (.builtin "list.append") [acc, ← eval elt env]
theorem compLoop_gen {elt target iter : Expr} {gens : List Comprehension} {ifs : List Expr} {scope : Scope} {pos : Pos} {d : Nat} {it acc : Value} {env : Env} (I : Nat → Shared → Prop)
    (hg : gens[d]? = some ⟨target, iter, ifs, 0⟩) (ha : ∀ g', gens[d + 1]? = some g' → g'.is_async = 0)
    (turn : ∀ n s, I n s → wpAny (model prog w) A (pyNext it) (fun r s₁ => match r with
      | none => R (.ok .next) s₁
      | some v => wpAny (model prog w) A (letOwnedTupleGo target it v) (fun _ s₁' => wpAny (model prog w) A (assign target env v) (fun _ s₂ =>
          wpAny (model prog w) A (forIn ifs true fun c r => if r = true then do let ok ← isTrue c env (eval c env); pure (ForInStep.yield ok) else pure (ForInStep.yield r)) (fun ok s₃ =>
            if ok = true then wpAny (model prog w) A (compTail elt gens scope pos d acc env) (fun _ s₅ => ∃ m, m < n ∧ I m s₅) (fun _ _ => False) s₃
            else ∃ m, m < n ∧ I m s₃) (fun _ _ => False) s₂) (fun _ _ => False) s₁') (fun _ _ => False) s₁) (fun _ _ => False) s)
    (n : Nat) (h : I n s) :
    codeAny (model prog w) A (.compLoop (.ListComp elt gens scope pos) d it acc env) R s := by
  refine codeAny_loop rfl I (fun n s hI => ?_) n h
  show wpAny _ A ((compTurn (.ListComp elt gens scope pos) d it acc env).onRaise (fun x => do noteFrame x env; theTreesLotGoes x)) _ _ s
  refine wpAny_noted ?_
  unfold compTurn
  simp only [hg]
  refine wpAny_bind (wpAny_standAt (wpAny_bind (wpAny_mono (turn n s hI) (fun r s₁ h₁ => ?_) fun _ _ x => x.elim)))
  cases r with
  | none => exact wpAny_pure h₁
  | some v =>
    refine wpAny_bind (wpAny_mono h₁ (fun _ s₁' h₁' => ?_) fun _ _ x => x.elim)
    refine wpAny_bind (wpAny_mono h₁' (fun _ s₂ h₂ => wpAny_bind (wpAny_mono h₂ (fun ok s₃ h₃ => ?_) fun _ _ x => x.elim)) fun _ _ x => x.elim)
    cases ok with
    | false => exact wpAny_pure ⟨rfl, h₃⟩
    | true =>
      have h₃' : wpAny (model prog w) A (compTail elt gens scope pos d acc env) (fun _ s₅ => ∃ m, m < n ∧ I m s₅) (fun _ _ => False) s₃ := h₃
      unfold compTail at h₃'
      rw [if_pos rfl]
      cases hd : gens[d + 1]? with
      | none =>
        rw [hd] at h₃'
        exact wpAny_bind (wpAny_mono h₃' (fun _ s₅ h₅ => wpAny_pure ⟨rfl, h₅⟩) fun _ _ x => x.elim)
      | some g' =>
        rw [hd] at h₃'
        have h0 := ha g' hd
        have e0 : (g'.is_async != 0) = false := by rw [h0]; rfl
        dsimp only at h₃' ⊢
        simp only [e0, Bool.false_eq_true, if_false] at h₃' ⊢
        intro Γ p hΓ
        have q := h₃' Γ p hΓ
        simp only [Sem.wp_bind'] at q ⊢
        refine Sem.wp_mono _ Γ _ (fun x p₁ s₄ q₁ => ?_) (fun _ _ _ z => z.elim) _ _ q
        refine Sem.wp_mono _ Γ _ (fun _ p₂ s₄ q₂ => ?_) (fun _ _ _ z => z.elim) _ _ q₁
        refine Sem.wp_mono _ Γ _ (fun x p₂ s₄ q₂ => ?_) (fun _ _ _ z => z.elim) _ _ q₂
        refine Sem.wp_mono _ Γ _ (fun x p₂ s₄ q₂ => ?_) (fun _ _ _ z => z.elim) _ _ q₂
        refine Sem.wp_mono _ Γ _ (fun x p₂ s₄ q₂ => ?_) (fun _ _ _ z => z.elim) _ _ q₂
        exact ⟨rfl, q₂⟩
end
end L2
set_option Elab.async false
set_option linter.all false
set_option maxRecDepth 100000
set_option maxHeartbeats 1000000
namespace L2
open PySem PySem.Spec PyProof.Rows
section
variable {prog : Program} {w : World} {A : Around} {E : Value → Shared → Prop} {R : Result → Shared → Prop} {s : Shared}
theorem compStart_gen {elt target iter : Expr} {gens : List Comprehension} {ifs : List Expr} {scope : Scope} {pos : Pos} {d : Nat} {it acc : Value} {env : Env}
    (hg : gens[d]? = some ⟨target, iter, ifs, 0⟩)
    (h0 : codeAny (model prog w) A (.compLoop (.ListComp elt gens scope pos) d it acc env) R s)
    (h : wpAny (model prog w) A (pyIter it) (fun it' s' => codeAny (model prog w) A (.compLoop (.ListComp elt gens scope pos) d it' acc env) R s') (fun _ _ => False) s) :
    codeAny (model prog w) A (.compStart (.ListComp elt gens scope pos) d it acc env) R s := by
  refine codeAny_of_tree ?_
  show wpAny _ _ ((compStart (.ListComp elt gens scope pos) d it acc env).onRaise (fun x => do noteFrame x env; standAt theWindowsPlace)) _ _ s
  refine wpAny_notedAt ?_
  unfold compStart
  have hcl : clausesOf (.ListComp elt gens scope pos) = gens := rfl
  simp only [hcl, hg, Option.elim]
  refine wpAny_ite ?_
  rw [if_neg (by decide)]
  refine wpAny_bind (wpAny_askSetting (wpAny_ite ?_))
  split
  · first
      | exact wpAny_bind (wpAny_pure (wpAny_pure (And.intro rfl h0)))
      | exact wpAny_pure (And.intro rfl h0)
  · exact wpAny_bind (wpAny_rule (wpAny_bind (wpAny_standAt (wpAny_bind (wpAny_mono h (fun it' s' h' => wpAny_pure (And.intro rfl h')) fun _ _ x => x.elim)))))
end
abbrev TL := Addr → St → Hp → (St → Hp → Prop) → Prop
def PL (X : Cx) (elt : Expr) (gens : List Comprehension) (scope : Scope) (pos : Pos) (d : Nat) (t : TL) : Prop :=
  ∀ (pins : List (Addr × Obj)) (s : Shared) (σ : St) (H : Hp) (acc : Addr) (K : St → Hp → Prop), Inv X pins σ H s → t acc σ H K →
    wpAny (model X.prog X.w) X.A (compTail elt gens scope pos d (.ref acc) X.env) (fun _ s' => ∃ σ' H', Inv X pins σ' H' s' ∧ K σ' H') (fun _ _ => False) s
def PTs (X : Cx) (ifs : List Expr) (t : TT) : Prop :=
  ∀ (pins : List (Addr × Obj)) (s : Shared) (σ : St) (H : Hp) (Q : Bool → Hp → Prop), Inv X pins σ H s → t σ H Q →
    wpAny (model X.prog X.w) X.A (forIn ifs true fun c r => if r = true then do let ok ← isTrue c X.env (eval c X.env); pure (ForInStep.yield ok) else pure (ForInStep.yield r)) (TP X pins σ Q) X.xe s
def tNoTest : TT := fun _ H Q => Q true H
def lLast (te : TE) : TL := fun acc σ H K => te σ H fun y H1 => ∃ xs, H1 acc = some (.lst xs) ∧ xs.length < sizeLine ∧ K σ (upd H1 acc (.lst (xs ++ [y])))
def lLoop (J : It) (g : TG) (tc : TT) (l : TL) : TL := fun acc σ H K => ∃ W : Nat → Nat → St → Hp → Prop, (∃ m, W 0 m σ H) ∧ ∀ i m σ H, W i m σ H →
  (J.stop i H ∧ K σ H) ∨ (J.go i H ∧ ∀ x H', J.yld i H x H' → g x σ H' fun σ2 H2 => tc σ2 H2 fun b H3 =>
    if b = true then l acc σ2 H3 (fun σ3 H4 => ∃ m', m' < m ∧ W (i + 1) m' σ3 H4) else ∃ m', m' < m ∧ W (i + 1) m' σ2 H3)
section
variable {X : Cx} {elt : Expr} {gens : List Comprehension} {scope : Scope} {pos : Pos} {d : Nat} {te : TE} {l : TL} {tg iter : Expr} {ifs : List Expr} {wi : TI} {g : TG} {tc : TT}
theorem pts_nil : PTs X [] tNoTest := fun pins s σ H Q I h => wpAny_tests_nil ⟨H, I, h⟩
theorem pts_one {c : Expr} (hc : PT X c tc) : PTs X [c] tc := fun pins s σ H Q I h => wpAny_tests_one (hc pins s σ H Q I h)
theorem pl_last (hx : X.xe = fun _ _ => False) (hd : gens[d + 1]? = none) (he : PE X elt te) : PL X elt gens scope pos d (lLast te) := by
  intro pins s σ H acc K I h
  unfold compTail
  rw [hd]
  have he' := he pins s σ H _ I h
  rw [hx] at he'
  refine wpAny_bind (thn he' fun u s1 ⟨y, H1, I1, r1, xs, e1, z1, k1⟩ => ?_)
  have ha := mt_append pins s1 σ H1 (.ref acc) [y] (.ref acc) [u] (fun v H2 => v = .non ∧ H2 = upd H1 acc (.lst (xs ++ [y]))) I1 rfl (.cons r1 .nil) ⟨acc, xs, y, rfl, rfl, e1, z1, rfl, rfl⟩
  rw [hx] at ha
  refine wpAny_bind (thn ha fun v s2 ⟨v', H2, I2, r2, e2, e3⟩ => wpAny_pure ⟨σ, H2, I2, by rw [e3]; exact k1⟩)
theorem comp_loop (hx : X.xe = fun _ _ => False) (hc : X.calm = true) (hd : gens[d]? = some ⟨tg, iter, ifs, 0⟩) (ha : ∀ g', gens[d + 1]? = some g' → g'.is_async = 0) (hg : PG X tg g) (ht : PTs X ifs tc) (hl : PL X elt gens scope pos d l)
    {pins : List (Addr × Obj)} {s : Shared} {σ : St} {H : Hp} {acc it : Addr} {fp : List Addr} {tn : Nat → Heap → Prop} {J : It} {K : St → Hp → Prop} {R : Result → Shared → Prop} (I : Inv X pins σ H s) (T : Turn X.prog X.w X.K tg J fp it tn) (st : tn 0 s.heap) (f2 : ∀ b ∈ fp, FpOk X pins H b)
    (h : lLoop J g tc l acc σ H K) (hR : ∀ σ' H' s', Inv X pins σ' H' s' → K σ' H' → R (.ok .next) s') :
    codeAny (model X.prog X.w) X.A (.compLoop (.ListComp elt gens scope pos) d (.ref it) (.ref acc) X.env) R s := by
  obtain ⟨W, ⟨m0, w0⟩, turn⟩ := h
  have stat : ∀ {H' : Hp}, (∀ b ∈ fp, H' b = none) → ∀ b ∈ fp, FpOk X pins H' b := fun hn b hb => ⟨hn b hb, (f2 b hb).2⟩
  refine compLoop_gen (fun n s' => ∃ i σ' H', Inv X pins σ' H' s' ∧ tn i s'.heap ∧ (∀ b ∈ fp, H' b = none) ∧ W i n σ' H') hd ha ?_ m0 ⟨0, σ, H, I, st, fun b hb => (f2 b hb).1, w0⟩
  rintro n s3 ⟨i, σ3, H3, I3, st3, fr3, w3⟩
  rcases turn i n σ3 H3 w3 with ⟨stop, qn⟩ | ⟨go, step⟩
  · refine thn (T.done X rfl rfl rfl hc i pins s3 σ3 H3 _ I3 (stat fr3) st3 stop) fun r s4 ⟨hr, I4⟩ => ?_
    subst hr
    exact hR σ3 H3 s4 I4 qn
  · refine thn (T.item X rfl rfl rfl hc i pins s3 σ3 H3 _ I3 (stat fr3) st3 go) fun r s4 ⟨u, hr, h4⟩ => ?_
    subst hr
    refine thn h4 fun _ s5 ⟨x, H5, I5, r5, y5, st5, fr5⟩ => ?_
    have I5' := I5.pinned (stat fr5) (T.obj _ _ st5)
    have again : ∀ {σ7 : St} {H7 : Hp} {s7 : Shared} {m' : Nat}, Inv X (pins ++ pinsAt fp s5.heap) σ7 H7 s7 → m' < n → W (i + 1) m' σ7 H7 → ∃ m, m < n ∧ ∃ i σ' H', Inv X pins σ' H' s7 ∧ tn i s7.heap ∧ (∀ b ∈ fp, H' b = none) ∧ W i m σ' H' := fun {σ7 H7 s7 m'} I7 hm w7 => by
      refine ⟨m', hm, i + 1, σ7, H7, I7.unpinned, T.keep _ _ _ st5 fun b hb o e => (I7.pin (b, o) (List.mem_append_right _ (List.mem_append_right _ (mem_pinsAt hb e)))).1, fun b hb => ?_, w7⟩
      obtain ⟨o, e, d⟩ := T.obj _ _ st5 b hb
      exact (I7.pin (b, o) (List.mem_append_right _ (List.mem_append_right _ (mem_pinsAt hb e)))).2.1
    have hg' := hg _ s5 σ3 H5 x u _ I5' r5 (step x H5 y5)
    rw [hx] at hg'
    refine thn hg' fun _ s6 ⟨σ6, H6, I6, q6⟩ => ?_
    have ht' := ht _ s6 σ6 H6 _ I6 q6
    rw [hx] at ht'
    refine thn ht' fun ok s7 ⟨H7, I7, q7⟩ => ?_
    cases ok with
    | false =>
      rw [if_neg Bool.false_ne_true] at q7 ⊢
      obtain ⟨m', hm, w7⟩ := q7
      exact again I7 hm w7
    | true =>
      rw [if_pos rfl] at q7 ⊢
      refine thn (hl _ s7 σ6 H7 acc _ I7 q7) fun _ s8 ⟨σ8, H8, I8, m', hm, w8⟩ => ?_
      exact again I8 hm w8
end
end L2
set_option Elab.async false
set_option linter.all false
set_option maxRecDepth 100000
set_option maxHeartbeats 1000000
namespace L2
open PySem PySem.Spec PyProof.Rows
def clOf (env : Env) : List (Str × NameKind) → List (Str × Addr) → List (Str × Addr)
  | [], acc => acc
  | (n, k) :: r, acc => if k == .free then clOf env r ((n, (env.cells.lookup n).getD 0) :: acc) else clOf env r acc
theorem closure_eq {scope : Scope} {env : Env} (h : ∀ y ∈ scope.names, y.2 = .free → ∃ c, env.cells.lookup y.1 = some c) : closureFor scope env = pure (clOf env scope.names []) := by
  have gen : ∀ (names : List (Str × NameKind)) (acc : List (Str × Addr)), (∀ y ∈ names, y.2 = .free → ∃ c, env.cells.lookup y.1 = some c) →
      (forIn names acc fun (x : Str × NameKind) (r : List (Str × Addr)) => (if (x.2 == NameKind.free) = true then do let a ← cellOf env x.1; pure (ForInStep.yield ((x.1, a) :: r)) else pure (ForInStep.yield r) : Sem _)) = pure (clOf env names acc) := by
    intro names
    induction names with
    | nil => intro acc _; rfl
    | cons y r ih =>
      intro acc hy
      obtain ⟨n, k⟩ := y
      rw [List.forIn_cons]
      unfold clOf
      cases hk : k == NameKind.free with
      | true =>
        obtain ⟨c, hc⟩ := hy (n, k) (List.mem_cons_self ..) (by simpa using hk)
        simp only [hk, if_true, cellOf, hc, Option.getD_some]
        exact ih _ fun y hy' => hy y (List.mem_cons_of_mem _ hy')
      | false =>
        simp only [hk, Bool.false_eq_true, if_false]
        exact ih _ fun y hy' => hy y (List.mem_cons_of_mem _ hy')
  have := gen scope.names [] h
  unfold closureFor
  show ((forIn scope.names ([] : List (Str × Addr)) fun (x : Str × NameKind) (r : List (Str × Addr)) => (if (x.2 == NameKind.free) = true then do let a ← cellOf env x.1; pure (ForInStep.yield ((x.1, a) :: r)) else pure (ForInStep.yield r) : Sem _)) >>= fun z => pure z) = _
  rw [this]
  rfl
theorem mem_clOf {env : Env} : ∀ {names : List (Str × NameKind)} {acc : List (Str × Addr)} {n : Str} {c : Addr}, (n, c) ∈ clOf env names acc → (n, c) ∈ acc ∨ ((n, NameKind.free) ∈ names ∧ c = (env.cells.lookup n).getD 0)
  | [], _, _, _, h => .inl h
  | (m, k) :: r, acc, n, c, h => by
    unfold clOf at h
    split at h
    · rename_i hk
      rcases mem_clOf h with h | ⟨h1, h2⟩
      · rcases List.mem_cons.mp h with e | e
        · cases e
          have : k = .free := by simpa using hk
          subst this
          exact .inr ⟨List.mem_cons_self .., rfl⟩
        · exact .inl e
      · exact .inr ⟨List.mem_cons_of_mem _ h1, h2⟩
    · rcases mem_clOf h with h | ⟨h1, h2⟩
      · exact .inl h
      · exact .inr ⟨List.mem_cons_of_mem _ h1, h2⟩
theorem clOf_mem {env : Env} : ∀ {names : List (Str × NameKind)} {acc : List (Str × Addr)} {n : Str}, ((n, NameKind.free) ∈ names ∨ ∃ c, (n, c) ∈ acc) → ∃ c, (n, c) ∈ clOf env names acc
  | [], _, _, h => by
    rcases h with h | h
    · cases h
    · exact h
  | (m, k) :: r, acc, n, h => by
    unfold clOf
    split
    · rename_i hk
      apply clOf_mem
      rcases h with h | ⟨c, h⟩
      · rcases List.mem_cons.mp h with e | e
        · cases e; exact .inr ⟨_, List.mem_cons_self ..⟩
        · exact .inl e
      · exact .inr ⟨c, List.mem_cons_of_mem _ h⟩
    · rename_i hk
      apply clOf_mem
      rcases h with h | h
      · rcases List.mem_cons.mp h with e | e
        · cases e; simp at hk
        · exact .inl e
      · exact .inr h
theorem mem_cellsFrom : ∀ {names : List (Str × NameKind)} {h : Heap} {acc : List (Str × Addr)} {n : Str} {c : Addr}, (n, c) ∈ cellsFrom h.objs.size names acc →
    (n, c) ∈ acc ∨ ((n, NameKind.cell) ∈ names ∧ h.objs.size ≤ c ∧ (pushCells h names).IsCell c none)
  | [], _, _, _, _, m => .inl m
  | (x, k) :: r, h, acc, n, c, m => by
    unfold cellsFrom at m
    unfold pushCells
    split at m
    · rename_i hk
      rw [if_pos hk]
      have sz : (h.push { cls := .type "cell", data := .cell none }).objs.size = h.objs.size + 1 := Heap.size_push ..
      rw [← sz] at m
      rcases mem_cellsFrom m with m | ⟨m1, m2, m3⟩
      · rcases List.mem_cons.mp m with e | e
        · cases e
          have : k = .cell := by simpa using hk
          subst this
          exact .inr ⟨List.mem_cons_self .., Nat.le_refl _, ⟨_, pushCells_keeps _ _ _ _ (Heap.get?_push_size _ rfl), rfl⟩⟩
        · exact .inl e
      · exact .inr ⟨List.mem_cons_of_mem _ m1, by omega, m3⟩
    · rename_i hk
      rw [if_neg hk]
      rcases mem_cellsFrom m with m | ⟨m1, m2, m3⟩
      · exact .inl m
      · exact .inr ⟨List.mem_cons_of_mem _ m1, m2, m3⟩
theorem cellsFrom_mem : ∀ {names : List (Str × NameKind)} {k : Nat} {acc : List (Str × Addr)} {n : Str}, ((n, NameKind.cell) ∈ names ∨ ∃ c, (n, c) ∈ acc) → ∃ c, (n, c) ∈ cellsFrom k names acc
  | [], _, _, _, h => by
    rcases h with h | h
    · cases h
    · exact h
  | (m, k) :: r, j, acc, n, h => by
    unfold cellsFrom
    split
    · rename_i hk
      apply cellsFrom_mem
      rcases h with h | ⟨c, h⟩
      · rcases List.mem_cons.mp h with e | e
        · cases e; exact .inr ⟨_, List.mem_cons_self ..⟩
        · exact .inl e
      · exact .inr ⟨c, List.mem_cons_of_mem _ h⟩
    · rename_i hk
      apply cellsFrom_mem
      rcases h with h | h
      · rcases List.mem_cons.mp h with e | e
        · cases e; simp at hk
        · exact .inl e
      · exact .inr h
theorem cellsFrom_inj : ∀ {names : List (Str × NameKind)} {k : Nat} {acc : List (Str × Addr)}, (∀ n c, (n, c) ∈ acc → c < k) → (∀ n m c, (n, c) ∈ acc → (m, c) ∈ acc → n = m) →
    ∀ n m c, (n, c) ∈ cellsFrom k names acc → (m, c) ∈ cellsFrom k names acc → n = m
  | [], _, _, _, h2, n, m, c, a, b => h2 n m c a b
  | (x, kd) :: r, k, acc, h1, h2, n, m, c, a, b => by
    unfold cellsFrom at a b
    split at a
    · rename_i hk
      rw [if_pos hk] at b
      refine cellsFrom_inj (k := k + 1) ?_ ?_ n m c a b
      · intro n c h
        rcases List.mem_cons.mp h with e | e
        · cases e; exact Nat.lt_succ_self _
        · exact Nat.lt_succ_of_lt (h1 n c e)
      · intro n m c h h'
        rcases List.mem_cons.mp h with e | e <;> rcases List.mem_cons.mp h' with e' | e'
        · cases e; cases e'; rfl
        · cases e; exact absurd (h1 _ _ e') (Nat.lt_irrefl _)
        · cases e'; exact absurd (h1 _ _ e) (Nat.lt_irrefl _)
        · exact h2 n m c e e'
    · rename_i hk
      rw [if_neg hk] at b
      exact cellsFrom_inj h1 h2 n m c a b
theorem lookup_some_of_mem {α : Type} : ∀ {l : List (Str × α)} {n : Str}, (∃ c, (n, c) ∈ l) → ∃ c, l.lookup n = some c
  | [], _, ⟨_, h⟩ => by cases h
  | (k, v) :: r, n, ⟨c, h⟩ => by
    rw [List.lookup_cons]
    cases hb : n == k with
    | true => exact ⟨v, rfl⟩
    | false =>
      rcases List.mem_cons.mp h with e | e
      · cases e; simp at hb
      · exact lookup_some_of_mem ⟨c, e⟩
def blkOk (scope osc : Scope) (N : List Str) (src : List (Option Nat)) (ON : List Str) : Bool :=
  (scope.kind == .function) && (osc.kind == .function) && decide (src.length = N.length) &&
  (scope.names.all fun y => (scope.names.lookup y.1 == some y.2) && (if y.2 == .free then osc.names.lookup y.1 == some .cell else true)) &&
  ((N.zip src).all fun p => match p.2 with | none => true | some j => (ON[j]? == some p.1) && (scope.names.lookup p.1 == some .free))
def blkSt (src : List (Option Nat)) (σ : St) : St := src.map fun o => match o with | none => none | some j => (σ[j]?).join
def Cx.blk (X : Cx) (scope : Scope) (N : List Str) (cs : List (Str × Addr)) (C : Addr) (s : Shared) (H : Hp) (ex : List Addr) (pn : List (Addr × Obj)) : Cx :=
  { X with N := N, s₀ := s, H₀ := H, env := compEnvC scope cs C X.env, outer := X.stack, stack := X.stack, ex := ex, fn := fun x => decide (scope.names.lookup x = some .cell), pn := pn, xe := fun _ _ => False }
end L2
set_option Elab.async false
set_option linter.all false
set_option maxRecDepth 100000
set_option maxHeartbeats 1000000
namespace L2
open PySem PySem.Spec PyProof.Rows
section
variable {X : Cx} {pins : List (Addr × Obj)} {σ : St} {H : Hp} {s : Shared} {scope : Scope} {N : List Str} {src : List (Option Nat)}
theorem blk_facts {osc : Scope} {ON : List Str} (h : blkOk scope osc N src ON = true) : scope.kind = .function ∧ osc.kind = .function ∧ src.length = N.length ∧
    (∀ y ∈ scope.names, scope.names.lookup y.1 = some y.2) ∧ (∀ y ∈ scope.names, y.2 = .free → osc.names.lookup y.1 = some .cell) ∧
    (∀ (i : Nat) (x : Str) (j : Nat), N[i]? = some x → src[i]? = some (some j) → ON[j]? = some x ∧ scope.names.lookup x = some .free) := by
  unfold blkOk at h
  simp only [Bool.and_eq_true, decide_eq_true_eq, beq_iff_eq, List.all_eq_true] at h
  obtain ⟨⟨⟨⟨h1, h2⟩, h3⟩, h4⟩, h5⟩ := h
  refine ⟨h1, h2, h3, fun y hy => (h4 y hy).1, fun y hy e => ?_, fun i x j e1 e2 => ?_⟩
  · have := (h4 y hy).2
    rw [e] at this
    simpa using this
  · have hm : (x, some j) ∈ N.zip src := by
      apply List.mem_of_getElem? (i := i)
      rw [List.getElem?_zip_eq_some]
      exact ⟨e1, e2⟩
    have := h5 _ hm
    simpa using this
theorem relabel_lookup {env : Env} (hk : env.scope.kind = .function) : ∀ {names : List (Str × NameKind)} {x : Str} {k : NameKind}, names.lookup x = some k → (k = .free → env.kindOf x = some .cell) →
    (names.map fun (n, k) => if (k == NameKind.free && env.scope.kind == .function && env.kindOf n == some .cell) then (n, NameKind.cell) else (n, k)).lookup x = some (if k = .free then .cell else k)
  | [], _, _, h, _ => by simp at h
  | (n, k') :: r, x, k, h, hf => by
    have ih := @relabel_lookup env hk r x k
    show List.lookup x ((if (k' == NameKind.free && env.scope.kind == .function && env.kindOf n == some .cell) = true then (n, NameKind.cell) else (n, k')) :: _) = _
    cases hx : x == n with
    | true =>
      simp only [List.lookup_cons, hx] at h
      have e : x = n := by simpa using hx
      subst e
      cases h
      by_cases hfr : k' = .free
      · have := hf hfr
        subst hfr
        rw [if_pos (by rw [this, hk]; rfl)]
        simp [List.lookup_cons]
      · have hfr' : (k' == NameKind.free) = false := by simpa using hfr
        rw [if_neg (by rw [hfr']; simp), if_neg hfr]
        simp [List.lookup_cons]
    | false =>
      simp only [List.lookup_cons, hx] at h
      by_cases hc : (k' == NameKind.free && env.scope.kind == .function && env.kindOf n == some .cell) = true
      · rw [if_pos hc]; simp only [List.lookup_cons, hx]; exact ih h hf
      · rw [if_neg hc]; simp only [List.lookup_cons, hx]; exact ih h hf
theorem relabel_mem {env : Env} {names : List (Str × NameKind)} {x : Str} (h : (names.map fun (n, k) => if (k == NameKind.free && env.scope.kind == .function && env.kindOf n == some .cell) then (n, NameKind.cell) else (n, k)).lookup x = some .cell) :
    (x, NameKind.cell) ∈ names ∨ (x, NameKind.free) ∈ names := by
  have hm := mem_of_lookup h
  obtain ⟨⟨n, k⟩, hy, e⟩ := List.mem_map.mp hm
  dsimp only at e
  split at e
  · rename_i hc
    cases e
    simp only [Bool.and_eq_true, beq_iff_eq] at hc
    rw [hc.1.1] at hy
    exact .inr hy
  · cases e; exact .inl hy
theorem relabel_memF {env : Env} {names : List (Str × NameKind)} {x : Str} (hk : env.scope.kind = .function) (hfr : ∀ y ∈ names, y.2 = .free → env.kindOf y.1 = some .cell)
    (h : (names.map fun (n, k) => if (k == NameKind.free && env.scope.kind == .function && env.kindOf n == some .cell) then (n, NameKind.cell) else (n, k)).lookup x = some .free) : False := by
  have hm := mem_of_lookup h
  obtain ⟨⟨n, k⟩, hy, e⟩ := List.mem_map.mp hm
  dsimp only at e
  split at e
  · cases e
  · rename_i hc
    cases e
    have := hfr _ hy rfl
    exact hc (by rw [this, hk]; rfl)
theorem blk_start {fp : List Addr} (I : Inv X pins σ H s) (hb : blkOk scope X.env.scope N src X.N = true) (f2 : ∀ b ∈ fp, FpOk X pins H b) (fo : ∀ b ∈ fp, ∃ o, s.heap.get? b = some o) {t : Nat} :
    Inv (X.blk scope N (cellsFrom (s.heap.objs.size + 1) scope.names (clOf X.env scope.names [])) s.heap.objs.size s H fp (X.pn ++ pins)) [] (blkSt src σ) H { s with heap := pushCells (s.heap.push { cls := .type "dict", data := .dict #[] }) scope.names, toks := t } := by
  obtain ⟨hk, hok, hlen, hnd, hfr, hsrc⟩ := blk_facts hb
  have keep : ∀ b o, s.heap.get? b = some o → (pushCells (s.heap.push { cls := .type "dict", data := .dict #[] }) scope.names).get? b = some o := fun b o e => pushCells_keeps _ _ b o (Heap.get?_push_of_some _ e)
  have hfr' : ∀ y ∈ scope.names, y.2 = .free → X.env.kindOf y.1 = some .cell := hfr
  have sz : (s.heap.push { cls := .type "dict", data := .dict #[] }).objs.size = s.heap.objs.size + 1 := Heap.size_push ..
  have cell : ∀ n c, (n, c) ∈ cellsFrom (s.heap.objs.size + 1) scope.names (clOf X.env scope.names []) →
      (X.env.cells.lookup n = some c ∧ (n, NameKind.free) ∈ scope.names) ∨ ((n, NameKind.cell) ∈ scope.names ∧ s.heap.objs.size < c ∧ (pushCells (s.heap.push { cls := .type "dict", data := .dict #[] }) scope.names).IsCell c none) := by
    intro n c h
    rw [← sz] at h
    rcases mem_cellsFrom h with h | ⟨h1, h2, h3⟩
    · rcases mem_clOf h with h | ⟨h1, h2⟩
      · cases h
      · obtain ⟨c', hc'⟩ := I.ok.has n (.inl (hfr' _ h1 rfl))
        rw [hc'] at h2
        exact .inl ⟨by rw [hc', h2]; rfl, h1⟩
    · exact .inr ⟨h1, by rw [sz] at h2; exact h2, h3⟩
  have oldc : ∀ n c, X.env.cells.lookup n = some c → c < s.heap.objs.size := fun n c e => by
    obtain ⟨v, o, ho, _⟩ := I.cell n c e
    exact Heap.lt_size ho
  have hH : H s.heap.objs.size = none := I.hok.fresh (Nat.le_refl _)
  have ok : (X.blk scope N (cellsFrom (s.heap.objs.size + 1) scope.names (clOf X.env scope.names [])) s.heap.objs.size s H fp (X.pn ++ pins)).Ok := {
    mod := I.ok.mod
    kind := hk
    glob := I.ok.glob
    blt := I.ok.blt
    above := Nat.le_refl _
    inj := fun x y c a b => by
      refine cellsFrom_inj (k := s.heap.objs.size + 1) (acc := clOf X.env scope.names []) ?_ ?_ x y c (mem_of_lookup a) (mem_of_lookup b)
      · intro n c h
        rcases mem_clOf h with h | ⟨h1, h2⟩
        · cases h
        · obtain ⟨c', hc'⟩ := I.ok.has n (.inl (hfr' _ h1 rfl))
          rw [hc'] at h2
          rw [h2]
          exact Nat.lt_succ_of_lt (oldc n c' hc')
      · intro n m c h h'
        rcases mem_clOf h with h | ⟨h1, h2⟩
        · cases h
        · rcases mem_clOf h' with h' | ⟨h1', h2'⟩
          · cases h'
          · obtain ⟨c1, hc1⟩ := I.ok.has n (.inl (hfr' _ h1 rfl))
            obtain ⟨c2, hc2⟩ := I.ok.has m (.inl (hfr' _ h1' rfl))
            rw [hc1] at h2
            rw [hc2] at h2'
            have e1 : c = c1 := h2
            have e2 : c = c2 := h2'
            exact I.ok.inj n m c (by rw [e1]; exact hc1) (by rw [e2]; exact hc2)
    has := fun x h => by
      have hm : (x, NameKind.cell) ∈ scope.names ∨ (x, NameKind.free) ∈ scope.names := by
        rcases h with h | h
        · exact relabel_mem (env := X.env) h
        · exact (relabel_memF (env := X.env) hok hfr' h).elim
      have : ∃ c, (x, c) ∈ cellsFrom (s.heap.objs.size + 1) scope.names (clOf X.env scope.names []) := by
        rcases hm with hm | hm
        · exact cellsFrom_mem (.inl hm)
        · exact cellsFrom_mem (.inr (clOf_mem (.inl hm)))
      exact lookup_some_of_mem this
    cab := fun x c hf e => by
      have hf' : scope.names.lookup x = some .cell := of_decide_eq_true hf
      rcases cell x c (mem_of_lookup e) with ⟨_, h⟩ | ⟨_, h, _⟩
      · have := hnd _ h
        rw [hf'] at this
        cases this
      · exact Nat.le_of_lt h
    hd := I.ok.hd
    frames := I.ok.frames
    stk := .inl rfl
    exf := fun b hb => by
      obtain ⟨o, ho⟩ := fo b hb
      have hlt := Heap.lt_size ho
      refine ⟨Nat.ne_of_lt hlt, fun x c e => ?_⟩
      rcases cell x c (mem_of_lookup e) with ⟨h, _⟩ | ⟨_, h, _⟩
      · exact (f2 b hb).2.2.2.2.1 x c h
      · exact Nat.ne_of_gt (Nat.lt_trans hlt h)
    bs := I.bs
    bsz := Nat.le_trans I.ok.bsz I.sz
    noex := fun b o e hb => by
      rcases (f2 b hb).2.2.2.1 with h | h
      · exact I.ok.noex b o e h
      · exact absurd (Nat.lt_of_lt_of_le (Heap.lt_size e) (Nat.le_trans I.ok.bsz h)) (Nat.lt_irrefl _)
    exfs := fun b hb hm => by
      rcases List.mem_cons.mp (I.stkSub b hm) with h | h
      · exact (f2 b hb).2.1 h
      · exact (f2 b hb).2.2.1 h
    funs := I.stack
    frf := I.stkFree
    tt := I.ok.tt.mono I.base.tbls }
  refine ⟨ok, rfl, I.bare, Un.kept keep, ⟨fun _ => none, (Heap.Ns.new s.heap (.type "dict")).keeps (pushCells_keeps _ _), fun i x v e1 e2 e3 => ?_⟩, fun x c e => ?_, hH, fun x c e => ?_, fun p hp => ?_, I.hok.kept keep, ?_⟩
  · -- a captured name
    have e2' : (src.map fun o => match o with | none => none | some j => (σ[j]?).join)[i]? = some (some v) := e2
    rw [List.getElem?_map] at e2'
    cases hs : src[i]? with
    | none => rw [hs] at e2'; cases e2'
    | some o =>
      rw [hs] at e2'
      cases o with
      | none => cases e2'
      | some j =>
        have ej : (σ[j]?).join = some v := by simpa using e2'
        have ej' : σ[j]? = some (some v) := by
          cases hq : σ[j]? with
          | none => rw [hq] at ej; cases ej
          | some z => rw [hq] at ej; simpa using ej
        obtain ⟨n1, n2⟩ := hsrc i x j e1 hs
        have hfree : X.env.kindOf x = some .cell := hfr' (x, .free) (mem_of_lookup n2) rfl
        obtain ⟨m, hn, hl⟩ := I.loc
        obtain ⟨u, r, l⟩ := hl j x v n1 ej' (.inr (.inl hfree))
        refine ⟨u, r, .inr ⟨.inl ?_, ?_⟩⟩
        · have := relabel_lookup (env := X.env) hok n2 (fun _ => hfree)
          exact this
        · rcases l with ⟨h, _⟩ | ⟨_, c, hc, hcell⟩
          · rw [hfree] at h; cases h
          · have : ∃ c', (x, c') ∈ cellsFrom (s.heap.objs.size + 1) scope.names (clOf X.env scope.names []) := cellsFrom_mem (.inr (clOf_mem (.inl (mem_of_lookup n2))))
            obtain ⟨c', hc'⟩ := lookup_some_of_mem this
            refine ⟨c', hc', ?_⟩
            rcases cell x c' (mem_of_lookup hc') with ⟨h, _⟩ | ⟨h, _, _⟩
            · rw [hc] at h
              cases h
              obtain ⟨oc, ho, hd⟩ := hcell
              exact ⟨oc, keep _ _ ho, hd⟩
            · have := hnd _ h
              rw [n2] at this
              cases this
  · rcases cell x c (mem_of_lookup e) with ⟨h, _⟩ | ⟨_, _, h⟩
    · obtain ⟨v, o, ho, hd⟩ := I.cell x c h
      exact ⟨v, o, keep _ _ ho, hd⟩
    · exact ⟨_, h⟩
  · rcases cell x c (mem_of_lookup e) with ⟨h, _⟩ | ⟨_, h, _⟩
    · exact I.freeC x c h
    · exact I.hok.fresh (Nat.le_of_lt h)
  · rw [List.append_nil] at hp
    obtain ⟨e, n, ne, nf, d⟩ := I.pin p hp
    refine ⟨keep _ _ e, n, Nat.ne_of_lt (Heap.lt_size e), fun hm => ?_, d⟩
    rcases List.mem_cons.mp (I.stkSub _ hm) with h | h
    · exact ne h
    · exact nf h
  · show (src.map _).length = N.length
    rw [List.length_map]
    exact hlen
theorem blk_end {fp : List Addr} {cs : List (Str × Addr)} {C : Addr} {σ' : St} {H' : Hp} {s' : Shared} {pins' : List (Addr × Obj)} (I : Inv X pins σ H s) (f2 : ∀ b ∈ fp, FpOk X pins H b)
    (I' : Inv (X.blk scope N cs C s H fp (X.pn ++ pins)) pins' σ' H' s') : Inv X pins σ H' s' :=
  I.call' (ch := fp) I'.os I'.base I'.hok I'.bare fun b hb => ⟨(f2 b hb).2.2.2.1, (f2 b hb).2.1, (f2 b hb).2.2.2.2.1, (f2 b hb).2.2.2.2.2⟩
theorem blk_gone {C : Addr} {h' : Heap} (I : Inv X pins σ H s) (hC : H C = none) (hL : C ≠ X.env.locals) (h1 : X.s₀.heap.objs.size ≤ C) (h2 : ∀ x c, X.env.cells.lookup x = some c → c ≠ C) (h3 : ∀ p ∈ X.pn ++ pins, p.1 ≠ C)
    (hs : Heap.SameBut C s.heap h') : Inv X pins σ H { s with heap := h' } :=
  I.turned (t' := s.toks) (fun b o hb e => (hs.2 b hb).trans e) hC hL (.inr h1) h2 h3
end
end L2
set_option Elab.async false
set_option linter.all false
set_option maxRecDepth 100000
set_option maxHeartbeats 1000000
namespace L2
open PySem PySem.Spec PyProof.Rows
section
variable {M : Model} {A : Around} {E : Value → Shared → Prop} {s : Shared}
theorem wp_newBlock {scope : Scope} {globals : Addr} {cl : List (Str × Addr)} {qual : Str} {env : Env} {Q : Env → Shared → Prop}
    (hQ : Q (newEnv scope s.heap.objs.size globals (cellsFrom (s.heap.objs.size + 1) scope.names cl) qual none .none (some env) builtinsNs) { s with heap := pushCells (s.heap.push { cls := .type "dict", data := .dict #[] }) scope.names }) :
    wpAny M A (newFunctionEnv scope globals cl [] qual none .none (some env)) Q E s := by
  simp only [newFunctionEnv, Option.isSome_some, if_true]
  refine wpAny_bind (wpAny_alloc ?_)
  refine wpAny_bind (wpAny_layCells _ (fun name kind cells => by cases hkc : kind == NameKind.cell <;> simp [hkc]) _ _ _ _ ?_)
  rw [show ({ s with heap := s.heap.push { cls := .type "dict", data := .dict #[] } } : Shared).heap.objs.size = s.heap.objs.size + 1 from Heap.size_push ..]
  simp only [List.forIn_nil]
  exact wpAny_bind (wpAny_pure (wpAny_pure hQ))
end
section
variable {X : Cx} {elt tg iter : Expr} {ifs : List Expr} {rest : List Comprehension} {scope : Scope} {pos : Pos} {N : List Str} {src : List (Option Nat)} {wi : TI} {g : TG} {tc : TT} {l : TL}
def tComp (src : List (Option Nat)) (wi : TI) (g : TG) (tc : TT) (l : TL) : TE := fun σ H Q => wi σ H fun J H1 => ∀ acc, H1 acc = none → lLoop J g tc l acc (blkSt src σ) (upd H1 acc (.lst [])) fun _ H' => Q (.ref acc) H'
theorem comp_run {use : Option (Value → Sem Unit)} {pins : List (Addr × Obj)} {s : Shared} {σ : St} {H : Hp} {Q : Value → Shared → Prop} {Q' : VK} (hc : X.calm = true) (hb : blkOk scope X.env.scope N src X.N = true) (ha : ∀ g', rest[0]? = some g' → g'.is_async = 0)
    (hi : PI X tg iter wi)
    (hg : ∀ cs C s H ex pn, PG (X.blk scope N cs C s H ex pn) tg g) (ht : ∀ cs C s H ex pn, PTs (X.blk scope N cs C s H ex pn) ifs tc)
    (hl : ∀ cs C s H ex pn, PL (X.blk scope N cs C s H ex pn) elt (⟨tg, iter, ifs, 0⟩ :: rest) scope pos 0 l)
    (hs : ∀ x, foldedSetIterable iter X.env x = pure x) (I : Inv X pins σ H s) (h : tComp src wi g tc l σ H Q')
    (hQ : ∀ (acc C : Addr) (H' : Hp) (s' : Shared) (m : Str → Option Value), Inv X pins σ H' s' → Q' (.ref acc) H' → s'.heap.Ns C m → H' C = none → C ≠ X.env.locals → X.s₀.heap.objs.size ≤ C → (∀ x c, X.env.cells.lookup x = some c → c ≠ C) → (∀ p ∈ X.pn ++ pins, p.1 ≠ C) →
      compPost (model X.prog X.w) X.A X.xe use Q (.ref acc) C (.ok .next) s') :
    wpAny (model X.prog X.w) X.A (comprehension (.ListComp elt (⟨tg, iter, ifs, 0⟩ :: rest) scope pos) scope X.env (firstIterPos (⟨tg, iter, ifs, 0⟩ :: rest) pos) (newList []) false (firstIter (⟨tg, iter, ifs, 0⟩ :: rest) X.env) use) Q X.xe s := by
  obtain ⟨hk, hok, hlen, hnd, hfr, hsrc⟩ := blk_facts hb
  refine wpAny_comprehension_free (g := ⟨tg, iter, ifs, 0⟩) (gs := rest) rfl hs (closure_eq fun y hy e => I.ok.has y.1 (.inl (hfr y hy e))) hk (fun y hy e => by have := hnd y hy; rw [e] at this; exact this) ?_
  refine thn (hi pins s σ H _ I h) fun v s1 h1 => thn h1 fun itv s2 h2 => ?_
  obtain ⟨it, fp, tn, J, H2, e, I2, T, st2, f2, q⟩ := h2
  subst e
  have hfresh : H2 s2.heap.objs.size = none := I2.hok.fresh (Nat.le_refl _)
  refine wpAny_newObj_type (wp_newBlock ?_)
  dsimp only
  have old : ∀ b o, s2.heap.get? b = some o → (s2.heap.push { cls := .type "list", dict := none, data := .seq ([] : List Value).toArray }).get? b = some o := fun b o e => Heap.get?_push_of_some _ e
  have I3 : Inv X pins σ (upd H2 s2.heap.objs.size (.lst [])) { s2 with heap := s2.heap.push { cls := .type "list", dict := none, data := .seq ([] : List Value).toArray } } :=
    I2.lnew (its := []) (t' := s2.toks) .nil (by decide)
  have f3 : ∀ b ∈ fp, FpOk X pins (upd H2 s2.heap.objs.size (.lst [])) b := fun b hb => by
    obtain ⟨o, ho, _⟩ := T.obj _ _ st2 b hb
    exact ⟨by rw [upd_ne (Nat.ne_of_lt (Heap.lt_size ho))]; exact (f2 b hb).1, (f2 b hb).2⟩
  have fo3 : ∀ b ∈ fp, ∃ o, ({ s2 with heap := s2.heap.push { cls := .type "list", dict := none, data := .seq ([] : List Value).toArray } } : Shared).heap.get? b = some o := fun b hb => by
    obtain ⟨o, ho, _⟩ := T.obj _ _ st2 b hb
    exact ⟨o, old b o ho⟩
  generalize hs3 : ({ s2 with heap := s2.heap.push { cls := .type "list", dict := none, data := .seq ([] : List Value).toArray } } : Shared) = s3 at I3 fo3 ⊢
  have st3 : tn 0 s3.heap := by
    rw [← hs3]
    exact T.keep _ _ _ st2 fun b _ o e => old b o e
  have IB := blk_start (t := s3.toks) I3 hb f3 fo3
  have stB : tn 0 (pushCells (s3.heap.push { cls := .type "dict", data := .dict #[] }) scope.names) := T.keep _ _ _ st3 fun b _ o e => pushCells_keeps _ _ b o (Heap.get?_push_of_some _ e)
  have fB : ∀ b ∈ fp, FpOk (X.blk scope N (cellsFrom (s3.heap.objs.size + 1) scope.names (clOf X.env scope.names [])) s3.heap.objs.size s3 (upd H2 s2.heap.objs.size (.lst [])) fp (X.pn ++ pins)) [] (upd H2 s2.heap.objs.size (.lst [])) b := fun b hb => by
    obtain ⟨n0, n1, n2, n3, n4, n5⟩ := f3 b hb
    refine ⟨n0, (IB.ok.exf b hb).1, IB.ok.exfs b hb, .inl hb, (IB.ok.exf b hb).2, fun p hp => ?_⟩
    rw [List.append_nil] at hp
    exact n5 p hp
  have loop : codeAny (model X.prog X.w) X.A (.compLoop (.ListComp elt (⟨tg, iter, ifs, 0⟩ :: rest) scope pos) 0 (.ref it) (.ref s2.heap.objs.size) (compEnvC scope (cellsFrom (s3.heap.objs.size + 1) scope.names (clOf X.env scope.names [])) s3.heap.objs.size X.env))
      (compPost (model X.prog X.w) X.A X.xe use Q (.ref s2.heap.objs.size) s3.heap.objs.size) { s3 with heap := pushCells (s3.heap.push { cls := .type "dict", data := .dict #[] }) scope.names } := by
    refine comp_loop (X := X.blk scope N (cellsFrom (s3.heap.objs.size + 1) scope.names (clOf X.env scope.names [])) s3.heap.objs.size s3 (upd H2 s2.heap.objs.size (.lst [])) fp (X.pn ++ pins)) rfl hc rfl (by simpa using ha) (hg _ _ _ _ _ _) (ht _ _ _ _ _ _) (hl _ _ _ _ _ _) IB T stB fB (q _ hfresh) fun σ' H' s' I' k' => ?_
    obtain ⟨m, hn, _⟩ := I'.loc
    refine hQ _ _ H' s' m (blk_end I3 f3 I') k' hn I'.free ?_ I3.sz ?_ ?_
    · exact Nat.ne_of_gt I3.lt
    · intro x c e
      obtain ⟨v, o, ho, _⟩ := I3.cell x c e
      exact Nat.ne_of_lt (Heap.lt_size ho)
    · intro p hp
      exact Nat.ne_of_lt (Heap.lt_size (I3.pin p hp).1)
  subst hs3
  exact compStart_gen (d := 0) rfl loop (T.self X.A 0 _ _ _ stB loop)
theorem pe_comp (hc : X.calm = true) (hb : blkOk scope X.env.scope N src X.N = true) (ha : ∀ g', rest[0]? = some g' → g'.is_async = 0)
    (hi : PI X tg iter wi)
    (hg : ∀ cs C s H ex pn, PG (X.blk scope N cs C s H ex pn) tg g) (ht : ∀ cs C s H ex pn, PTs (X.blk scope N cs C s H ex pn) ifs tc)
    (hl : ∀ cs C s H ex pn, PL (X.blk scope N cs C s H ex pn) elt (⟨tg, iter, ifs, 0⟩ :: rest) scope pos 0 l)
    (hs : ∀ x, foldedSetIterable iter X.env x = pure x := by intro _; rfl) : PE X (.ListComp elt (⟨tg, iter, ifs, 0⟩ :: rest) scope pos) (tComp src wi g tc l) := .mk <| by
  intro pins s σ H Q I h
  rw [eval_ListComp]
  refine comp_run (use := none) hc hb ha hi hg ht hl hs I h fun acc C H' s' m I' q' hn hC hL h1 h2 h3 => ?_
  exact ⟨m, hn, fun h' hs' => ⟨.ref acc, H', blk_gone I' hC hL h1 h2 h3 hs', rfl, q'⟩⟩
theorem ps_setC {i : Nat} {x : Str} {pos' spos : Pos} (hN : X.N.Nodup) (hi0 : X.N[i]? = some x) (hx : Loc X.env.scope x) (hc : X.calm = true) (hb : blkOk scope X.env.scope N src X.N = true) (ha : ∀ g', rest[0]? = some g' → g'.is_async = 0)
    (hi : PI X tg iter wi)
    (hg : ∀ cs C s H ex pn, PG (X.blk scope N cs C s H ex pn) tg g) (ht : ∀ cs C s H ex pn, PTs (X.blk scope N cs C s H ex pn) ifs tc)
    (hl : ∀ cs C s H ex pn, PL (X.blk scope N cs C s H ex pn) elt (⟨tg, iter, ifs, 0⟩ :: rest) scope pos 0 l)
    (hs : ∀ x, foldedSetIterable iter X.env x = pure x := by intro _; rfl)
    (hsw : swapsWith (.ListComp elt (⟨tg, iter, ifs, 0⟩ :: rest) scope pos) (some (.Name x pos')) spos.line X.env = pure true := by rfl)
    (hf : X.fn x = true ∨ X.env.scope.names.lookup x = some .local := by first | exact .inl rfl | exact .inr rfl | assumption) :
    PS X (.Assign [.Name x pos'] (.ListComp elt (⟨tg, iter, ifs, 0⟩ :: rest) scope pos) spos) (tAsg (tComp src wi g tc l) (gName i)) := .mk <| by
  intro pins s σ H D I h
  rw [exec_Assign_Name_used _ _ _ _ hsw]
  refine wpAny_bind (wpAny_standAt (wpAny_bind ?_))
  show wpAny _ X.A (do let _ ← comprehension (.ListComp elt (⟨tg, iter, ifs, 0⟩ :: rest) scope pos) scope X.env (firstIterPos (⟨tg, iter, ifs, 0⟩ :: rest) pos) (newList []) false (firstIter (⟨tg, iter, ifs, 0⟩ :: rest) X.env) (some (assign (.Name x pos') X.env))) _ _ s
  refine wpAny_bind (wpAny_mono (comp_run (use := some (assign (.Name x pos') X.env)) (Q := fun _ s' => SP X pins D .next s') hc hb ha hi hg ht hl hs I h fun acc C H' s' m I' q' hn hC hL h1 h2 h3 => ?_) (fun _ s' hq => wpAny_pure (wpAny_pure hq)) fun _ _ e => e)
  show wpAny _ X.A (assign (.Name x pos') X.env (.ref acc)) _ _ _
  refine wpAny_assign_Name (store_ok2 (v := .ref acc) I' hN hi0 hx rfl (fun s'' I'' ⟨a, hsb, hwh⟩ => ?_) hf)
  have hne : C ≠ a := by
    rcases hwh with e | e
    · rw [e]; exact hL
    · exact fun z => h2 x a e z.symm
  exact ⟨m, hn.sameBut hsb hne, fun h' hs' => ⟨σ.set i (some (.ref acc)), H', blk_gone I'' hC hL h1 h2 h3 hs', q'⟩⟩
end
end L2
set_option Elab.async false
set_option linter.all false
set_option maxRecDepth 100000
set_option maxHeartbeats 1000000
namespace L2
open PySem PySem.Spec PyProof.Rows
section
variable {X : Cx}
def tyName (H : Hp) : V → Option String
  | .non => some "NoneType"
  | .bl _ => some "bool"
  | .int _ => some "int"
  | .str _ => some "str"
  | .ref a => match H a with
    | some (.lst _) => some "list"
    | some (.tup _) => some "tuple"
    | some (.dK _) => some "dict"
    | some (.frz _ (.lst _)) => some "list"
    | _ => none
  | _ => none
def isA (H : Hp) (x : V) (T : String) : Bool := match tyName H x with
  | some t => t == T || (t == "bool" && T == "int")
  | none => false
theorem tyName_of {K : PySem.W.Frag} {H : Hp} {x : V} {t : String} (h : tyName H x = some t) : TyOf K H x (.type t) := by
  cases x with
  | non => cases h; exact .non
  | bl b => cases h; exact .bl b
  | int i => cases h; exact .int i
  | str z => cases h; exact .str z
  | byt b => cases h
  | flt b => cases h
  | ty n => cases h
  | ref a =>
    unfold tyName at h
    dsimp only at h
    split at h
    · rename_i e; cases h; exact .lst e
    · rename_i e; cases h; exact .tup e
    · rename_i e; cases h; exact .dK e
    · rename_i e; cases h; exact .frz e
    · cases h
def kinds : List String := ["NoneType", "bool", "int", "str", "list", "tuple", "dict"]
theorem tyName_kind {H : Hp} {x : V} {t : String} (h : tyName H x = some t) : t ∈ kinds := by
  cases x with
  | non => cases h; decide
  | bl b => cases h; decide
  | int i => cases h; decide
  | str z => cases h; decide
  | byt b => cases h
  | flt b => cases h
  | ty n => cases h
  | ref a =>
    unfold tyName at h
    dsimp only at h
    split at h <;> first | (cases h; decide) | cases h
theorem kit_ty (K : PySem.W.Frag) {t T : String} (ht : t ∈ kinds) (hT : T ∈ kinds) : PySem.W.kitOne K (.type t) (.type T) = some (t == T || (t == "bool" && T == "int")) := by
  simp only [kinds, List.mem_cons, List.not_mem_nil, or_false] at ht hT
  rcases ht with rfl | rfl | rfl | rfl | rfl | rfl | rfl <;> rcases hT with rfl | rfl | rfl | rfl | rfl | rfl | rfl <;> with_unfolding_all rfl
theorem call_isA : CallR X (.builtin "isinstance") (fun xs H Q => ∃ x T, xs = [x, .ty T] ∧ T ∈ kinds ∧ (tyName H x).isSome = true ∧ Q (.bl (isA H x T)) H) := by
  intro pins s σ H xs us Q I r h
  obtain ⟨x, T, rfl, hT, hs, q⟩ := h
  obtain ⟨u, w', rfl, rx, rT⟩ := vals2 r
  cases (show w' = Value.type T from rT)
  obtain ⟨t, ht⟩ := Option.isSome_iff_exists.mp hs
  refine isinst_ok I rx (tyName_of ht) (kit_ty X.K (tyName_kind ht) hT) fun tk => ⟨.bl (isA H x T), H, I.tok tk, ?_, q⟩
  show _ = Value.bool (isA H x T)
  unfold isA
  rw [ht]
end
end L2
set_option Elab.async false
set_option linter.all false
set_option autoImplicit false
set_option maxRecDepth 100000
set_option maxHeartbeats 1000000
namespace L2
open PySem PySem.Spec PyProof.Rows
inductive D where
  | non | bl (b : Bool) | int (i : Int) | str (x : Str) | tup (ds : List D) | lst (ds : List D)
mutual
def Dat (H : Hp) : D → V → Prop
  | .non, v => v = .non
  | .bl b, v => v = .bl b
  | .int i, v => v = .int i
  | .str x, v => v = .str x
  | .tup ds, v => ∃ a xs, v = .ref a ∧ H a = some (.tup xs) ∧ Dats H ds xs
  | .lst ds, v => ∃ a xs, v = .ref a ∧ H a = some (.lst xs) ∧ Dats H ds xs
def Dats (H : Hp) : List D → List V → Prop
  | [], xs => xs = []
  | d :: ds, xs => ∃ x r, xs = x :: r ∧ Dat H d x ∧ Dats H ds r
end
mutual
def dep : D → Nat
  | .tup ds => deps ds + 1
  | .lst ds => deps ds + 1
  | _ => 0
def deps : List D → Nat
  | [] => 0
  | d :: ds => max (dep d) (deps ds)
end
mutual
def eqD : D → D → Bool
  | .non, .non => true
  | .bl a, .bl b => a == b
  | .bl a, .int b => (if a then 1 else 0) == b
  | .int a, .bl b => a == (if b then 1 else 0)
  | .int a, .int b => a == b
  | .str a, .str b => a == b
  | .tup a, .tup b => eqDs a b
  | .lst a, .lst b => eqDs a b
  | _, _ => false
def eqDs : List D → List D → Bool
  | [], [] => true
  | x :: xs, y :: ys => eqD x y && eqDs xs ys
  | _, _ => false
end
theorem deps_mem : ∀ {ds : List D} {d : D}, d ∈ ds → dep d ≤ deps ds
  | d :: ds, e, h => by
    unfold deps
    rcases List.mem_cons.mp h with rfl | h
    · exact Nat.le_max_left _ _
    · exact Nat.le_trans (deps_mem h) (Nat.le_max_right _ _)
theorem Dats.length : ∀ {H : Hp} {ds : List D} {xs : List V}, Dats H ds xs → xs.length = ds.length
  | H, [], xs, h => by
    have e : xs = [] := by simpa [Dats] using h
    rw [e]; rfl
  | H, d :: ds, xs, h => by
    obtain ⟨x, r, rfl, _, t⟩ : ∃ x r, xs = x :: r ∧ Dat H d x ∧ Dats H ds r := by simpa only [Dats] using h
    rw [List.length_cons, List.length_cons, Dats.length t]
theorem Dats.get : ∀ {H : Hp} {ds : List D} {xs : List V} {i : Nat} {d : D}, Dats H ds xs → ds[i]? = some d → ∃ x, xs[i]? = some x ∧ Dat H d x
  | H, [], xs, i, d, h, e => by simp at e
  | H, d' :: ds, xs, i, d, h, e => by
    obtain ⟨x, r, rfl, hx, t⟩ : ∃ x r, xs = x :: r ∧ Dat H d' x ∧ Dats H ds r := by simpa only [Dats] using h
    cases i with
    | zero => simp at e; subst e; exact ⟨x, rfl, hx⟩
    | succ i => simpa using Dats.get t (i := i) (by simpa using e)
theorem Dats.of_get : ∀ {H : Hp} {ds : List D} {xs : List V}, xs.length = ds.length → (∀ (i : Nat) (d : D) (x : V), ds[i]? = some d → xs[i]? = some x → Dat H d x) → Dats H ds xs
  | H, [], [], _, _ => by simp [Dats]
  | H, d :: ds, x :: xs, hl, h => by
    simp only [Dats]
    exact ⟨x, xs, rfl, h 0 d x rfl rfl, Dats.of_get (by simpa using hl) fun i d x e1 e2 => h (i + 1) d x (by simpa using e1) (by simpa using e2)⟩
  | H, [], _ :: _, hl, _ => by simp at hl
  | H, _ :: _, [], hl, _ => by simp at hl
theorem Dats.append : ∀ {H : Hp} {ds es : List D} {xs ys : List V}, Dats H ds xs → Dats H es ys → Dats H (ds ++ es) (xs ++ ys)
  | H, [], es, xs, ys, h, h' => by
    have e : xs = [] := by simpa [Dats] using h
    rw [e]; exact h'
  | H, d :: ds, es, xs, ys, h, h' => by
    obtain ⟨x, r, rfl, hx, t⟩ : ∃ x r, xs = x :: r ∧ Dat H d x ∧ Dats H ds r := by simpa only [Dats] using h
    show Dats H (d :: (ds ++ es)) (x :: (r ++ ys))
    simp only [Dats]
    exact ⟨x, r ++ ys, rfl, hx, Dats.append t h'⟩
mutual
theorem Dat.same {H H' : Hp} (e : Same H H') : ∀ {d : D} {v : V}, Dat H d v → Dat H' d v
  | .non, v, h => by simpa only [Dat] using h
  | .bl b, v, h => by simpa only [Dat] using h
  | .int i, v, h => by simpa only [Dat] using h
  | .str x, v, h => by simpa only [Dat] using h
  | .tup ds, v, h => by
    simp only [Dat] at h ⊢
    obtain ⟨a, xs, rfl, h1, h2⟩ := h
    exact ⟨a, xs, rfl, e a _ h1, Dats.same e h2⟩
  | .lst ds, v, h => by
    simp only [Dat] at h ⊢
    obtain ⟨a, xs, rfl, h1, h2⟩ := h
    exact ⟨a, xs, rfl, e a _ h1, Dats.same e h2⟩
theorem Dats.same {H H' : Hp} (e : Same H H') : ∀ {ds : List D} {xs : List V}, Dats H ds xs → Dats H' ds xs
  | [], xs, h => by simpa only [Dats] using h
  | d :: ds, xs, h => by
    simp only [Dats] at h ⊢
    obtain ⟨x, r, rfl, h1, h2⟩ := h
    exact ⟨x, r, rfl, Dat.same e h1, Dats.same e h2⟩
end
mutual
theorem Dat.inj {H : Hp} : ∀ {d e : D} {v : V}, Dat H d v → Dat H e v → d = e
  | .non, e, v, h, h' => by
    simp only [Dat] at h; subst h
    cases e <;> simp only [Dat] at h' <;> first | rfl | (obtain ⟨_, _, h', _⟩ := h'; cases h'; done) | (cases h'; done)
  | .bl b, e, v, h, h' => by
    simp only [Dat] at h; subst h
    cases e <;> simp only [Dat] at h' <;> first | (obtain ⟨_, _, h', _⟩ := h'; cases h'; done) | (cases h'; rfl) | (cases h'; done)
  | .int i, e, v, h, h' => by
    simp only [Dat] at h; subst h
    cases e <;> simp only [Dat] at h' <;> first | (obtain ⟨_, _, h', _⟩ := h'; cases h'; done) | (cases h'; rfl) | (cases h'; done)
  | .str x, e, v, h, h' => by
    simp only [Dat] at h; subst h
    cases e <;> simp only [Dat] at h' <;> first | (obtain ⟨_, _, h', _⟩ := h'; cases h'; done) | (cases h'; rfl) | (cases h'; done)
  | .tup ds, e, v, h, h' => by
    simp only [Dat] at h
    obtain ⟨a, xs, rfl, h1, h2⟩ := h
    cases e with
    | tup es =>
      simp only [Dat] at h'
      obtain ⟨b, ys, e1, h3, h4⟩ := h'
      cases e1
      rw [h1] at h3; cases h3
      rw [Dats.inj h2 h4]
    | lst es =>
      simp only [Dat] at h'
      obtain ⟨b, ys, e1, h3, h4⟩ := h'
      cases e1
      rw [h1] at h3; cases h3
    | _ => simp only [Dat] at h'; cases h'
  | .lst ds, e, v, h, h' => by
    simp only [Dat] at h
    obtain ⟨a, xs, rfl, h1, h2⟩ := h
    cases e with
    | lst es =>
      simp only [Dat] at h'
      obtain ⟨b, ys, e1, h3, h4⟩ := h'
      cases e1
      rw [h1] at h3; cases h3
      rw [Dats.inj h2 h4]
    | tup es =>
      simp only [Dat] at h'
      obtain ⟨b, ys, e1, h3, h4⟩ := h'
      cases e1
      rw [h1] at h3; cases h3
    | _ => simp only [Dat] at h'; cases h'
theorem Dats.inj {H : Hp} : ∀ {ds es : List D} {xs : List V}, Dats H ds xs → Dats H es xs → ds = es
  | [], [], _, _, _ => rfl
  | [], e :: es, xs, h, h' => by
    simp only [Dats] at h h'
    obtain ⟨x, r, rfl, _⟩ := h'
    cases h
  | d :: ds, [], xs, h, h' => by
    simp only [Dats] at h h'
    obtain ⟨x, r, rfl, _⟩ := h
    cases h'
  | d :: ds, e :: es, xs, h, h' => by
    simp only [Dats] at h h'
    obtain ⟨x, r, rfl, h1, h2⟩ := h
    obtain ⟨x', r', e1, h3, h4⟩ := h'
    cases e1
    rw [Dat.inj h1 h3, Dats.inj h2 h4]
end
mutual
theorem eqD_refl : ∀ d : D, eqD d d = true
  | .non => by simp [eqD]
  | .bl b => by simp [eqD]
  | .int i => by simp [eqD]
  | .str x => by simp [eqD]
  | .tup ds => by simp only [eqD]; exact eqDs_refl ds
  | .lst ds => by simp only [eqD]; exact eqDs_refl ds
theorem eqDs_refl : ∀ ds : List D, eqDs ds ds = true
  | [] => by simp [eqDs]
  | d :: ds => by simp only [eqDs, eqD_refl d, eqDs_refl ds, Bool.and_self]
end
theorem eqDs_len : ∀ {ds es : List D}, ds.length ≠ es.length → eqDs ds es = false
  | [], [], h => absurd rfl h
  | [], _ :: _, _ => by simp [eqDs]
  | _ :: _, [], _ => by simp [eqDs]
  | d :: ds, e :: es, h => by
    simp only [eqDs, eqDs_len (ds := ds) (es := es) (by simpa using h), Bool.and_false]
theorem eqDs_range : ∀ {ds es : List D}, ds.length = es.length → (List.range ds.length).all (fun j => eqD (ds.getD j .non) (es.getD j .non)) = eqDs ds es
  | [], [], _ => by simp [eqDs]
  | [], _ :: _, h => by simp at h
  | _ :: _, [], h => by simp at h
  | d :: ds, e :: es, h => by
    have ih := eqDs_range (ds := ds) (es := es) (by simpa using h)
    rw [List.length_cons, List.range_succ_eq_map, List.all_cons, List.all_map]
    simp only [eqDs, ← ih]
    rfl
end L2
set_option Elab.async false
set_option linter.all false
set_option autoImplicit false
set_option maxRecDepth 100000
set_option maxHeartbeats 1000000
namespace L2
open PySem PySem.Spec PyProof.Rows
section
variable {X : Cx} {pins : List (Addr × Obj)} {σ : St} {H : Hp} {s : Shared}
theorem vals_at : ∀ {xs : List V} {us : List Value} {j : Nat} {x : V}, Vals xs us → xs[j]? = some x → ∀ (h : j < us.toArray.size), RelV x us.toArray[j] := fun {xs us j x} r e h => by
  obtain ⟨u, h1, h2⟩ := r.get e
  have : us[j]? = some us.toArray[j] := by
    rw [List.getElem?_eq_getElem (by simpa using h)]
    simp
  rw [h1] at this
  cases this
  exact h2
theorem tup_at (I : Inv X pins σ H s) {a : Addr} {xs : List V} (h : H a = some (.tup xs)) : ∃ its : List Value, Vals xs its ∧ s.heap.IsTuple a its.toArray := by
  obtain ⟨its, r, p, _⟩ := I.tuple (SqT.of (K := X.K) h)
  exact ⟨its, r, p⟩
theorem lst_at (I : Inv X pins σ H s) {a : Addr} {xs : List V} (h : H a = some (.lst xs)) : ∃ its : List Value, Vals xs its ∧ s.heap.IsList a its.toArray := by
  obtain ⟨its, r, p, _⟩ := I.list (SqL.of (K := X.K) h)
  exact ⟨its, r, p.isList⟩
theorem eqDs_min {ds es : List D} : ((List.range (min ds.length es.length)).all (fun j => eqD (ds.getD j .non) (es.getD j .non)) && ds.length == es.length) = eqDs ds es := by
  by_cases h : ds.length = es.length
  · rw [← eqDs_range h]
    have : min ds.length es.length = ds.length := by omega
    rw [this]
    simp [h]
  · rw [eqDs_len h]
    have : (ds.length == es.length) = false := by simpa using h
    rw [this, Bool.and_false]
theorem eqAt_D (I : Inv X pins σ H s) (n : Nat) : ∀ (d e : D) (x y : V) (v u : Value) (A : Around), dep d ≤ n → A.units + n < cLine → Dat H d x → Dat H e y → RelV x v → RelV y u →
    SeqAt.RcAt A s v u (eqD d e) ∧ SeqAt.EqAt A s v u (eqD d e) ∧ SeqAt.RcNeAt A s v u (!eqD d e) := by
  induction n with
  | zero =>
    intro d e x y v u A hd hu hx hy rx ry
    have hu' : A.units < cLine := by omega
    cases d with
    | tup ds => simp only [dep] at hd; omega
    | lst ds => simp only [dep] at hd; omega
    | non =>
      simp only [Dat] at hx; subst hx; cases rx
      cases e with
      | non => simp only [Dat] at hy; subst hy; cases ry; exact ⟨SeqAt.RcAt.none_none, SeqAt.EqAt.same _, SeqAt.RcNeAt.none_none⟩
      | bl b => simp only [Dat] at hy; subst hy; cases ry; exact ⟨SeqAt.RcAt.none_bool b, SeqAt.EqAt.none_bool b, SeqAt.RcNeAt.none_bool b⟩
      | int b => simp only [Dat] at hy; subst hy; obtain ⟨t, rfl⟩ := ry; exact ⟨SeqAt.RcAt.none_int b t, SeqAt.EqAt.none_int b t, SeqAt.RcNeAt.none_int b t⟩
      | str b => simp only [Dat] at hy; subst hy; obtain ⟨t, rfl⟩ := ry; exact ⟨SeqAt.RcAt.none_str b t, SeqAt.EqAt.none_str b t, SeqAt.RcNeAt.none_str b t⟩
      | tup es =>
        simp only [Dat] at hy; obtain ⟨b, ys, rfl, hb, _⟩ := hy; cases ry
        obtain ⟨its, _, p⟩ := tup_at I hb
        exact ⟨SeqAt.RcAt.none_tuple p hu', SeqAt.EqAt.none_tuple p hu', SeqAt.RcNeAt.none_tuple p hu'⟩
      | lst es =>
        simp only [Dat] at hy; obtain ⟨b, ys, rfl, hb, _⟩ := hy; cases ry
        obtain ⟨its, _, p⟩ := lst_at I hb
        exact ⟨SeqAt.RcAt.none_list p hu', SeqAt.EqAt.none_list p hu', SeqAt.RcNeAt.none_list p hu'⟩
    | bl a =>
      simp only [Dat] at hx; subst hx; cases rx
      cases e with
      | non => simp only [Dat] at hy; subst hy; cases ry; exact ⟨SeqAt.RcAt.bool_none a, SeqAt.EqAt.bool_none a, SeqAt.RcNeAt.bool_none a⟩
      | bl b => simp only [Dat] at hy; subst hy; cases ry; exact ⟨SeqAt.RcAt.bool_bool a b, SeqAt.EqAt.bool_bool a b, SeqAt.RcNeAt.bool_bool a b⟩
      | int b => simp only [Dat] at hy; subst hy; obtain ⟨t, rfl⟩ := ry; exact ⟨SeqAt.RcAt.bool_int a b t, SeqAt.EqAt.bool_int a b t, SeqAt.RcNeAt.bool_int a b t⟩
      | str b => simp only [Dat] at hy; subst hy; obtain ⟨t, rfl⟩ := ry; exact ⟨SeqAt.RcAt.bool_str a b t, SeqAt.EqAt.bool_str a b t, SeqAt.RcNeAt.bool_str a b t⟩
      | tup es =>
        simp only [Dat] at hy; obtain ⟨b, ys, rfl, hb, _⟩ := hy; cases ry
        obtain ⟨its, _, p⟩ := tup_at I hb
        exact ⟨SeqAt.RcAt.bool_tuple a p hu', SeqAt.EqAt.bool_tuple a p hu', SeqAt.RcNeAt.bool_tuple a p hu'⟩
      | lst es =>
        simp only [Dat] at hy; obtain ⟨b, ys, rfl, hb, _⟩ := hy; cases ry
        obtain ⟨its, _, p⟩ := lst_at I hb
        exact ⟨SeqAt.RcAt.bool_list a p hu', SeqAt.EqAt.bool_list a p hu', SeqAt.RcNeAt.bool_list a p hu'⟩
    | int a =>
      simp only [Dat] at hx; subst hx; obtain ⟨t', rfl⟩ := rx
      cases e with
      | non => simp only [Dat] at hy; subst hy; cases ry; exact ⟨SeqAt.RcAt.int_none a t', SeqAt.EqAt.int_none a t', SeqAt.RcNeAt.int_none a t'⟩
      | bl b => simp only [Dat] at hy; subst hy; cases ry; exact ⟨SeqAt.RcAt.int_bool a t' b, SeqAt.EqAt.int_bool a t' b, SeqAt.RcNeAt.int_bool a t' b⟩
      | int b => simp only [Dat] at hy; subst hy; obtain ⟨t, rfl⟩ := ry; exact ⟨SeqAt.RcAt.int_int a t' b t, SeqAt.EqAt.int_int a t' b t, SeqAt.RcNeAt.int_int a t' b t⟩
      | str b => simp only [Dat] at hy; subst hy; obtain ⟨t, rfl⟩ := ry; exact ⟨SeqAt.RcAt.int_str a t' b t, SeqAt.EqAt.int_str a t' b t, SeqAt.RcNeAt.int_str a t' b t⟩
      | tup es =>
        simp only [Dat] at hy; obtain ⟨b, ys, rfl, hb, _⟩ := hy; cases ry
        obtain ⟨its, _, p⟩ := tup_at I hb
        exact ⟨SeqAt.RcAt.int_tuple a t' p hu', SeqAt.EqAt.int_tuple a t' p hu', SeqAt.RcNeAt.int_tuple a t' p hu'⟩
      | lst es =>
        simp only [Dat] at hy; obtain ⟨b, ys, rfl, hb, _⟩ := hy; cases ry
        obtain ⟨its, _, p⟩ := lst_at I hb
        exact ⟨SeqAt.RcAt.int_list a t' p hu', SeqAt.EqAt.int_list a t' p hu', SeqAt.RcNeAt.int_list a t' p hu'⟩
    | str a =>
      simp only [Dat] at hx; subst hx; obtain ⟨t', rfl⟩ := rx
      cases e with
      | non => simp only [Dat] at hy; subst hy; cases ry; exact ⟨SeqAt.RcAt.str_none a t', SeqAt.EqAt.str_none a t', SeqAt.RcNeAt.str_none a t'⟩
      | bl b => simp only [Dat] at hy; subst hy; cases ry; exact ⟨SeqAt.RcAt.str_bool a t' b, SeqAt.EqAt.str_bool a t' b, SeqAt.RcNeAt.str_bool a t' b⟩
      | int b => simp only [Dat] at hy; subst hy; obtain ⟨t, rfl⟩ := ry; exact ⟨SeqAt.RcAt.str_int a t' b t, SeqAt.EqAt.str_int a t' b t, SeqAt.RcNeAt.str_int a t' b t⟩
      | str b => simp only [Dat] at hy; subst hy; obtain ⟨t, rfl⟩ := ry; exact ⟨SeqAt.RcAt.str_str a t' b t, SeqAt.EqAt.str_str a t' b t, SeqAt.RcNeAt.str_str a t' b t⟩
      | tup es =>
        simp only [Dat] at hy; obtain ⟨b, ys, rfl, hb, _⟩ := hy; cases ry
        obtain ⟨its, _, p⟩ := tup_at I hb
        exact ⟨SeqAt.RcAt.str_tuple a t' p hu', SeqAt.EqAt.str_tuple a t' p hu', SeqAt.RcNeAt.str_tuple a t' p hu'⟩
      | lst es =>
        simp only [Dat] at hy; obtain ⟨b, ys, rfl, hb, _⟩ := hy; cases ry
        obtain ⟨its, _, p⟩ := lst_at I hb
        exact ⟨SeqAt.RcAt.str_list a t' p hu', SeqAt.EqAt.str_list a t' p hu', SeqAt.RcNeAt.str_list a t' p hu'⟩
  | succ n ih =>
    intro d e x y v u A hd hu hx hy rx ry
    have hu' : A.units < cLine := by omega
    by_cases h0 : dep d ≤ n
    · exact ih d e x y v u A h0 (by omega) hx hy rx ry
    have hin : A.in1.units + n < cLine := by show A.units + 1 + n < cLine; omega
    have items : ∀ (ds es : List D) (xs ys : List V) (its its2 : List Value), deps ds ≤ n → Dats H ds xs → Dats H es ys → Vals xs its → Vals ys its2 →
        ∀ j (h1 : j < its.toArray.size) (h2 : j < its2.toArray.size), SeqAt.EqAt A.in1 s its.toArray[j] its2.toArray[j] (eqD (ds.getD j .non) (es.getD j .non)) := by
      intro ds es xs ys its its2 hdp hxs hys r1 r2 j h1 h2
      have l1 : j < ds.length := by rw [← hxs.length, r1.length]; simpa using h1
      have l2 : j < es.length := by rw [← hys.length, r2.length]; simpa using h2
      obtain ⟨x', ex, hx'⟩ := hxs.get (List.getElem?_eq_getElem l1)
      obtain ⟨y', ey, hy'⟩ := hys.get (List.getElem?_eq_getElem l2)
      have g1 : ds.getD j .non = ds[j] := by rw [List.getD_eq_getElem?_getD, List.getElem?_eq_getElem l1]; rfl
      have g2 : es.getD j .non = es[j] := by rw [List.getD_eq_getElem?_getD, List.getElem?_eq_getElem l2]; rfl
      rw [g1, g2]
      exact (ih ds[j] es[j] x' y' _ _ A.in1 (Nat.le_trans (deps_mem (List.getElem_mem l1)) hdp) hin hx' hy' (vals_at r1 ex h1) (vals_at r2 ey h2)).2.1
    cases d with
    | non => simp only [dep] at h0; omega
    | bl a => simp only [dep] at h0; omega
    | int a => simp only [dep] at h0; omega
    | str a => simp only [dep] at h0; omega
    | tup ds =>
      simp only [dep] at hd
      have hx0 := hx
      simp only [Dat] at hx; obtain ⟨a, xs, rfl, ha, hxs⟩ := hx; cases rx
      obtain ⟨its, r1, p⟩ := tup_at I ha
      cases e with
      | non => simp only [Dat] at hy; subst hy; cases ry; exact ⟨SeqAt.RcAt.tuple_none p hu', SeqAt.EqAt.tuple_none p hu', SeqAt.RcNeAt.tuple_none p hu'⟩
      | bl b => simp only [Dat] at hy; subst hy; cases ry; exact ⟨SeqAt.RcAt.tuple_bool b p hu', SeqAt.EqAt.tuple_bool b p hu', SeqAt.RcNeAt.tuple_bool b p hu'⟩
      | int b => simp only [Dat] at hy; subst hy; obtain ⟨t, rfl⟩ := ry; exact ⟨SeqAt.RcAt.tuple_int b t p hu', SeqAt.EqAt.tuple_int b t p hu', SeqAt.RcNeAt.tuple_int b t p hu'⟩
      | str b => simp only [Dat] at hy; subst hy; obtain ⟨t, rfl⟩ := ry; exact ⟨SeqAt.RcAt.tuple_str b t p hu', SeqAt.EqAt.tuple_str b t p hu', SeqAt.RcNeAt.tuple_str b t p hu'⟩
      | lst es =>
        simp only [Dat] at hy; obtain ⟨b, ys, rfl, hb, _⟩ := hy; cases ry
        obtain ⟨its2, _, p2⟩ := lst_at I hb
        exact ⟨SeqAt.RcAt.tuple_list p p2 hu', SeqAt.EqAt.tuple_list p p2 hu', SeqAt.RcNeAt.tuple_list p p2 hu'⟩
      | tup es =>
        have hy0 := hy
        simp only [Dat] at hy; obtain ⟨b, ys, rfl, hb, hys⟩ := hy; cases ry
        obtain ⟨its2, r2, p2⟩ := tup_at I hb
        have it := items ds es xs ys its its2 (by omega) hxs hys r1 r2
        have z1 : its.toArray.size = ds.length := by rw [← hxs.length, r1.length]; simp
        have z2 : its2.toArray.size = es.length := by rw [← hys.length, r2.length]; simp
        have e0 := eqDs_min (ds := ds) (es := es)
        have rc : SeqAt.RcAt A s (.ref a) (.ref b) (eqDs ds es) := by
          have := SeqAt.RcAt.tuples p p2 hu' it
          rw [z1, z2, e0] at this
          exact this
        have rn : SeqAt.RcNeAt A s (.ref a) (.ref b) (!eqDs ds es) := by
          have := SeqAt.RcNeAt.tuples p p2 hu' it
          rw [z1, z2, e0] at this
          exact this
        simp only [eqD]
        refine ⟨rc, ?_, rn⟩
        by_cases hab : a = b
        · subst hab
          have : D.tup ds = D.tup es := hx0.inj hy0
          cases this
          rw [eqDs_refl]
          exact SeqAt.EqAt.same _
        · exact .of_refs hab rc
    | lst ds =>
      simp only [dep] at hd
      have hx0 := hx
      simp only [Dat] at hx; obtain ⟨a, xs, rfl, ha, hxs⟩ := hx; cases rx
      obtain ⟨its, r1, p⟩ := lst_at I ha
      cases e with
      | non => simp only [Dat] at hy; subst hy; cases ry; exact ⟨SeqAt.RcAt.list_none p hu', SeqAt.EqAt.list_none p hu', SeqAt.RcNeAt.list_none p hu'⟩
      | bl b => simp only [Dat] at hy; subst hy; cases ry; exact ⟨SeqAt.RcAt.list_bool b p hu', SeqAt.EqAt.list_bool b p hu', SeqAt.RcNeAt.list_bool b p hu'⟩
      | int b => simp only [Dat] at hy; subst hy; obtain ⟨t, rfl⟩ := ry; exact ⟨SeqAt.RcAt.list_int b t p hu', SeqAt.EqAt.list_int b t p hu', SeqAt.RcNeAt.list_int b t p hu'⟩
      | str b => simp only [Dat] at hy; subst hy; obtain ⟨t, rfl⟩ := ry; exact ⟨SeqAt.RcAt.list_str b t p hu', SeqAt.EqAt.list_str b t p hu', SeqAt.RcNeAt.list_str b t p hu'⟩
      | tup es =>
        simp only [Dat] at hy; obtain ⟨b, ys, rfl, hb, _⟩ := hy; cases ry
        obtain ⟨its2, _, p2⟩ := tup_at I hb
        exact ⟨SeqAt.RcAt.list_tuple p p2 hu', SeqAt.EqAt.list_tuple p p2 hu', SeqAt.RcNeAt.list_tuple p p2 hu'⟩
      | lst es =>
        have hy0 := hy
        simp only [Dat] at hy; obtain ⟨b, ys, rfl, hb, hys⟩ := hy; cases ry
        obtain ⟨its2, r2, p2⟩ := lst_at I hb
        have it := items ds es xs ys its its2 (by omega) hxs hys r1 r2
        have z1 : its.toArray.size = ds.length := by rw [← hxs.length, r1.length]; simp
        have z2 : its2.toArray.size = es.length := by rw [← hys.length, r2.length]; simp
        have both : SeqAt.RcAt A s (.ref a) (.ref b) (eqDs ds es) ∧ SeqAt.RcNeAt A s (.ref a) (.ref b) (!eqDs ds es) := by
          by_cases hl : ds.length = es.length
          · have r := SeqAt.RcAt.lists p p2 (by rw [z1, z2]; exact hl) hu' it
            have q := SeqAt.RcNeAt.lists p p2 (by rw [z1, z2]; exact hl) hu' it
            rw [z1, eqDs_range hl] at r q
            exact ⟨r, q⟩
          · have hne : (its.toArray.size != its2.toArray.size) = true := by rw [z1, z2]; simpa using hl
            rw [eqDs_len hl]
            exact ⟨SeqAt.RcAt.lists_lengths p p2 hne hu', SeqAt.RcNeAt.lists_lengths p p2 hne hu'⟩
        simp only [eqD]
        refine ⟨both.1, ?_, both.2⟩
        by_cases hab : a = b
        · subst hab
          have : D.lst ds = D.lst es := hx0.inj hy0
          cases this
          rw [eqDs_refl]
          exact SeqAt.EqAt.same _
        · exact .of_refs hab both.1
def rEqD (neg : Bool) : R2 := fun x y H Q => ∃ d e, Dat H d x ∧ Dat H e y ∧ dep d ≤ 100 ∧ Q (.bl (if neg then !eqD d e else eqD d e)) H
theorem op_eqD (hu : X.A.units + 100 < cLine) : OpR X (compareOp .Eq) (rEqD false) := by
  intro pins s σ H x y v u Q I rx ry h
  obtain ⟨d, e, hx, hy, hd, q⟩ := h
  exact (eqAt_D I 100 d e x y v u X.A hd hu hx hy rx ry).1 X.prog X.w _ _ ⟨.bl _, H, I, rfl, q⟩
theorem op_neD (hu : X.A.units + 100 < cLine) : OpR X (compareOp .NotEq) (rEqD true) := by
  intro pins s σ H x y v u Q I rx ry h
  obtain ⟨d, e, hx, hy, hd, q⟩ := h
  exact (eqAt_D I 100 d e x y v u X.A hd hu hx hy rx ry).2.2 X.prog X.w _ _ ⟨.bl _, H, I, rfl, q⟩
end
end L2
set_option Elab.async false
set_option linter.all false
set_option autoImplicit false
set_option maxRecDepth 100000
set_option maxHeartbeats 1000000
namespace L2
open PySem PySem.Spec PyProof.Rows
theorem same_upd {H : Hp} {p : Addr} {o : HO} (h : H p = none) : Same H (upd H p o) := fun b u e => by
  rw [upd_ne (ne_of_none e h)]; exact e
section
variable {X : Cx}
end
end L2
set_option Elab.async false
set_option linter.all false
set_option autoImplicit false
set_option maxRecDepth 100000
set_option maxHeartbeats 1000000
namespace L2
open PySem PySem.Spec PyProof.Rows
section
variable {K : PySem.W.Frag} {g : TG} {tc : TT} {l : TL} {acc : Addr} {σ : St} {H : Hp} {R : St → Hp → Prop}
end
end L2
set_option Elab.async false
set_option linter.all false
set_option autoImplicit false
set_option maxRecDepth 100000
set_option maxHeartbeats 1000000
namespace L2
open PySem PySem.Spec PyProof.Rows
theorem cmul_mod {e k y : Int} (h : 0 < k) (h2 : k ≤ 2 ^ 64) : CMul (e % k) y := by
  have h1 := Int.emod_nonneg e (Int.ne_of_gt h)
  have h3 := Int.emod_lt_of_pos e h
  exact .inl ⟨by omega, by omega⟩
theorem cmul_l {x y : Int} (h : -(2 ^ 64) < x ∧ x < 2 ^ 64) : CMul x y := .inl h
theorem cmul_r {x y : Int} (h : -(2 ^ 64) < y ∧ y < 2 ^ 64) : CMul x y := .inr h
end L2
set_option Elab.async false
set_option linter.all false
set_option autoImplicit false
set_option maxRecDepth 100000
set_option maxHeartbeats 1000000
namespace L2
open PySem PySem.Spec PyProof.Rows
section
variable {X : Cx} {tg a b l : Expr} {ta tb tl : TE} {pos : Pos}
theorem ix_seqK (K : PySem.W.Frag) (h : X.K = K) : IxR X (rIx K) := h ▸ ix_seq
theorem call_lenK (K : PySem.W.Frag) (h : X.K = K) : CallR X (.builtin "len") (fun xs H Q => ∃ x n, xs = [x] ∧ LenV K x H n ∧ Q (.int n) H) := h ▸ call_len
theorem pt_truthK (K : PySem.W.Frag) (h : X.K = K) (ha : PE X a ta) (he : ∀ whole, isTrue a X.env whole = (do let v ← whole; standAt a.pos; holding [v] (truthy v))) :
    PT X a (fun σ H Q => ta σ H fun x H' => ∃ k, TruV K x H' k ∧ Q k H') := h ▸ pt_truth ha he
theorem call_list_ofK (K : PySem.W.Frag) (h : X.K = K) : CallR X (.type "list") (fun xs H Q => ∃ p ys, xs = [.ref p] ∧ (SqL K H p ys ∨ SqT K H p ys) ∧ ∀ l, H l = none → Q (.ref l) (upd H l (.lst ys))) := h ▸ call_list_of
theorem call_tuple_ofK (K : PySem.W.Frag) (h : X.K = K) : CallR X (.type "tuple") (fun xs H Q => ∃ p ys, xs = [.ref p] ∧ ((SqL K H p ys ∧ ∀ l, H l = none → Q (.ref l) (upd H l (.tup ys))) ∨ (SqT K H p ys ∧ Q (.ref p) H))) := h ▸ call_tuple_of
end
end L2
set_option Elab.async false
set_option linter.all false
set_option autoImplicit false
set_option maxRecDepth 100000
set_option maxHeartbeats 1000000
namespace L2
open PySem PySem.Spec PyProof.Rows
def forW (J : It) (g : TG) (tb : TS) (D : Ends) (σ : St) (H : Hp) : Prop := ∃ W : Nat → Nat → St → Hp → Prop, (∃ m, W 0 m σ H) ∧ ∀ i m σ H, W i m σ H →
  (J.stop i H ∧ D.nx σ H) ∨ (J.go i H ∧ ∃ N : St → Hp → Prop, (∀ σ' H', N σ' H' → ∃ m', m' < m ∧ W (i + 1) m' σ' H') ∧ ∀ x H', J.yld i H x H' → g x σ H' fun σ2 H2 => tb { D with nx := N, ct := N, bk := D.nx } σ2 H2)
theorem tFor_eq (wi : TI) (g : TG) (tb : TS) (D : Ends) (σ : St) (H : Hp) : tFor wi g tb D σ H = wi σ H fun J H1 => forW J g tb D σ H1 := rfl
section
variable {K : PySem.W.Frag} {a : Addr} {xs : List V} {g : TG} {tb : TS} {D : Ends} {σ : St} {H : Hp}
end
end L2
set_option Elab.async false
set_option linter.all false
set_option autoImplicit false
set_option maxRecDepth 100000
set_option maxHeartbeats 1000000
namespace L2
open PySem PySem.Spec PyProof.Rows
def TSame (H H' : Hp) : Prop := ∀ b xs, H b = some (.tup xs) → H' b = some (.tup xs)
mutual
def noL : D → Bool
  | .lst _ => false
  | .tup ds => noLs ds
  | _ => true
def noLs : List D → Bool
  | [] => true
  | d :: ds => noL d && noLs ds
end
mutual
theorem Dat.t {H H' : Hp} (e : TSame H H') : ∀ {d : D} {v : V}, noL d = true → Dat H d v → Dat H' d v
  | .non, v, _, h => by simpa only [Dat] using h
  | .bl b, v, _, h => by simpa only [Dat] using h
  | .int i, v, _, h => by simpa only [Dat] using h
  | .str x, v, _, h => by simpa only [Dat] using h
  | .tup ds, v, n, h => by
    simp only [Dat] at h ⊢
    simp only [noL] at n
    obtain ⟨a, xs, rfl, h1, h2⟩ := h
    exact ⟨a, xs, rfl, e a _ h1, Dats.t e n h2⟩
  | .lst ds, v, n, h => by simp [noL] at n
theorem Dats.t {H H' : Hp} (e : TSame H H') : ∀ {ds : List D} {xs : List V}, noLs ds = true → Dats H ds xs → Dats H' ds xs
  | [], xs, _, h => by simpa only [Dats] using h
  | d :: ds, xs, n, h => by
    simp only [Dats] at h ⊢
    simp only [noLs, Bool.and_eq_true] at n
    obtain ⟨x, r, rfl, h1, h2⟩ := h
    exact ⟨x, r, rfl, Dat.t e n.1 h1, Dats.t e n.2 h2⟩
end
theorem noLs_all : ∀ {ds : List D}, (∀ d ∈ ds, noL d = true) → noLs ds = true
  | [], _ => by simp [noLs]
  | d :: ds, h => by
    simp only [noLs, Bool.and_eq_true]
    exact ⟨h d (List.mem_cons_self ..), noLs_all fun e he => h e (List.mem_cons_of_mem _ he)⟩
theorem noLs_ints (ns : List Int) : noLs (ns.map D.int) = true := noLs_all fun d hd => by
  obtain ⟨n, _, rfl⟩ := List.mem_map.mp hd
  simp [noL]
end L2
namespace L2
theorem inv (F : Nat → St → Hp → Prop) : ∃ Pv : Nat → St → Hp → Prop, ∀ i σ H, Pv i σ H ↔ F i σ H := ⟨F, fun _ _ _ => Iff.rfl⟩
end L2
namespace L2
open PySem
end L2
namespace L2
open PySem
theorem Room.u100 {k : Nat} {A : Around} (r : Room k A) : A.units + 100 < cLine := by have := r.un; omega
end L2
namespace L2
open PySem
theorem deps_le : ∀ {ds : List D} {n : Nat}, (∀ d ∈ ds, dep d ≤ n) → deps ds ≤ n
  | [], n, _ => by simp [deps]
  | d :: ds, n, h => by
    simp only [deps]
    exact Nat.max_le.mpr ⟨h d (List.mem_cons_self ..), deps_le fun e he => h e (List.mem_cons_of_mem _ he)⟩
theorem deps_ints (ns : List Int) : deps (ns.map D.int) = 0 := by
  have : deps (ns.map D.int) ≤ 0 := deps_le fun d hd => by
    obtain ⟨n, _, rfl⟩ := List.mem_map.mp hd
    simp [dep]
  omega
end L2
set_option Elab.async false
set_option linter.all false
set_option autoImplicit false
set_option maxRecDepth 100000
set_option maxHeartbeats 1000000
namespace L2
open PySem PySem.Spec PyProof.Rows
section
variable {X : Cx}
end
end L2
namespace L2
open PySem
end L2
namespace L2
open PySem
theorem Dats.take {H : Hp} : ∀ {ds : List D} {xs : List V} (n : Nat), Dats H ds xs → Dats H (ds.take n) (xs.take n) := fun {ds xs} n h => by
  refine Dats.of_get (by rw [List.length_take, List.length_take, h.length]) fun i d x e1 e2 => ?_
  rw [List.getElem?_take] at e1 e2
  split at e1
  · rename_i hi
    rw [if_pos hi] at e2
    obtain ⟨x', h1, h2⟩ := h.get e1
    rw [e2] at h1; cases h1; exact h2
  · cases e1
theorem Dats.drop {H : Hp} : ∀ {ds : List D} {xs : List V} (n : Nat), Dats H ds xs → Dats H (ds.drop n) (xs.drop n) := fun {ds xs} n h => by
  refine Dats.of_get (by rw [List.length_drop, List.length_drop, h.length]) fun i d x e1 e2 => ?_
  rw [List.getElem?_drop] at e1 e2
  obtain ⟨x', h1, h2⟩ := h.get e1
  rw [e2] at h1; cases h1; exact h2
end L2
namespace L2
open PySem
end L2
set_option Elab.async false
set_option linter.all false
set_option autoImplicit false
set_option maxRecDepth 100000
set_option maxHeartbeats 1000000
namespace L2
open PySem PySem.Spec PyProof.Rows
section
variable {X : Cx} {e st : Expr} {te ts : TE} {pos p2 : Pos}
end
end L2
set_option Elab.async false
set_option linter.all false
set_option autoImplicit false
set_option maxRecDepth 100000
set_option maxHeartbeats 1000000
namespace L2
open PySem PySem.Spec PyProof.Rows
def LD (H : Hp) (l : Addr) (ds : List D) : Prop := noLs ds = true ∧ ∃ xs, H l = some (.lst xs) ∧ Dats H ds xs
theorem noLs_append {ds es : List D} : noLs (ds ++ es) = (noLs ds && noLs es) := by
  induction ds with
  | nil => simp [noLs]
  | cons d ds ih => simp [noLs, ih, Bool.and_assoc]
inductive Tr where
  | lf (x : List D)
  | nd (x : List D) (l r : Tr)
namespace Tr
def d : Tr → D
  | .lf x => .tup x
  | .nd x l r => .tup (x ++ [l.d, r.d])
def size : Tr → Nat
  | .lf _ => 1
  | .nd _ l r => l.size + r.size + 1
def dp : Tr → Nat
  | .lf _ => 0
  | .nd _ l r => 1 + max l.dp r.dp
def post : Tr → List Tr
  | .lf x => [.lf x]
  | .nd x l r => l.post ++ r.post ++ [.nd x l r]
def pre : Tr → List Tr
  | .lf x => [.lf x]
  | .nd x l r => .nd x l r :: (r.pre ++ l.pre)
def ok (lw : Str) : Tr → Prop
  | .lf x => x[0]? = some (.str lw) ∧ noLs x = true
  | .nd x l r => (∃ w, x[0]? = some (.str w) ∧ w ≠ lw) ∧ noLs x = true ∧ l.ok lw ∧ r.ok lw
theorem ok.noL {lw : Str} : ∀ {t : Tr}, t.ok lw → noL t.d = true
  | .lf x, h => by simp only [d, L2.noL]; exact h.2
  | .nd x l r, h => by
    obtain ⟨_, h1, h2, h3⟩ := h
    simp only [d, L2.noL, noLs_append, Bool.and_eq_true]
    exact ⟨h1, by simp [noLs, ok.noL h2, ok.noL h3]⟩
theorem ok.post {lw : Str} : ∀ {t : Tr}, t.ok lw → ∀ u ∈ t.post, u.ok lw
  | .lf x, h, u, hu => by simp only [Tr.post, List.mem_singleton] at hu; subst hu; exact h
  | .nd x l r, h, u, hu => by
    simp only [Tr.post, List.mem_append, List.mem_singleton] at hu
    rcases hu with (hu | hu) | hu
    · exact ok.post h.2.2.1 u hu
    · exact ok.post h.2.2.2 u hu
    · subst hu; exact h
theorem ok.noLs {lw : Str} {ts : List Tr} (h : ∀ t ∈ ts, t.ok lw) : noLs (ts.map d) = true := noLs_all fun e he => by
  obtain ⟨t, ht, rfl⟩ := List.mem_map.mp he
  exact (h t ht).noL
end Tr
end L2
set_option Elab.async false
set_option linter.all false
set_option autoImplicit false
set_option maxRecDepth 100000
set_option maxHeartbeats 1000000
namespace L2
open PySem PySem.Spec PyProof.Rows
section
variable {K : PySem.W.Frag} {a p : Addr} {ds : List D} {zs : List V} {g : TG} {tb : TS} {Dn : Ends} {σ : St} {H : Hp}
end
section
variable {K : PySem.W.Frag} {a acc : Addr} {ds : List D} {g : TG} {tc : TT} {l : TL} {σ : St} {H : Hp} {R : St → Hp → Prop} {zs : List V}
end
end L2
set_option Elab.async false
set_option linter.all false
set_option autoImplicit false
set_option maxRecDepth 100000
set_option maxHeartbeats 1000000
namespace L2
open PySem PySem.Spec PyProof.Rows
section
variable {X : Cx}
theorem getItem_tuple_whole {prog : Program} {w : World} {A : Around} {E : Value → Shared → Prop} {s : Shared} {t sl : Addr} {items : Array Value} {vl vu : Value} {lo hi : Option Int} {Q : Value → Shared → Prop} (ht : IsTup s.heap t items) (hs : s.heap.IsSliceOf sl vl vu .none) (pl : IsPart vl lo) (pu : IsPart vu hi)
    (hw : HT.sIx items.size 0 lo = 0 ∧ HT.sIx items.size items.size hi = items.size) (h : Q (.ref t) s) : wpAny (model prog w) A (getItem (.ref t) (.ref sl)) Q E s := by
  obtain ⟨os, hos, hcs, hds⟩ := id hs
  have hTs : s.TypeIs (.ref sl) "slice" := ⟨os, hos, hcs⟩
  unfold getItem
  try with_reducible refine wpAny_holding ?_
  first | refine wpAny_bind (wpAny_pure ?_) | skip
  refine wpAny_bind (wpAny_sequenceKey ht.typeIs (by decide) ?_)
  refine wpAny_bind (wpAny_callSpecial?_slot (name := Str.ofString "__getitem__") ht.typeIs PyProof.Rows.slot_tuple_getitem
    (wpAny_call_entry PyProof.Rows.slot_tuple_getitem ht.typeIs PyProof.Rows.entry_tuple_getitem ?_ (PyProof.Rows.args_tuple_getitem _ _)))
  show wpAny _ _ (Builtin.Tuple.tupleItemsOf (.ref t) >>= _) _ _ s
  refine wpAny_bind (tupleItemsOf_ ht ?_)
  refine wpAny_bind (wpAny_typeOf hTs ?_)
  rw [if_pos (by decide)]
  refine wpAny_bind (HT.sliceApplied_gen hs pl pu ?_)
  have hyes : (((HT.sIx items.size 0 lo : Nat) : Int) == 0 && (1 : Int) == 1 && (HT.sIx items.size items.size hi - HT.sIx items.size 0 lo) == items.size) = true := by
    rw [hw.1, hw.2]; simp
  show wpAny _ _ (if (((HT.sIx items.size 0 lo : Nat) : Int) == 0 && (1 : Int) == 1 && (HT.sIx items.size items.size hi - HT.sIx items.size 0 lo) == items.size) = true then _ else _) _ _ s
  rw [if_pos hyes]
  unfold Builtin.Tuple.tupleIsExact
  refine wpAny_bind (wpAny_bind (wpAny_typeOf ht.typeIs (wpAny_pure ?_)))
  rw [if_pos (by decide)]
  exact wpAny_bind (wpAny_rule (wpAny_pure ⟨_, rfl, wpAny_pure h⟩))
def rSlTA (K : PySem.W.Frag) : V → Option Int → Option Int → Hp → VK → Prop := fun x lo hi H Q => ∃ a xs, x = .ref a ∧ SqT K H a xs ∧
  if HT.sIx xs.length 0 lo = 0 ∧ HT.sIx xs.length xs.length hi = xs.length then Q (.ref a) H else ∀ p, H p = none → Q (.ref p) (upd H p (.tup (cutV xs lo hi)))
theorem sl_tupA : SlR X (rSlTA X.K) := by
  intro pins s σ H x v vl vu lo hi sl Q I rx hs pl pu h
  obtain ⟨a, xs, rfl, hx, h⟩ := h
  by_cases hw : HT.sIx xs.length 0 lo = 0 ∧ HT.sIx xs.length xs.length hi = xs.length
  · rw [if_pos hw] at h
    cases rx
    obtain ⟨its, r, ht, hz⟩ := I.tuple hx
    have hlen : its.toArray.size = xs.length := by rw [List.size_toArray]; exact r.length.symm
    exact ⟨"tuple", _, PyProof.Rows.slot_tuple_getitem.lookup, ht.typeIs, getItem_tuple_whole ht hs pl pu (by rw [hlen]; exact hw) ⟨.ref a, H, I, rfl, h⟩⟩
  · rw [if_neg hw] at h
    exact sl_tup pins s σ H (.ref a) v vl vu lo hi sl Q I rx hs pl pu ⟨a, xs, rfl, hx, hw, h⟩
end
end L2
set_option Elab.async false
set_option linter.all false
set_option autoImplicit false
set_option maxRecDepth 100000
set_option maxHeartbeats 1000000
namespace L2
open PySem PySem.Spec PyProof.Rows
section
variable {K : PySem.W.Frag} {a : Addr} {ds : List D} {xs : List V} {g : TG} {tb : TS} {Dn : Ends} {σ : St} {H : Hp}
end
section
variable {K : PySem.W.Frag} {a acc : Addr} {ds : List D} {xs : List V} {g : TG} {tc : TT} {l : TL} {σ : St} {H : Hp} {R : St → Hp → Prop}
end
section
variable {X : Cx}
end
def wdD (w : List Int) : D := .tup (w.map D.int)
def csD (pl : Nat) (ys ns : List (List Int)) : D := .tup [.int pl, .tup (ys.map wdD), .tup (ns.map wdD)]
theorem noL_wd (w : List Int) : noL (wdD w) = true := by simp only [wdD, noL]; exact noLs_ints w
theorem noLs_wds (ws : List (List Int)) : noLs (ws.map wdD) = true := noLs_all fun d hd => by
  obtain ⟨w, _, rfl⟩ := List.mem_map.mp hd
  exact noL_wd w
end L2
set_option Elab.async false
set_option linter.all false
set_option autoImplicit false
set_option maxRecDepth 100000
set_option maxHeartbeats 1000000
namespace L2
open PySem PySem.Spec PyProof.Rows
structure SN (n : Nat) (H : Hp) (S : Addr) (ad : Nat → Addr) (fs : Nat → List D) : Prop where
  s : H S = some (.lst ((List.range n).map fun i => .ref (ad i)))
  l : ∀ i, i < n → LD H (ad i) (fs i)
end L2
set_option Elab.async false
set_option linter.all false
set_option autoImplicit false
set_option maxRecDepth 100000
set_option maxHeartbeats 1000000
namespace L2
open PySem PySem.Spec PyProof.Rows
section
variable {X : Cx} {o i : Expr} {ty : TE} {pos : Pos} {a : Addr} {kvs : List (Str × V)}
end
end L2
set_option Elab.async false
set_option linter.all false
set_option autoImplicit false
set_option maxRecDepth 100000
set_option maxHeartbeats 1000000
namespace L2
open PySem PySem.Spec PyProof.Rows
open Classical in
noncomputable def eqF (H : Hp) (dx : D) (u : Value) : Bool := if h : ∃ d, ∃ x, RelV x u ∧ Dat H d x then eqD (Classical.choose h) dx else false
theorem eqF_eq {H : Hp} {dx d : D} {x : V} {u : Value} (r : RelV x u) (h : Dat H d x) : eqF H dx u = eqD d dx := by
  have hex : ∃ d, ∃ x, RelV x u ∧ Dat H d x := ⟨d, x, r, h⟩
  unfold eqF
  rw [dif_pos hex]
  obtain ⟨x', r', h'⟩ := Classical.choose_spec hex
  have : x' = x := r'.inj r
  subst this
  rw [Dat.inj h' h]
theorem any_eqF {H : Hp} {dx : D} : ∀ {ds : List D} {xs : List V} {its : List Value}, Dats H ds xs → Vals xs its → its.any (eqF H dx) = ds.any fun d => eqD d dx
  | [], xs, its, h, r => by
    simp only [Dats] at h; subst h; cases r; rfl
  | d :: ds, xs, its, h, r => by
    simp only [Dats] at h
    obtain ⟨x, xr, rfl, h1, h2⟩ := h
    cases r with
    | cons r1 r2 => rw [List.any_cons, List.any_cons, eqF_eq r1 h1, any_eqF h2 r2]
theorem mem_dats {H : Hp} : ∀ {ds : List D} {xs : List V} {its : List Value}, Dats H ds xs → Vals xs its → ∀ u ∈ its, ∃ d x, d ∈ ds ∧ RelV x u ∧ Dat H d x
  | [], xs, its, h, r, u, hu => by simp only [Dats] at h; subst h; cases r; cases hu
  | d :: ds, xs, its, h, r, u, hu => by
    simp only [Dats] at h
    obtain ⟨x, xr, rfl, h1, h2⟩ := h
    cases r with
    | cons r1 r2 =>
      rcases List.mem_cons.mp hu with rfl | hu
      · exact ⟨d, x, List.mem_cons_self .., r1, h1⟩
      · obtain ⟨d', x', m, q⟩ := mem_dats h2 r2 u hu
        exact ⟨d', x', List.mem_cons_of_mem _ m, q⟩
theorem dep_mem : ∀ {ds : List D} {d : D}, d ∈ ds → dep d ≤ deps ds
  | e :: ds, d, h => by
    simp only [deps]
    rcases List.mem_cons.mp h with rfl | h
    · omega
    · have := dep_mem h; omega
def inD (dx : D) (ds : List D) : Bool := ds.any fun d => eqD d dx
def rInD (neg : Bool) : R2 := fun x y H Q => ∃ dx ds, Dat H dx x ∧ (Dat H (.lst ds) y ∨ Dat H (.tup ds) y) ∧ deps ds ≤ 90 ∧ Q (.bl (if neg then !inD dx ds else inD dx ds)) H
section
variable {X : Cx}
theorem op_inD (hu : X.A.units + 100 < cLine) : OpR X (compareOp .In) (rInD false) := by
  intro pins s σ H x y v u Q I rx ry h
  obtain ⟨dx, ds, hx, hy, hdp, q⟩ := h
  have he : ∀ {xs : List V} {its : List Value}, Dats H ds xs → Vals xs its → ∀ w, w ∈ its.toArray → SeqAt.EqAt X.A.in1 s w v (eqF H dx w) := fun hd r w hw => by
    obtain ⟨d, z, hm, rz, hz⟩ := mem_dats hd r w (by simpa using hw)
    rw [eqF_eq rz hz]
    exact (eqAt_D I 90 d dx z x w v X.A.in1 (Nat.le_trans (dep_mem hm) hdp) (by show X.A.units + 1 + 90 < cLine; omega) hz hx rz rx).2.1
  rcases hy with hy | hy
  · simp only [Dat] at hy
    obtain ⟨a, xs, rfl, ha, hd⟩ := hy
    cases ry
    obtain ⟨its, r, pl, _⟩ := I.list (SqL.of ha)
    refine SeqAt.in_listAt (eqF H dx) pl.isList (he hd r) ⟨.bl _, H, I, rfl, ?_⟩
    rw [show its.toArray.any (eqF H dx) = its.any (eqF H dx) by simp, any_eqF hd r]
    exact q
  · simp only [Dat] at hy
    obtain ⟨a, xs, rfl, ha, hd⟩ := hy
    cases ry
    obtain ⟨its, r, pl, _⟩ := I.tuple (SqT.of ha)
    refine SeqAt.in_tupleAt (eqF H dx) pl (he hd r) ⟨.bl _, H, I, rfl, ?_⟩
    rw [show its.toArray.any (eqF H dx) = its.any (eqF H dx) by simp, any_eqF hd r]
    exact q
theorem op_notInD (hu : X.A.units + 100 < cLine) : OpR X (compareOp .NotIn) (rInD true) := by
  intro pins s σ H x y v u Q I rx ry h
  obtain ⟨dx, ds, hx, hy, hdp, q⟩ := h
  have he : ∀ {xs : List V} {its : List Value}, Dats H ds xs → Vals xs its → ∀ w, w ∈ its.toArray → SeqAt.EqAt X.A.in1 s w v (eqF H dx w) := fun hd r w hw => by
    obtain ⟨d, z, hm, rz, hz⟩ := mem_dats hd r w (by simpa using hw)
    rw [eqF_eq rz hz]
    exact (eqAt_D I 90 d dx z x w v X.A.in1 (Nat.le_trans (dep_mem hm) hdp) (by show X.A.units + 1 + 90 < cLine; omega) hz hx rz rx).2.1
  rcases hy with hy | hy
  · simp only [Dat] at hy
    obtain ⟨a, xs, rfl, ha, hd⟩ := hy
    cases ry
    obtain ⟨its, r, pl, _⟩ := I.list (SqL.of ha)
    refine SeqAt.notIn_listAt (eqF H dx) pl.isList (he hd r) ⟨.bl _, H, I, rfl, ?_⟩
    rw [show its.toArray.any (eqF H dx) = its.any (eqF H dx) by simp, any_eqF hd r]
    exact q
  · simp only [Dat] at hy
    obtain ⟨a, xs, rfl, ha, hd⟩ := hy
    cases ry
    obtain ⟨its, r, pl, _⟩ := I.tuple (SqT.of ha)
    refine SeqAt.notIn_tupleAt (eqF H dx) pl (he hd r) ⟨.bl _, H, I, rfl, ?_⟩
    rw [show its.toArray.any (eqF H dx) = its.any (eqF H dx) by simp, any_eqF hd r]
    exact q
end
end L2
set_option Elab.async false
set_option linter.all false
set_option autoImplicit false
set_option maxRecDepth 100000
set_option maxHeartbeats 1000000
namespace L2
open PySem PySem.Spec PyProof.Rows
section
variable {X : Cx} {pins : List (Addr × Obj)} {σ : St} {H : Hp} {s : Shared}
end
section
variable {X : Cx}
end
end L2
set_option Elab.async false
set_option linter.all false
set_option autoImplicit false
set_option maxRecDepth 100000
set_option maxHeartbeats 1000000
namespace L2
open PySem PySem.Spec PyProof.Rows
section
variable {prog : Program} {w : World} {A : Around} {E : Value → Shared → Prop}
end
section
variable {X : Cx} {pos : Pos}
end
end L2
set_option Elab.async false
set_option linter.all false
set_option autoImplicit false
set_option maxRecDepth 100000
set_option maxHeartbeats 1000000
namespace L2
open PySem PySem.Spec PyProof.Rows
section
variable {X : Cx}
theorem pa_consT {es fs x1 pos te t} (ha : PE X (.Tuple fs x1 pos) te) (hr : PA X es t) : PA X (.Tuple fs x1 pos :: es) (tCons te t) := pa_cons ha hr (by rfl)
theorem pa_consC {es c j pos te t} (ha : PE X (.Constant c j pos) te) (hr : PA X es t) : PA X (.Constant c j pos :: es) (tCons te t) := pa_cons ha hr (by rfl)
end
end L2
set_option Elab.async false
set_option linter.all false
set_option autoImplicit false
set_option maxRecDepth 100000
set_option maxHeartbeats 1000000
namespace L2
open PySem PySem.Spec PySem.Calls PyProof.Rows
def Frz (H H' : Hp) : Prop := ∀ b o u, H b = some (.frz o u) → H' b = some (.frz o u)
def hdIn (K : PySem.W.Frag) (c P : Addr) : Bool := match K.lookup c with
  | some o => (o.cls == .type "code") && c != P && (match o.data with
    | .fields vs => (vs[11]? == some (.ref P)) && (match vs.getD 18 .none, vs.getD 7 .none, vs.getD 9 .none, vs.getD 10 .none with
      | .str _ _, .int _ _, .bool _, .int _ _ => true
      | _, _, _, _ => false)
    | _ => false)
  | none => false
section
variable {P : Program} {w : World} {H H' : Hp} {h h' : Heap} {p : Addr} {ps : Array Value}
end
section
variable {X : Cx} {args : Arguments} {body : Expr} {scope : Scope} {pos : Pos} {x : Str} {c p : Addr} {clos : List (Str × Addr)}
end
end L2
set_option Elab.async false
set_option linter.all false
set_option autoImplicit false
set_option maxRecDepth 100000
set_option maxHeartbeats 1000000
namespace L2
open PySem PySem.Spec PySem.Calls PyProof.Rows
structure Clo (P : Program) (w : World) (K : PySem.W.Frag) (mg : Str → Option Value) (base : Heap) (H₀ : Hp) (k : Nat) (f : Addr) (n : Nat) (sp : Sp) : Prop where
  fn : (∃ (oc : Value) (od : Option Addr) (fd : FuncData) (sl : Array (Option Value)) (u : HO), H₀ f = some (.frz ⟨oc, od, .func fd, sl⟩ u)) ∨ ∃ (oc : Value) (od : Option Addr) (fd : FuncData) (sl : Array (Option Value)), K.lookup f = some ⟨oc, od, .func fd, sl⟩
  len : ∀ vs H Q E, sp vs H Q E → vs.length = n
  run : ∀ (A : Around) (outer : List Env) (s : Shared) (H : Hp) (us : List Value) (vs : List V) (Q : VK) (E : XK), Room k A → Env0 P w K mg base A outer s H → Frz H₀ H → Vals vs us → sp vs H Q E →
    codeAny (model P w) A (.call (.ref f) ⟨us, []⟩) (CR CX0 outer P w H s Q E) s
section
variable {X : Cx} {k n i : Nat} {x : Str} {p pos : Pos} {e : Expr} {es : List Expr} {t : TA}
end
section
variable {X : Cx} {k : Nat} {f : Addr} {fd : FuncData} {ps : List Str} {x : Str} {p pos : Pos} {e : Expr} {es : List Expr} {t : TA} {spf : Heap → Sp}
end
structure LamScope (ps cs : List Str) (sc : Scope) : Prop where
  kind : sc.kind = .function
  co : sc.isCoroutine = false
  gen : sc.isGenerator = false
  nd : (ps ++ cs).Nodup
  par : ∀ x ∈ ps, sc.names.lookup x = some .local
  free : ∀ x ∈ cs, sc.names.lookup x = some .free
  has : ∀ y ∈ sc.names, y.2 ≠ .cell ∧ (y.2 = .free → y.1 ∈ cs)
structure FunT (K : PySem.W.Frag) (x qual : Str) (st : Stmt) (f : Addr) (fd : FuncData) (c p : Addr) : Prop where
  ex : ∃ (oc : Value) (od : Option Addr) (kV doc pm : Value) (an : Option Addr) (ct : Value) (osl : Array (Option Value)),
    fd = PySem.W.fnOf x qual (defArgs st) (defBody st) (defScope st) .none kV doc pm an (.ref c) ct ∧ K.lookup f = some ⟨oc, od, .func fd, osl⟩ ∧ PySem.W.codeIn K (.ref c) qual = true
  tab : (x, c, p) ∈ tabL K
  hd : hdIn K c p = true
end L2
set_option Elab.async false
set_option linter.all false
set_option autoImplicit false
set_option maxRecDepth 100000
set_option maxHeartbeats 1000000
namespace L2
open PySem PySem.Spec PySem.Calls PyProof.Rows
def ndB : List Nat → Bool
  | [] => true
  | a :: r => !(r.contains a) && ndB r
theorem find_nd {α : Type} (f : α → Nat) : ∀ {l : List α} {q : α}, ndB (l.map f) = true → q ∈ l → l.find? (fun t => f t == f q) = some q
  | [], _, _, m => nomatch m
  | a :: r, q, h, m => by
    rw [List.map_cons, ndB, Bool.and_eq_true] at h
    obtain ⟨h1, h2⟩ := h
    rcases List.mem_cons.mp m with e | m
    · subst e
      rw [List.find?_cons_of_pos (by simp)]
    · have ne : (f a == f q) = false := by
        cases z : f a == f q with
        | false => rfl
        | true =>
          have z' : f a = f q := eq_of_beq z
          have : (r.map f).contains (f a) = true := by
            rw [z']
            simpa using ⟨q, m, rfl⟩
          rw [this] at h1
          cases h1
      rw [List.find?_cons_of_neg (by rw [ne]; simp)]
      exact find_nd f h2 m
def tabH (K : PySem.W.Frag) (b : Addr) : Option HO := ((tabL K).find? fun t => t.2.2 == b).map fun t => HO.tbl #[.str (t.1 ++ ".<locals>." ++ "<lambda>") 0]
theorem tabH_mem {K : PySem.W.Frag} {b : Addr} {o : HO} (e : tabH K b = some o) : ∃ t ∈ tabL K, t.2.2 = b ∧ o = HO.tbl #[.str (t.1 ++ ".<locals>." ++ "<lambda>") 0] := by
  unfold tabH at e
  cases q : (tabL K).find? (fun t => t.2.2 == b) with
  | none => rw [q] at e; cases e
  | some t =>
    rw [q] at e
    cases e
    have := List.find?_some q
    exact ⟨t, List.mem_of_find?_eq_some q, eq_of_beq this, rfl⟩
def tabsOk (K : PySem.W.Frag) (names : List Str) : Bool := PySem.W.noTabs K && ndB ((tabL K).map fun t => t.2.2) && (tabL K).all fun t => names.contains t.1
theorem tabL_in {K : PySem.W.Frag} {t : Str × Addr × Addr} (h : t ∈ tabL K) : PySem.W.tabIn K t.1 = some t.2 := by
  unfold tabL at h
  split at h
  · obtain ⟨e, _, q⟩ := List.mem_filterMap.mp h
    split at q
    · rename_i x tk hx
      cases z : PySem.W.tabIn K x with
      | none => rw [z] at q; cases q
      | some r => rw [z] at q; cases q; exact z
    · cases q
  · cases h
theorem law_callT {P : Program} {w : World} {K : PySem.W.Frag} {mg mb : Str → Option Value} {CX : CXT} {k : Nat} {fa a : Addr} {fd : FuncData} {x : Str} {sp : Sp} {s₁ : Shared} {vs : List Value} {ns : List Int}
    (KX : K.In s₁.heap) (hns : s₁.heap.Ns mainGlobals mg) (hb : s₁.heap.Ns builtinsNs mb) (hbb : ∀ x : Str, x ≠ "__name__" → mb x = bootBuiltins x) (hlim : s₁.heap.NoLimit) (hg : s₁.gens = #[])
    (hbm : ∃ bm ob, mg "__builtins__" = some (.ref bm) ∧ bm ≠ builtinsNs ∧ s₁.heap.get? bm = some ob ∧ ob.cls = .type "module" ∧ ob.dict = some builtinsNs ∧ ob.data = .plain)
    (hT : ∀ t ∈ tabL K, PySem.W.CodeHd s₁.heap t.2.1 t.2.2 ∧ s₁.heap.get? t.2.2 = some (PySem.W.tabObj #[])) (nt : PySem.W.noTabs K = true) (nd : ndB ((tabL K).map fun t => t.2.2) = true)
    (ha : s₁.heap.get? a = some { cls := .type "list", data := .seq vs.toArray }) (hi : IntsAre vs ns) (hl : ns.length ≤ sizeLine) (hr : Room k callerA)
    (F : ∀ base : Heap, FnOk P w K mg base CX k fa fd [x] sp) (hbind : ∀ (s : Shared) (u : Value), BindsTo s fd ⟨[u], []⟩ [(x, u)])
    (hsp : ∀ H : Hp, SqL K H a (ns.map V.int) → sp [.ref a] H (fun v _ => v = .bl true) fun _ _ _ => False)
    (hCX : ∀ H e s', CX [] H s₁ (fun _ _ _ => False) e s' → False) :
    codeAny (model P w) callerA (.call (.ref fa) ⟨[.ref a], []⟩) (fun r s' => r = .ok (.ret (.bool true)) ∧ OldK s₁.heap s'.heap ∧ s'.os = s₁.os ∧ AllBare s'.gens) s₁ := by
  have rv := vals_ints hi
  have lenV := hi.length
  have tabNot : ∀ b o, K.lookup b = some o → tabH K b = none := fun b o e => by
    cases q : tabH K b with
    | none => rfl
    | some u =>
      obtain ⟨t, ht, rfl, _⟩ := tabH_mem q
      have e1 := (hT t ht).2
      rw [KX _ _ e] at e1
      cases e1
      have h2 := List.all_eq_true.mp nt _ (PySem.W.mem_of_lookupK e)
      exact absurd (show false = true from h2) Bool.false_ne_true
  have tabA : tabH K a = none := by
    cases q : tabH K a with
    | none => rfl
    | some u =>
      obtain ⟨t, ht, e, _⟩ := tabH_mem q
      have e1 := (hT t ht).2
      rw [e, ha] at e1
      cases e1
  have core : ∀ H : Hp, (∀ b, b ≠ a → H b = tabH K b) → (H a = none ∨ (K.lookup a = none ∧ H a = some (.frz { cls := .type "list", data := .seq vs.toArray } (.lst (ns.map V.int))))) → SqL K H a (ns.map V.int) →
      codeAny (model P w) callerA (.call (.ref fa) ⟨[.ref a], []⟩) (fun r s' => r = .ok (.ret (.bool true)) ∧ OldK s₁.heap s'.heap ∧ s'.os = s₁.os ∧ AllBare s'.gens) s₁ := by
    intro H hH hA hS
    have what : ∀ b u, H b = some u → (b = a ∧ K.lookup a = none ∧ u = .frz { cls := .type "list", data := .seq vs.toArray } (.lst (ns.map V.int))) ∨ ∃ t ∈ tabL K, t.2.2 = b ∧ u = HO.tbl #[.str (t.1 ++ ".<locals>." ++ "<lambda>") 0] := fun b u e => by
      by_cases hb : b = a
      · subst hb
        rcases hA with z | ⟨z1, z2⟩
        · rw [z] at e; cases e
        · rw [z2] at e; cases e
          exact .inl ⟨rfl, z1, rfl⟩
      · rw [hH b hb] at e
        exact .inr (tabH_mem e)
    have hok : HOk P w H s₁.heap := fun b u e => by
      rcases what b u e with ⟨rfl, _, rfl⟩ | ⟨t, ht, rfl, rfl⟩
      · exact ⟨ha, by rw [List.length_map]; exact hl, vs, _, rv, ha⟩
      · exact ⟨#[], (hT t ht).2, trivial, fun pos cv q => by cases q⟩
    have tt : TabT K H := fun t ht => by
      refine ⟨#[.str (t.1 ++ ".<locals>." ++ "<lambda>") 0], ?_, rfl⟩
      have ne : t.2.2 ≠ a := fun z => by
        have e1 := (hT t ht).2
        rw [z, ha] at e1
        cases e1
      rw [hH _ ne]
      unfold tabH
      rw [find_nd (fun t : Str × Addr × Addr => t.2.2) nd ht]
      rfl
    have base_of : ∀ {b : Addr} {o : Obj}, s₁.heap.get? b = some o → H b = none → (hidT s₁.heap H).get? b = some o := fun e n => hidT_get e n
    have freeB : ∀ {b : Addr} {o : Obj}, s₁.heap.get? b = some o → o.cls ≠ .none → o.cls ≠ .type "list" → H b = none := fun {b o} e c1 c2 => by
      cases q : H b with
      | none => rfl
      | some u =>
        rcases what b u q with ⟨rfl, _, _⟩ | ⟨t, ht, rfl, _⟩
        · rw [ha] at e; cases e; exact absurd rfl c2
        · rw [(hT t ht).2] at e; cases e; exact absurd rfl c1
    have noD : ∀ {b : Addr} {o : Obj} {es : Array DictEntry} {ep : Nat}, s₁.heap.get? b = some o → o.data = .dict es ep → H b = none := fun {b o es ep} e d => by
      cases q : H b with
      | none => rfl
      | some u =>
        rcases what b u q with ⟨rfl, _, _⟩ | ⟨t, ht, rfl, _⟩
        · rw [ha] at e; cases e; cases d
        · rw [(hT t ht).2] at e; cases e; cases d
    have nsK : ∀ {b : Addr} {m : Str → Option Value}, s₁.heap.Ns b m → (hidT s₁.heap H).Ns b m := fun {b m} ⟨o, es, ep, e, d, r⟩ => ⟨o, es, ep, base_of e (noD e d), d, r⟩
    have hKb : K.In (hidT s₁.heap H) := fun b o e => base_of (KX b o e) (by
      cases q : H b with
      | none => rfl
      | some u =>
        by_cases hb : b = a
        · subst hb
          rcases hA with z | ⟨z1, _⟩
          · rw [z] at q; cases q
          · rw [e] at z1; cases z1
        · rw [hH b hb, tabNot b o e] at q; cases q)
    have hM : Mod K mg (hidT s₁.heap H) := ⟨hKb, nsK hns, ⟨mb, nsK hb, hbb⟩, let ⟨mc, h1, h2⟩ := hlim; ⟨mc, nsK h1, h2⟩,
      let ⟨bm, ob, b1, b2, b3, b4, b5, b6⟩ := hbm; ⟨bm, ob, b1, b2, base_of b3 (freeB b3 (by rw [b4]; nofun) (by rw [b4]; decide)), b4, b5, b6⟩⟩
    have e0 : Env0 P w K mg (hidT s₁.heap H) callerA [] s₁ H := ⟨rfl, hM, fun b o e => of_hidT e, Nat.le_of_eq (hidT_size _ _), trivial, fun b hb => absurd (show b ∈ ([] : List Addr) from hb) (by simp), tt, hok, .of_eq hg⟩
    refine codeAny_mono ((F _).run callerA [] s₁ H ⟨[.ref a], []⟩ [.ref a] [.ref a] _ _ hr e0 (hbind s₁ (.ref a)) (.cons rfl .nil) (hsp H hS)) fun r s' h => ?_
    cases r with
    | error e => exact (hCX H e s' h).elim
    | ok fl =>
      cases fl with
      | next => exact False.elim h
      | brk => exact False.elim h
      | cont => exact False.elim h
      | ret u =>
        obtain ⟨v, H', os, bare, un, hok', r', q⟩ := h
        have q' : v = .bl true := q
        subst q'
        obtain rfl : u = Value.bool true := r'
        refine ⟨rfl, ⟨fun b o e => ?_, fun b o e => un.there b o e (by simp)⟩, os, bare⟩
        cases q : H b with
        | none => exact .inl (un.keep b o e q (by intro z; exact absurd (show b ∈ ([] : List Addr) from z) (by simp)) (by simp))
        | some u =>
          rcases what b u q with ⟨rfl, _, rfl⟩ | ⟨t, ht, rfl, rfl⟩
          · have z2 := un.frzs _ _ _ q
            obtain ⟨e1, _⟩ := hok _ _ q
            obtain ⟨e2, _⟩ := hok' _ _ z2
            rw [e] at e1; cases e1
            exact .inl e2
          · obtain ⟨more, z2⟩ := un.tbls _ _ q
            obtain ⟨qs, e2, _⟩ := hok' _ _ z2
            have e1 := (hT t ht).2
            rw [e] at e1
            obtain rfl := Option.some.inj e1
            exact .inr (.inl ⟨((hT t ht).1.tab (hT t ht).2).isCodeTable, rfl, #[], qs, rfl, by rw [Array.empty_append]; exact e2⟩)
  cases hk : K.lookup a with
  | some o =>
    have e := KX a o hk
    rw [ha] at e
    cases e
    exact core (fun b => tabH K b) (fun _ _ => rfl) (.inl tabA) (.inr ⟨_, vs.toArray, _, hk, rfl, rfl, rfl, by rw [List.size_toArray, lenV]; exact hl, by simpa using rv⟩)
  | none =>
    refine core (fun b => if b = a then some (.frz { cls := .type "list", data := .seq vs.toArray } (.lst (ns.map V.int))) else tabH K b) (fun b hb => if_neg hb) (.inr ⟨hk, if_pos rfl⟩) (.inl (.inr ⟨_, if_pos rfl⟩))
theorem walk_ofT {l : PySem.W.OpenLaw} {n k : Nat} {q : Program} {loose : List Str} {XP : (Str → Option Value) → Heap → Prop} {YP : World → Heap → Prop} {d : DefRec} {K : Params → PySem.W.Frag} {CX : CXT} {sp : PySem.W.Frag → Sp} {x : Str}
    (hn : l.most = some n) (hn2 : n ≤ sizeLine) (hdf : d.params.defaults = []) (hr : Room k callerA)
    (hY : ∀ (w : World) (h : Heap), YP w h → (K w.params).In h)
    (tabs : ∀ w : World, tabsOk (K w.params) ((recsOf q).map (·.name)) = true)
    (F : ∀ (w : World) (mg : Str → Option Value) (fa : Addr) (h : Heap), (K w.params).In h → h.Ns mainGlobals mg → mg d.name = some (.ref fa) →
      ∃ fd : FuncData, (∀ (s : Shared) (u : Value), BindsTo s fd ⟨[u], []⟩ [(x, u)]) ∧ ∀ base : Heap, FnOk l.prog w (K w.params) mg base CX k fa fd [x] (sp (K w.params)))
    (hsp : ∀ (K : PySem.W.Frag) (H : Hp) (a : Addr) (ns : List Int), ns.length ≤ n → Only H → SqL K H a (ns.map V.int) → sp K [.ref a] H (fun v _ => v = .bl true) fun _ _ _ => False)
    (hCX : ∀ (H : Hp) (s : Shared) (e : Value) (s' : Shared), CX [] H s (fun _ _ _ => False) e s' → False) :
    PySem.W.WalkO q loose XP YP l.row.toRowW d [] (fun f vs => PySem.call f vs) := by
  refine Att.attach_call hn hdf fun w s₀ s₁ mg mb fa o pm cd doc a vs ns G Y ho hd hcd hmg hobj hints hlen hg => ?_
  have KX := hY w _ Y
  have tb := tabs w
  unfold tabsOk at tb
  rw [Bool.and_eq_true, Bool.and_eq_true] at tb
  obtain ⟨⟨t1, t2⟩, t3⟩ := tb
  obtain ⟨fd, hb, hF⟩ := F w mg fa _ KX G.T.g hmg
  refine law_callT KX G.T.g G.T.b G.T.builtins G.T.nolimit hg G.T.bmain (fun t ht => ?_) t1 t2 hobj hints (Nat.le_trans hlen hn2) hr hF hb (fun H hS => hsp _ H a ns hlen trivial hS) fun H e s' => hCX H s₁ e s'
  have hc := List.all_eq_true.mp t3 t ht
  have hm : t.1 ∈ (recsOf q).map (·.name) := by simpa using hc
  obtain ⟨r, hr1, hr2⟩ := List.mem_map.mp hm
  cases z : (recsOf q).find? (fun e => e.name == t.1) with
  | none =>
    have := List.find?_eq_none.mp z r hr1
    rw [hr2] at this
    simp at this
  | some d' => exact PySem.W.tab_of G.T KX z (tabL_in ht)
end L2
set_option Elab.async false
set_option linter.all false
set_option autoImplicit false
set_option maxRecDepth 100000
set_option maxHeartbeats 1000000
namespace L2
open PySem PySem.Spec PySem.Calls PyProof.Rows
open AutoSeq1 (wpAny_loadPart')
section
variable {prog : Program} {w : World} {A : Around} {E : Value → Shared → Prop} {S : Shared}
set_option maxHeartbeats 2000000 in
end
end L2
set_option Elab.async false
set_option linter.all false
set_option autoImplicit false
set_option maxRecDepth 100000
set_option maxHeartbeats 1000000
namespace L2
open PySem PySem.Spec PySem.Calls PyProof.Rows
section
variable {X : Cx}
end
section
variable {X : Cx}
end
end L2
set_option Elab.async false
set_option linter.all false
set_option autoImplicit false
set_option maxRecDepth 100000
set_option maxHeartbeats 1000000
namespace L2
open PySem PySem.Spec PySem.Calls PyProof.Rows
structure Src (prog : Program) (w : World) (A : Around) (j q : Addr) (its : Array Value) (It1 : Nat → Heap → Prop) (Sq1 : Heap → Prop) : Prop where
  item : ∀ (n : Nat) (v : Value) (S : Shared) (Q : Value → Shared → Prop) (E : Value → Shared → Prop), It1 n S.heap → Sq1 S.heap → its[n]? = some v → (∀ h1, It1 (n + 1) h1 → Heap.SameBut j S.heap h1 → Q v { S with heap := h1 }) → wpAny (model prog w) A (Builtin.SmallTypes.nextOf (.ref j)) Q E S
  stop : ∀ (n : Nat) (S : Shared) (Q : Value → Shared → Prop) (E : Value → Shared → Prop), It1 n S.heap → Sq1 S.heap → its[n]? = none → (∀ h1 e, Heap.ExtBut j S.heap h1 → (∃ o, h1.get? e = some o ∧ o.cls = .type "StopIteration") → E (.ref e) { S with heap := h1 }) → wpAny (model prog w) A (Builtin.SmallTypes.nextOf (.ref j)) Q E S
  mv : ∀ (n : Nat) (h h1 : Heap), It1 n h → (∀ o, h.get? j = some o → h1.get? j = some o) → It1 n h1
  sv : ∀ (h h1 : Heap), Sq1 h → (∀ o, h.get? q = some o → h1.get? q = some o) → Sq1 h1
  live : ∀ (n : Nat) (h : Heap), It1 n h → ∃ o vs, h.get? j = some o ∧ o.data = .fields vs
section
variable {prog : Program} {w : World} {A : Around} {E : Value → Shared → Prop} {S : Shared} {z u o i j p q : Addr} {m n : Nat} {xs ys : Array Value} {x y a b : Value} {Ii Ij : Nat → Heap → Prop} {Sp Sq : Heap → Prop}
end
structure Kd (cls : String) (Sa : PySem.W.Frag → Hp → Addr → List V → Prop) (Iti : Heap → Addr → Addr → Nat → Prop) (Is : Heap → Addr → Array Value → Prop) : Prop where
  got : ∀ {X : Cx} {pins : List (Addr × Obj)} {σ : St} {H : Hp} {s : Shared} {a : Addr} {xs : List V}, Inv X pins σ H s → Sa X.K H a xs → ∃ its : List Value, Vals xs its ∧ Is s.heap a its.toArray
  inj : ∀ {X : Cx} {pins : List (Addr × Obj)} {σ : St} {H : Hp} {s : Shared} {a : Addr} {xs ys : List V}, Inv X pins σ H s → Sa X.K H a xs → Sa X.K H a ys → xs = ys
  src : ∀ (prog : Program) (w : World) (A : Around) (j q : Addr) (its : Array Value), A.handled = none → Src prog w A j q its (fun n h => Iti h j q n) (fun h => Is h q its)
  seq : ∀ {h : Heap} {a : Addr} {its : Array Value}, Is h a its → ∃ o n, h.get? a = some o ∧ o.data = .seq its n
  ne : ∀ {X : Cx} {pins : List (Addr × Obj)} {σ : St} {H : Hp} {s : Shared} {a b : Addr} {xs : List V}, Inv X pins σ H s → Sa X.K H a xs → FpOk X pins H b → a ≠ b
  itr : ∀ {prog : Program} {w : World} {A : Around} {E : Value → Shared → Prop} {S : Shared} {a : Addr} {its : Array Value} {Q : Value → Shared → Prop}, Is S.heap a its → Q (.ref S.heap.objs.size) { S with heap := S.heap.push { cls := .type cls, data := .fields #[.ref a, .int 0 0] } } → wpAny (model prog w) A (pyIter (.ref a)) Q E S
  sv : ∀ {h h1 : Heap} {a : Addr} {its : Array Value}, Is h a its → (∀ ob, h.get? a = some ob → h1.get? a = some ob) → Is h1 a its
  new : ∀ {h : Heap} {j q : Addr}, h.get? j = some { cls := .type cls, data := .fields #[.ref q, .int 0 0] } → Iti h j q 0
section
variable {c1 c2 : String} {Sa Sb : PySem.W.Frag → Hp → Addr → List V → Prop} {Ia Ib : Heap → Addr → Addr → Nat → Prop} {Isa Isb : Heap → Addr → Array Value → Prop}
end
end L2
set_option Elab.async false
set_option linter.all false
set_option autoImplicit false
set_option maxRecDepth 100000
set_option maxHeartbeats 1000000
namespace L2
open PySem PySem.Spec PySem.Calls PyProof.Rows
section
variable {c1 c2 : String} {Sa Sb : PySem.W.Frag → Hp → Addr → List V → Prop} {Ia Ib : Heap → Addr → Addr → Nat → Prop} {Isa Isb : Heap → Addr → Array Value → Prop}
variable {X : Cx}
end
theorem pg_tupK {X : Cx} (K : PySem.W.Frag) (h : X.K = K) {ts : List Expr} {k n : Nat} {pos : Pos} {t : TGs} (hc : X.calm = true) (hts : PGs X ts t)
    (hn : (assignEach ts X.env).length = n := by rfl) (hst : (assignEach ts X.env).findIdx? (·.1) = none := by rfl) : PG X (.Tuple ts k pos) (gTup K n t) := h ▸ pg_tup hc hts hn hst
section
variable {K : PySem.W.Frag} {a b : Addr} {xs ys : List V} {g : TG} {tb : TS} {D : Ends} {σ : St} {H : Hp} {Sa Sb : Hp → Addr → List V → Prop} {acc : Addr} {tc : TT} {l : TL} {R : St → Hp → Prop} {J : It} {n : Nat}
end
end L2
set_option Elab.async false
set_option linter.all false
set_option autoImplicit false
set_option maxRecDepth 100000
set_option maxHeartbeats 1000000
namespace L2
open PySem PySem.Spec PySem.Calls PyProof.Rows
def kEnd {α : Type} (c : Nat → Nat → Bool) : PySem.W.KasT α → α
  | .ret a => a
  | .ask i j k => kEnd c (k (c i j))
def KG {α : Type} (n : Nat) (R : α → Prop) : PySem.W.KasT α → Prop
  | .ret a => R a
  | .ask i j k => i < n ∧ j < n ∧ ∀ b, KG n R (k b)
theorem KG.fin {α : Type} {n : Nat} {R : α → Prop} (c : Nat → Nat → Bool) : ∀ {t : PySem.W.KasT α}, KG n R t → R (kEnd c t)
  | .ret _, h => h
  | .ask i j k, h => KG.fin c (t := k (c i j)) (h.2.2 (c i j))
theorem KG.mono {α : Type} {n : Nat} {R S : α → Prop} (q : ∀ a, R a → S a) : ∀ {t : PySem.W.KasT α}, KG n R t → KG n S t
  | .ret a, h => q a h
  | .ask _ _ k, h => ⟨h.1, h.2.1, fun b => KG.mono q (t := k b) (h.2.2 b)⟩
theorem KG.bind {α β : Type} {n : Nat} {R : β → Prop} {f : α → PySem.W.KasT β} : ∀ {t : PySem.W.KasT α}, KG n (fun a => KG n R (f a)) t → KG n R (t.bind f)
  | .ret _, h => h
  | .ask _ _ k, h => ⟨h.1, h.2.1, fun b => KG.bind (t := k b) (h.2.2 b)⟩
theorem KG.wp {α : Type} {n : Nat} {R : α → Prop} {c : Nat → Nat → Bool} {cmp : Nat → Nat → (Bool → Shared → Prop) → Shared → Prop} {Q : α → Shared → Prop} {s : Shared} (hc : ∀ i j C, i < n → j < n → C (c i j) s → cmp i j C s) :
    ∀ {t : PySem.W.KasT α}, KG n R t → Q (kEnd c t) s → t.kasWp cmp Q s
  | .ret _, _, q => q
  | .ask i j k, h, q => hc i j _ h.1 h.2.1 (KG.wp hc (t := k (c i j)) (h.2.2 (c i j)) q)
def Ord (n : Nat) (p : Array Nat) : Prop := p.Perm (List.range n).toArray
theorem Ord.lt {n : Nat} {p : Array Nat} (hn : 0 < n) (h : Ord n p) (k : Nat) : p.getD k 0 < n := by
  by_cases hk : k < p.size
  · have hm : p[k] ∈ p := Array.getElem_mem hk
    have h2 := (h.mem_iff (a := p[k])).mp hm
    simp at h2
    simp [Array.getD, hk]
    exact h2
  · simp [Array.getD, hk]
    exact hn
theorem Ord.rev {n i j : Nat} {p : Array Nat} (h : Ord n p) : Ord n (PySem.W.kas_rev p i j) := (mirror_perm p i j _).trans h
theorem Ord.bub {n i j : Nat} {p : Array Nat} (h : Ord n p) : Ord n (bubble p i j) := (bubble_perm p i j).trans h
section
variable {n : Nat} (hn : 0 < n)
include hn
theorem kg_asc {p : Array Nat} (hp : Ord n p) : ∀ f k, KG n (fun _ => True) (PySem.W.kas_asc p f k)
  | 0, _ => trivial
  | f + 1, k => ⟨hp.lt hn _, hp.lt hn _, fun b => by
    cases b
    · exact kg_asc hp f (k + 1)
    · exact trivial⟩
theorem kg_desc : ∀ f (p : Array Nat) k q, Ord n p → KG n (fun r => Ord n r.1) (PySem.W.kas_desc f p k q)
  | 0, _, _, _, hp => hp
  | f + 1, p, k, q, hp => by
    refine ⟨hp.lt hn _, hp.lt hn _, fun b => ?_⟩
    cases b
    · refine ⟨hp.lt hn _, hp.lt hn _, fun d => ?_⟩
      cases d
      · exact kg_desc f _ _ _ hp
      · exact hp
    · show KG n _ (if q > 0 then _ else _)
      split
      · exact kg_desc f _ _ _ hp.rev
      · exact kg_desc f _ _ _ hp
theorem kg_tail3 {p : Array Nat} (hp : Ord n p) (a b : Nat) : KG n (fun r => Ord n r.2) (PySem.W.kas_tail3 a b p) := KG.bind ((kg_asc hn hp.rev _ _).mono fun _ _ => hp.rev)
theorem kg_descPart {p : Array Nat} (hp : Ord n p) (a b : Nat) : KG n (fun r => Ord n r.2) (PySem.W.kas_descPart a b p) := KG.bind ((kg_desc hn _ _ _ _ hp).mono fun r hr => by
  split
  · exact kg_tail3 hn hr.rev _ _
  · exact kg_tail3 hn hr _ _)
theorem kg_count {p : Array Nat} (hp : Ord n p) (a : Nat) : KG n (fun r => Ord n r.2) (PySem.W.kas_count a p) := KG.bind ((kg_asc hn hp _ _).mono fun k _ => by
  split
  · exact hp
  · split
    · refine ⟨hp.lt hn _, hp.lt hn _, fun b => ?_⟩
      cases b
      · exact kg_descPart hn hp.rev _ _
      · exact hp
    · exact kg_descPart hn hp _ _)
theorem kg_place {p : Array Nat} (hp : Ord n p) (k : Nat) : ∀ f l r, KG n (fun _ => True) (PySem.W.kas_place p k f l r)
  | 0, _, _ => trivial
  | f + 1, l, r => by
    show KG n _ (if l ≥ r then _ else _)
    split
    · exact trivial
    · refine ⟨hp.lt hn _, hp.lt hn _, fun b => ?_⟩
      cases b
      · exact kg_place hp k f _ _
      · exact kg_place hp k f _ _
theorem kg_bin : ∀ f (p : Array Nat) k, Ord n p → KG n (Ord n) (PySem.W.kas_bin f p k)
  | 0, _, _, hp => hp
  | f + 1, _, k, hp => KG.bind ((kg_place hn hp _ _ _ _).mono fun _ _ => kg_bin f _ _ hp.bub)
theorem kg_sort : KG n (Ord n) (PySem.W.kas_sort n) := KG.bind ((kg_count hn (.refl _) n).mono fun r hr => by
  split
  · exact kg_bin hn _ _ _ hr
  · exact hr)
end
end L2
set_option Elab.async false
set_option linter.all false
set_option autoImplicit false
set_option maxRecDepth 100000
set_option maxHeartbeats 1000000
namespace L2
open PySem PySem.Spec PySem.Calls PyProof.Rows
def Zs : List Value → List Int → Prop
  | [], [] => True
  | v :: vs, n :: ns => (∃ t, v = .int n t) ∧ Zs vs ns
  | _, _ => False
def ltF (e : Bool) : List Int → List Int → Bool
  | x :: xs, y :: ys => if x = y then ltF e xs ys else decide (x < y)
  | _, _ => e
def ltZ (x y : List Int) : Bool := ltF (decide (x.length < y.length)) x y
theorem Zs.len : ∀ {vs : List Value} {ns : List Int}, Zs vs ns → vs.length = ns.length
  | [], [], _ => rfl
  | _ :: _, _ :: _, h => congrArg (· + 1) (Zs.len h.2)
  | [], _ :: _, h => h.elim
  | _ :: _, [], h => h.elim
section
variable {prog : Program} {w : World} {A : Around} {E : Value → Shared → Prop} {s : Shared}
theorem one_int {b : Bool} {x y : Int} {t u : Tok} {Q : Bool → Shared → Prop} (h : Q (decide (x < y)) s) : wpAny (model prog w) A (oneLt' b (.int x t) (.int y u)) Q E s := by
  cases b
  · exact PySem.W.kat_one _ _ (wpAny_lt_int h)
  · exact oneLt_int h
theorem lex_int {b e : Bool} {Q : Bool → Shared → Prop} : ∀ {xs ys : List Value} {ns ms : List Int} (i : Nat), Zs xs ns → Zs ys ms → Q (ltF e ns ms) s → PySem.W.KatLex prog w A b e Q (xs.zip ys) i s
  | [], _, [], _, _, _, _, q => PySem.W.kat_nil (by simpa [ltF] using q)
  | _ :: _, [], _ :: _, [], _, _, _, q => PySem.W.kat_nil (by simpa [ltF] using q)
  | x :: xs, y :: ys, n :: ns, m :: ms, i, hx, hy, q => by
    obtain ⟨⟨t, rfl⟩, hx⟩ := hx
    obtain ⟨⟨u, rfl⟩, hy⟩ := hy
    refine PySem.W.kat_cons (wpAny_eqBool_int ?_)
    unfold ltF at q
    by_cases h : n = m
    · rw [if_pos h] at q
      rw [show (n == m) = true by simpa using h]
      exact PySem.W.kat_yes (lex_int (i + 1) hx hy q)
    · rw [if_neg h] at q
      rw [show (n == m) = false by simpa using h]
      exact PySem.W.kat_no (one_int q)
  | [], _, _ :: _, _, _, h, _, _ => h.elim
  | _ :: _, _, [], _, _, h, _, _ => h.elim
  | _ :: _, [], _, _ :: _, _, _, h, _ => h.elim
  | _ :: _, _ :: _, _, [], _, _, h, _ => h.elim
end
def TW (h : Heap) : List Value → List (List Int) → Prop
  | [], [] => True
  | v :: vs, x :: xs => (∃ a o its n, v = .ref a ∧ h.get? a = some o ∧ o.cls = .type "tuple" ∧ o.data = .seq its n ∧ Zs its.toList x) ∧ TW h vs xs
  | _, _ => False
theorem TW.len {h : Heap} : ∀ {vs : List Value} {W : List (List Int)}, TW h vs W → vs.length = W.length
  | [], [], _ => rfl
  | _ :: _, _ :: _, q => congrArg (· + 1) (TW.len q.2)
  | [], _ :: _, q => q.elim
  | _ :: _, [], q => q.elim
theorem TW.keep {h h' : Heap} (k : ∀ b o, h.get? b = some o → o.cls = .type "tuple" → h'.get? b = some o) : ∀ {vs : List Value} {W : List (List Int)}, TW h vs W → TW h' vs W
  | [], [], _ => trivial
  | _ :: _, _ :: _, ⟨⟨a, o, its, n, e1, e2, e3, e4⟩, q⟩ => ⟨⟨a, o, its, n, e1, k _ _ e2 e3, e3, e4⟩, TW.keep k q⟩
  | [], _ :: _, q => q.elim
  | _ :: _, [], q => q.elim
theorem TW.at {h : Heap} : ∀ {vs : List Value} {W : List (List Int)} {i : Nat}, TW h vs W → i < vs.length → ∃ a o its n, vs.getD i Value.none = .ref a ∧ h.get? a = some o ∧ o.data = .seq its n ∧ Zs its.toList (W.getD i [])
  | _ :: _, _ :: _, 0, ⟨⟨a, o, its, n, e1, e2, e3, e4, e5⟩, _⟩, _ => ⟨a, o, its, n, by simpa using e1, e2, e4, by simpa using e5⟩
  | _ :: _, _ :: _, i + 1, ⟨_, q⟩, hi => by
    obtain ⟨a, o, its, n, e1, e2, e3, e4⟩ := TW.at (i := i) q (by simpa using hi)
    exact ⟨a, o, its, n, by simpa using e1, e2, e3, by simpa using e4⟩
  | [], _, _, _, hi => absurd hi (by simp)
  | _ :: _, [], _, q, _ => q.elim
theorem TW.tups {h : Heap} : ∀ {vs : List Value} {W : List (List Int)}, TW h vs W → (∀ x ∈ W, x ≠ []) → ∃ fs, PySem.W.KatTups h vs fs ∧ fs.length = vs.length ∧ ∀ v ∈ fs, ∃ n t, v = .int n t
  | [], [], _, _ => ⟨[], trivial, rfl, by simp⟩
  | _ :: vs, x :: xs, ⟨⟨a, o, its, n, rfl, e2, e3, e4, e5⟩, q⟩, ne => by
    obtain ⟨fs, g1, g2, g3⟩ := TW.tups q fun y hy => ne y (List.mem_cons_of_mem _ hy)
    have e6 := ne x List.mem_cons_self
    match hi : its.toList, x, e5, e6 with
    | [], [], _, e6 => exact absurd rfl e6
    | [], _ :: _, e5, _ => exact e5.elim
    | _ :: _, [], e5, _ => exact e5.elim
    | f :: r, m :: ms, e5, _ =>
      obtain ⟨t, ht⟩ := e5.1
      refine ⟨f :: fs, PySem.W.KatTups.cons e2 e3 e4 ?_ g1, by simp [g2], ?_⟩
      · rw [← Array.getElem?_toList, hi]; rfl
      · intro v hv
        rcases List.mem_cons.mp hv with rfl | hv
        · exact ⟨m, t, ht⟩
        · exact g3 v hv
  | [], _ :: _, q, _ => q.elim
  | _ :: _, [], q, _ => q.elim
def sortP (W : List (List Int)) : Array Nat := if W.length < 2 then (List.range W.length).toArray else kEnd (fun i j => ltZ (W.getD i []) (W.getD j [])) (PySem.W.kas_sort W.length)
theorem sortP_ord (W : List (List Int)) : Ord W.length (sortP W) := by
  unfold sortP
  split
  · exact .refl _
  · exact KG.fin _ (kg_sort (by omega))
end L2
set_option Elab.async false
set_option linter.all false
set_option autoImplicit false
set_option maxRecDepth 100000
set_option maxHeartbeats 1000000
namespace L2
open PySem PySem.Spec PySem.Calls PyProof.Rows
section
variable {prog : Program} {w : World} {A : Around} {E : Value → Shared → Prop} {s : Shared}
def outP (vs : List Value) (W : List (List Int)) : Array Value := List.toArray ((sortP W).toList.map fun i => vs.getD i Value.none)
theorem outP_size {h : Heap} {vs : List Value} {W : List (List Int)} (tw : TW h vs W) : (outP vs W).size = vs.length := by
  have a := (sortP_ord W).size_eq
  have b := tw.len
  simp [outP]
  simp at a
  omega
theorem asks_tups {vs : List Value} {W : List (List Int)} {b : Bool} {s : Shared} (tw : TW s.heap vs W) {Q : Array Nat → Shared → Prop} (h2 : 0 < vs.length) (q : Q (kEnd (fun i j => ltZ (W.getD i []) (W.getD j [])) (PySem.W.kas_sort vs.length)) s) :
    (PySem.W.kas_sort vs.length).kasWp (PySem.W.kas_ask prog w A (tuples' b) vs) Q s := by
  refine KG.wp (fun i j C hi hj hC => ?_) (kg_sort h2) q
  obtain ⟨a1, o1, i1, n1, e1, e2, e3, e4⟩ := tw.at hi
  obtain ⟨a2, o2, i2, n2, f1, f2, f3, f4⟩ := tw.at hj
  show wpAny (model prog w) A (keyLt' (tuples' b) (vs.getD i Value.none) (vs.getD j Value.none)) C _ s
  rw [e1, f1]
  refine PySem.W.kat_lt e2 e3 f2 f3 (lex_int 0 e4 f4 ?_)
  have g1 := e4.len
  have g2 := f4.len
  rw [Array.length_toList] at g1 g2
  rw [g1, g2]
  exact hC
theorem small_out : ∀ (vs : List Value), vs.length < 2 → Array.map (·.2) (vs.toArray.zip vs.toArray) = List.toArray ((List.range vs.length).map fun i => vs.getD i Value.none)
  | [], _ => by simp
  | [v], _ => by simp
  | _ :: _ :: _, h => absurd h (by simp)
theorem sort_tups {a : Addr} {vs : List Value} {W : List (List Int)} {k : Nat} {P : PySem.Fin → Shared → Prop} (g : s.heap.get? a = some (seqObj "list" vs.toArray k)) (tw : TW s.heap vs W) (ne : 2 ≤ W.length → ∀ x ∈ W, x ≠ []) (hs : vs.length < 64)
    (q : P (.done (.ret .none)) { s with heap := sortedHeap s.heap a vs (outP vs W) }) : wpAny (model prog w) A (Builtin.«list.sort» ⟨[.ref a], []⟩) P E s := by
  have line : 64 ≤ sizeLine := by rw [sizeLine_eq]; omega
  have room : vs.toArray.size ≤ sizeLine := by rw [List.size_toArray]; omega
  have la : a < s.heap.objs.size := Heap.lt_size g
  have osz := outP_size tw
  rw [list_sort_plain]
  obtain ⟨e1, g1⟩ : ∃ e1, (s.heap.update a (Obj.mapSeq fun _ => (#[] : Array Value))).get? a = some (seqObj "list" #[] e1) := ⟨_, get?_update_seq g fun _ => #[]⟩
  refine wpAny_bind (listItems_at g rfl (wpAny_bind (listUpdate_at g rfl (wpAny_bind (seqEpoch_at g1 rfl (wpAny_bind (wpAny_newTuple (wpAny_bind (wpAny_newList (wpAny_holding ?_) (Nat.zero_le _))) ?_)))) room (Nat.zero_le _))))
  case refine_2 => show vs.length ≤ _; omega
  have g3 : (((s.heap.update a (Obj.mapSeq fun _ => (#[] : Array Value))).push (seqObj "tuple" vs.toArray 0)).push (seqObj "list" #[] 0)).get? a = some (seqObj "list" #[] e1) := Heap.get?_push_of_some _ (Heap.get?_push_of_some _ g1)
  have tw3 : TW (((s.heap.update a (Obj.mapSeq fun _ => (#[] : Array Value))).push (seqObj "tuple" vs.toArray 0)).push (seqObj "list" #[] 0)) vs W := tw.keep fun b o e c => by
    have nb : b ≠ a := fun z => by
      subst z
      rw [g] at e
      cases e
      exact absurd (show Value.type "list" = Value.type "tuple" from c) (fun z => by injection z with z; exact absurd z (by decide))
    exact Heap.get?_push_of_some _ (Heap.get?_push_of_some _ ((Heap.get?_update_ne _ _ _ _ nb).trans e))
  show wpAny (model prog w) A _ P E { s with heap := ((s.heap.update a (Obj.mapSeq fun _ => (#[] : Array Value))).push (seqObj "tuple" vs.toArray 0)).push (seqObj "list" #[] 0) }
  have fin : ∀ out : Array Value, out = outP vs W → P (.done (.ret .none)) { s with heap := (((s.heap.update a (Obj.mapSeq fun _ => (#[] : Array Value))).push (seqObj "tuple" vs.toArray 0)).push (seqObj "list" #[] 0)).update a (Obj.mapSeq fun _ => out) } := fun out e => by
    subst e
    exact q
  generalize hh : ((s.heap.update a (Obj.mapSeq fun _ => (#[] : Array Value))).push (seqObj "tuple" vs.toArray 0)).push (seqObj "list" #[] 0) = hp at g3 tw3 fin ⊢
  dsimp only
  by_cases h2 : vs.toArray.size < 2
  · rw [if_pos h2, if_pos h2]
    refine wpAny_bind (wpAny_pure ?_)
    rw [StateT.run_pure]
    refine wpAny_bind (wpAny_pure ?_)
    dsimp only
    have same : (arrOf (SortSt.mk' general' (vs.toArray.zip vs.toArray) #[] 7 none)).map (·.2) = outP vs W := by
      have hl := tw.len
      rw [List.size_toArray] at h2
      unfold outP sortP
      rw [if_pos (by omega), ← hl]
      exact small_out vs h2
    rw [same]
    refine wpAny_bind (seqEpoch_at g3 rfl (wpAny_bind (listUpdate_at g3 rfl ?_ (Nat.zero_le _) (by omega))))
    simp only [bne_self_eq_false, Bool.false_eq_true, if_false]
    exact wpAny_pure (fin _ rfl)
  · rw [if_neg h2, if_neg h2]
    rw [List.size_toArray] at h2
    obtain ⟨fs, t1, t2, t3⟩ := tw3.tups (ne (by have := tw.len; omega))
    refine wpAny_bind (PySem.W.kat_kind (T := .type "int") t1 (by omega) (fun v hv => ?_) rfl ?_)
    · obtain ⟨n, t, rfl⟩ := t3 v hv
      exact PySem.W.Looks.now
    refine wpAny_bind (wpAny_mono (PySem.W.kat_run (E := E) (Q := fun st' s' => failedOf st' = none ∧ (arrOf st').map (·.2) = outP vs W ∧ s' = { s with heap := hp }) (G := fun p s' => p = sortP W ∧ s' = { s with heap := hp }) rfl (by omega) hs (fun p st' s' _ b1 b2 b3 => ⟨b2, ?_, b3.2⟩) (asks_tups tw3 (by omega) ⟨?_, rfl⟩)) ?_ fun _ _ e => e)
    · rw [PySem.W.kat_snds rfl b1, b3.1]
      rfl
    · have hl := tw.len
      unfold sortP
      rw [if_neg (by omega), ← hl]
    · rintro ⟨⟨⟩, st'⟩ s' ⟨b1, b2, rfl⟩
      dsimp only at b1 b2 ⊢
      rw [b2]
      refine wpAny_bind (seqEpoch_at g3 rfl (wpAny_bind (listUpdate_at g3 rfl ?_ (Nat.zero_le _) (by omega))))
      rw [b1]
      simp only [bne_self_eq_false, Bool.false_eq_true, if_false]
      exact wpAny_pure (fin _ rfl)
theorem sorted_tups {l : Addr} {vs : List Value} {W : List (List Int)} {Q : Value → Shared → Prop} (g : s.heap.IsList l vs.toArray) (tw : TW s.heap vs W) (ne : 2 ≤ W.length → ∀ x ∈ W, x ≠ []) (hs : vs.length < 64)
    (q : Q (.ref (s.heap.objs.size + 1)) { s with heap := sortedAll s.heap vs (outP vs W) }) : wpAny (model prog w) A (call (.builtin "sorted") [.ref l]) Q E s := by
  have line : 64 ≤ sizeLine := by rw [sizeLine_eq]; omega
  refine Calls.call_function_entry kind_sorted plain_sorted entry_sorted (args_sorted1 _) ?_
  unfold Builtin.«sorted»
  have n1 : ((s.heap.push (seqObj "list" #[] 0)).update s.heap.objs.size (Obj.mapSeq (· ++ vs.toArray))).objs.size = s.heap.objs.size + 1 := by rw [Heap.size_update, size_push']
  refine wpAny_bind (m := checkCount "sorted" 1 1 _) (wpAny_pure (wpAny_bind (collect_list g (wpAny_bind (wpAny_newList ?_ (by omega))) (by omega))))
  have g2 : (((s.heap.push (seqObj "list" #[] 0)).update s.heap.objs.size (Obj.mapSeq (· ++ vs.toArray))).push (seqObj "list" vs.toArray 0)).get? (s.heap.objs.size + 1) = some (seqObj "list" vs.toArray 0) := by
    rw [← n1]; exact Heap.get?_push_size _ rfl
  have tw2 : TW (((s.heap.push (seqObj "list" #[] 0)).update s.heap.objs.size (Obj.mapSeq (· ++ vs.toArray))).push (seqObj "list" vs.toArray 0)) vs W := tw.keep fun b o e _ => by
    have lt := Heap.lt_size e
    exact Heap.get?_push_of_some _ ((Heap.get?_update_ne _ _ _ _ (Nat.ne_of_lt lt)).trans (Heap.get?_push_of_some _ e))
  show wpAny _ _ _ _ _ { s with heap := ((s.heap.push (seqObj "list" #[] 0)).update s.heap.objs.size (Obj.mapSeq (· ++ vs.toArray))).push (seqObj "list" vs.toArray 0) }
  rw [n1]
  exact wpAny_bind (wpAny_holding (wpAny_call_entry slot_list_sort ⟨_, g2, rfl⟩ entry_list_sort (sort_tups g2 tw2 ne hs ⟨_, rfl, wpAny_pure ⟨_, rfl, q⟩⟩) (args_list_sort _)))
end
def srt (xs : List V) (W : List (List Int)) : List V := (sortP W).toList.map fun i => xs.getD i .non
def TWv (H : Hp) : List V → List (List Int) → Prop
  | [], [] => True
  | v :: vs, x :: xs => (∃ a, v = .ref a ∧ H a = some (.tup (x.map V.int))) ∧ TWv H vs xs
  | _, _ => False
section
variable {X : Cx}
theorem Zs.of : ∀ {ns : List Int} {its : List Value}, Vals (ns.map V.int) its → Zs its ns
  | [], [], _ => trivial
  | n :: ns, v :: vs, h => by
    cases h with
    | cons r rr =>
      exact ⟨r, Zs.of rr⟩
  | [], _ :: _, h => by cases h
  | _ :: _, [], h => by cases h
theorem TWv.tw {pins : List (Addr × Obj)} {σ : St} {H : Hp} {s : Shared} (I : Inv X pins σ H s) : ∀ {xs : List V} {W : List (List Int)} {us : List Value}, TWv H xs W → Vals xs us → TW s.heap us W
  | [], [], [], _, _ => trivial
  | v :: vs, x :: ys, u :: us, ⟨⟨a, e1, e2⟩, q⟩, h => by
    subst e1
    cases h with
    | cons r rr =>
      cases r
      obtain ⟨_, its, e4, ⟨o, e5, e6, n, e7⟩, _⟩ := I.hok a _ e2
      exact ⟨⟨a, o, its.toArray, n, rfl, e5, e6, e7, Zs.of e4⟩, TWv.tw I q rr⟩
  | [], [], _ :: _, _, h => by cases h
  | _ :: _, _, [], _, h => by cases h
  | [], _ :: _, _, q, _ => q.elim
  | _ :: _, [], _, q, _ => q.elim
theorem vals_map {α : Type} {f : α → V} {g : α → Value} : ∀ {l : List α}, (∀ i ∈ l, RelV (f i) (g i)) → Vals (l.map f) (l.map g)
  | [], _ => .nil
  | _ :: _, h => .cons (h _ (List.mem_cons_self ..)) (vals_map fun j hj => h j (List.mem_cons_of_mem _ hj))
theorem Ord.mem {n : Nat} {p : Array Nat} (h : Ord n p) {i : Nat} (hi : i ∈ p.toList) : i < n := by
  have := (h.mem_iff (a := i)).mp (Array.mem_toList_iff.mp hi)
  simpa using this
theorem call_sortedW : CallR X (.builtin "sorted") (fun xs H Q => ∃ p ys W, xs = [.ref p] ∧ SqL X.K H p ys ∧ TWv H ys W ∧ (2 ≤ W.length → ∀ x ∈ W, x ≠ []) ∧ W.length < 64 ∧ ∀ l, H l = none → Q (.ref l) (upd H l (.lst (srt ys W)))) := by
  intro pins s σ H xs us Q I r h
  obtain ⟨p, ys, W, rfl, hq, hT, hne, hW, q⟩ := h
  obtain ⟨u, rfl, rx⟩ := vals1 r
  cases rx
  obtain ⟨its, r', pl, hz⟩ := I.list hq
  have tw := TWv.tw I hT r'
  have e1 := tw.len
  have e2 := r'.length
  obtain ⟨e, he⟩ := sortedAll_at s.heap its (outP its W)
  have hv : Vals (srt ys W) ((sortP W).toList.map fun i => its.getD i Value.none) := vals_map fun i hi => by
    have hi' := (sortP_ord W).mem hi
    obtain ⟨u, hu, ru⟩ := r'.get (List.getElem?_eq_getElem (by omega : i < ys.length))
    rw [List.getD_eq_getElem?_getD, List.getD_eq_getElem?_getD, hu, List.getElem?_eq_getElem (by omega : i < ys.length)]
    exact ru
  have hl : (srt ys W).length ≤ sizeLine := by
    have a := (sortP_ord W).size_eq
    have b : 64 ≤ sizeLine := by rw [sizeLine_eq]; omega
    simp [srt] at a ⊢
    omega
  exact sorted_tups pl.isList tw hne (by omega) ⟨.ref (s.heap.objs.size + 1), _, I.laid (t' := s.toks) (fun b o e => sortedAll_old e) (Nat.le_succ _) (show ObjOk X.prog X.w _ _ _ (.lst (srt ys W)) from ⟨hl, _, e, hv, he⟩), rfl, q _ (I.hok.fresh (Nat.le_succ _))⟩
end
def srtW (W : List (List Int)) : List (List Int) := (sortP W).toList.map fun i => W.getD i []
theorem srtW_perm (W : List (List Int)) : (srtW W).Perm W := by
  have h : (sortP W).toList.Perm (List.range W.length) := by
    have := (sortP_ord W).toList
    simpa using this
  have := h.map fun i => W.getD i []
  refine this.trans (.of_eq ?_)
  apply List.ext_getElem?
  intro i
  by_cases hi : i < W.length
  · rw [List.getElem?_map, List.getElem?_range hi, List.getElem?_eq_getElem hi]
    simp [hi]
  · rw [List.getElem?_eq_none (by simpa using hi), List.getElem?_eq_none (by simpa using hi)]
end L2
set_option Elab.async false
set_option linter.all false
set_option autoImplicit false
set_option maxRecDepth 100000
set_option maxHeartbeats 1000000
namespace L2
open PySem PySem.Spec PySem.Calls PyProof.Rows
theorem wd_ints {H : Hp} : ∀ {ns : List Int} {xs : List V}, Dats H (ns.map D.int) xs → xs = ns.map V.int
  | [], xs, h => by simpa [Dats] using h
  | n :: ns, xs, h => by
    simp only [List.map_cons, Dats, Dat] at h
    obtain ⟨x, r, rfl, rfl, h2⟩ := h
    rw [wd_ints h2]; rfl
theorem TWv.of {H : Hp} : ∀ {W : List (List Int)} {xs : List V}, Dats H (W.map wdD) xs → TWv H xs W
  | [], xs, h => by
    have : xs = [] := by simpa [Dats] using h
    subst this
    exact trivial
  | x :: W, xs, h => by
    simp only [List.map_cons, Dats] at h
    obtain ⟨v, r, rfl, hv, h2⟩ := h
    simp only [wdD, Dat] at hv
    obtain ⟨a, ys, rfl, ha, hy⟩ := hv
    rw [wd_ints hy] at ha
    exact ⟨⟨a, rfl, ha⟩, TWv.of h2⟩
theorem dats_pick {H : Hp} {W : List (List Int)} {xs : List V} (h : Dats H (W.map wdD) xs) : ∀ {l : List Nat}, (∀ i ∈ l, i < W.length) → Dats H ((l.map fun i => W.getD i []).map wdD) (l.map fun i => xs.getD i .non)
  | [], _ => by simp [Dats]
  | i :: l, q => by
    simp only [List.map_cons, Dats]
    have hi := q i (List.mem_cons_self ..)
    obtain ⟨x, e, hx⟩ := h.get (i := i) (d := wdD (W.getD i [])) (by rw [List.getElem?_map, List.getD_eq_getElem?_getD, List.getElem?_eq_getElem hi]; rfl)
    refine ⟨_, _, rfl, ?_, dats_pick h fun j hj => q j (List.mem_cons_of_mem _ hj)⟩
    rw [show xs.getD i V.non = x by rw [List.getD_eq_getElem?_getD, e]; rfl]
    exact hx
theorem dats_srt {H : Hp} {W : List (List Int)} {xs : List V} (h : Dats H (W.map wdD) xs) : Dats H ((srtW W).map wdD) (srt xs W) := dats_pick h fun i hi => (sortP_ord W).mem hi
theorem srtW_len (W : List (List Int)) : (srtW W).length = W.length := (srtW_perm W).length_eq
section
variable {X : Cx}
theorem call_sorted : CallR X (.builtin "sorted") (fun xs H Q => ∃ p W, xs = [.ref p] ∧ LD H p (W.map wdD) ∧ (∀ x ∈ W, x ≠ []) ∧ W.length < 64 ∧ ∀ l H', H l = none → Same H H' → LD H' l ((srtW W).map wdD) → Q (.ref l) H') := by
  intro pins s σ H xs us Q I r h
  obtain ⟨p, W, rfl, ⟨hn, ys, hy, hd⟩, ne, hl, q⟩ := h
  exact call_sortedW pins s σ H _ us Q I r ⟨p, ys, W, rfl, SqL.of hy, TWv.of hd, fun _ => ne, hl, fun l hl => q l _ hl (same_upd hl) ⟨noLs_wds _, _, upd_same, (dats_srt hd).same (same_upd hl)⟩⟩
end
end L2
set_option Elab.async false
set_option linter.all false
set_option autoImplicit false
set_option maxRecDepth 100000
set_option maxHeartbeats 1000000
namespace L2
open PySem PySem.Spec PySem.Calls PyProof.Rows
structure Less (c : Nat → Nat → Bool) : Prop where
  as : ∀ i j, c i j = true → c j i = false
  tr : ∀ i j k, c j i = false → c k j = false → c k i = false
theorem kEnd_bind {α β : Type} (c : Nat → Nat → Bool) {f : α → PySem.W.KasT β} : ∀ t : PySem.W.KasT α, kEnd c (t.bind f) = kEnd c (f (kEnd c t))
  | .ret _ => rfl
  | .ask i j k => kEnd_bind c (k (c i j))
section
variable {c : Nat → Nat → Bool} (L : Less c)
def Up (c : Nat → Nat → Bool) (p : Array Nat) (k : Nat) : Prop := ∀ i j, i ≤ j → j < k → c (p.getD j 0) (p.getD i 0) = false
def Dn (c : Nat → Nat → Bool) (p : Array Nat) (k : Nat) : Prop := ∀ i j, i ≤ j → j < k → c (p.getD i 0) (p.getD j 0) = false
include L
theorem Less.rf (i : Nat) : c i i = false := by
  cases h : c i i with
  | false => rfl
  | true => rw [L.as i i h] at h; cases h
theorem up_one (p : Array Nat) : Up c p 1 := fun i j h1 h2 => by
  have : i = j := by omega
  subst this
  exact L.rf _
theorem up_next {p : Array Nat} {k : Nat} (h : Up c p k) (hk : 1 ≤ k) (q : c (p.getD k 0) (p.getD (k - 1) 0) = false) : Up c p (k + 1) := fun i j h1 h2 => by
  by_cases hj : j < k
  · exact h i j h1 hj
  · have : j = k := by omega
    subst this
    by_cases hi : i = j
    · subst hi; exact L.rf _
    · exact L.tr _ (p.getD (j - 1) 0) _ (h i (j - 1) (by omega) (by omega)) q
theorem dn_next {p : Array Nat} {k : Nat} (h : Dn c p k) (hk : 1 ≤ k) (q : c (p.getD (k - 1) 0) (p.getD k 0) = false) : Dn c p (k + 1) := fun i j h1 h2 => by
  by_cases hj : j < k
  · exact h i j h1 hj
  · have : j = k := by omega
    subst this
    by_cases hi : i = j
    · subst hi; exact L.rf _
    · exact L.tr _ (p.getD (j - 1) 0) _ q (h i (j - 1) (by omega) (by omega))
theorem asc_up {p : Array Nat} : ∀ f k, 1 ≤ k → Up c p k → Up c p (kEnd c (PySem.W.kas_asc p f k)) ∧ k ≤ kEnd c (PySem.W.kas_asc p f k) ∧ kEnd c (PySem.W.kas_asc p f k) ≤ k + f
  | 0, k, _, h => ⟨h, Nat.le_refl _, Nat.le_refl _⟩
  | f + 1, k, hk, h => by
    unfold PySem.W.kas_asc
    simp only [kEnd]
    cases q : c (p.getD k 0) (p.getD (k - 1) 0) with
    | true => exact ⟨h, Nat.le_refl _, by simp [kEnd]⟩
    | false =>
      have := asc_up f (k + 1) (by omega) (up_next L h hk q)
      simp only [Bool.false_eq_true, if_false]
      exact ⟨this.1, by omega, by omega⟩
end
theorem getD_rev {p : Array Nat} {i j : Nat} (hj : j ≤ p.size) (k : Nat) : (PySem.W.kas_rev p i j).getD k 0 = if i ≤ k ∧ k < j then p.getD (i + j - 1 - k) 0 else p.getD k 0 := by
  have := getElem?_mirror_all (xs := p) (i := i) hj k
  simp only [Array.getD_eq_getD_getElem?]
  unfold PySem.W.kas_rev
  rw [this]
  split <;> rfl
theorem getD_bub {p : Array Nat} {s d : Nat} (hs : s < p.size) (hd : d ≤ s) (k : Nat) : (bubble p s d).getD k 0 = if k = s - d then p.getD s 0 else if s - d < k ∧ k ≤ s then p.getD (k - 1) 0 else p.getD k 0 := by
  have := getElem?_bubble hs d hd k
  simp only [Array.getD_eq_getD_getElem?]
  rw [this]
  split
  · rfl
  · split <;> rfl
section
variable {c : Nat → Nat → Bool} (L : Less c)
include L
theorem rev_all {p : Array Nat} {k : Nat} (hk : k ≤ p.size) (h : Dn c p k) : Up c (PySem.W.kas_rev p 0 k) k := fun i j h1 h2 => by
  rw [getD_rev hk, getD_rev hk, if_pos (by omega), if_pos (by omega)]
  exact h _ _ (by omega) (by omega)
theorem place_ok {p : Array Nat} {k : Nat} (hu : Up c p k) : ∀ f l r, r - l ≤ f → l ≤ r → r ≤ k → (∀ i, i < l → c (p.getD k 0) (p.getD i 0) = false) → (∀ i, r ≤ i → i < k → c (p.getD k 0) (p.getD i 0) = true) →
    kEnd c (PySem.W.kas_place p k f l r) ≤ k ∧ (∀ i, i < kEnd c (PySem.W.kas_place p k f l r) → c (p.getD k 0) (p.getD i 0) = false) ∧ (∀ i, kEnd c (PySem.W.kas_place p k f l r) ≤ i → i < k → c (p.getD k 0) (p.getD i 0) = true)
  | 0, l, r, hf, hl, hr, h1, h2 => by
    have : l = r := by omega
    subst this
    exact ⟨hr, h1, h2⟩
  | f + 1, l, r, hf, hl, hr, h1, h2 => by
    unfold PySem.W.kas_place
    by_cases h : l ≥ r
    · rw [if_pos h]
      have : l = r := by omega
      subst this
      exact ⟨hr, h1, h2⟩
    · rw [if_neg h]
      simp only [kEnd]
      cases q : c (p.getD k 0) (p.getD ((l + r) / 2) 0) with
      | true =>
        simp only [if_true]
        refine place_ok hu f l ((l + r) / 2) (by omega) (by omega) (by omega) h1 fun i hi hik => ?_
        cases e : c (p.getD k 0) (p.getD i 0) with
        | true => rfl
        | false =>
          have := L.tr (p.getD ((l + r) / 2) 0) (p.getD i 0) (p.getD k 0) (hu _ _ hi hik) e
          rw [this] at q; cases q
      | false =>
        simp only [Bool.false_eq_true, if_false]
        refine place_ok hu f ((l + r) / 2 + 1) r (by omega) (by omega) hr (fun i hi => ?_) h2
        exact L.tr (p.getD i 0) (p.getD ((l + r) / 2) 0) (p.getD k 0) (hu _ _ (by omega) (by omega)) q
theorem bin_up : ∀ f (p : Array Nat) k, k + f ≤ p.size → Up c p k → Up c (kEnd c (PySem.W.kas_bin f p k)) (k + f)
  | 0, _, _, _, h => h
  | f + 1, p, k, hz, h => by
    unfold PySem.W.kas_bin
    rw [kEnd_bind]
    obtain ⟨h1, h2, h3⟩ := place_ok L h k 0 k (by omega) (by omega) (Nat.le_refl _) (fun i hi => absurd hi (by omega)) (fun i hi hik => absurd hik (by omega))
    generalize kEnd c (PySem.W.kas_place p k k 0 k) = l at h1 h2 h3 ⊢
    have := bin_up f (bubble p k (k - l)) (k + 1) (by rw [bubble_size]; omega) (fun i j hij hj => by
      rw [getD_bub (by omega) (by omega), getD_bub (by omega) (by omega), show k - (k - l) = l by omega]
      by_cases j1 : j = l
      · rw [if_pos j1]
        by_cases i1 : i = l
        · rw [if_pos i1]; exact L.rf _
        · rw [if_neg i1, if_neg (by omega)]; exact h2 i (by omega)
      · rw [if_neg j1]
        by_cases j2 : l < j ∧ j ≤ k
        · rw [if_pos j2]
          by_cases i1 : i = l
          · rw [if_pos i1]; exact L.as _ _ (h3 (j - 1) (by omega) (by omega))
          · rw [if_neg i1]
            by_cases i2 : l < i ∧ i ≤ k
            · rw [if_pos i2]; exact h _ _ (by omega) (by omega)
            · rw [if_neg i2]; exact h _ _ (by omega) (by omega)
        · rw [if_neg j2, if_neg (by omega), if_neg (by omega)]; exact h _ _ hij (by omega))
    rw [show k + (f + 1) = k + 1 + f by omega]
    exact this
def Alike (c : Nat → Nat → Bool) (p : Array Nat) (a b : Nat) : Prop := ∀ i j, a ≤ i → i < b → a ≤ j → j < b → c (p.getD i 0) (p.getD j 0) = false
theorem dn_rev {p : Array Nat} {a k : Nat} (hk : k ≤ p.size) (h : Dn c p k) (al : Alike c p a k) : Dn c (PySem.W.kas_rev p a k) k := fun i j hij hj => by
  rw [getD_rev hk, getD_rev hk]
  by_cases j1 : a ≤ j ∧ j < k
  · rw [if_pos j1]
    by_cases i1 : a ≤ i ∧ i < k
    · rw [if_pos i1]; exact al _ _ (by omega) (by omega) (by omega) (by omega)
    · rw [if_neg i1]
      exact h _ _ (by omega) (by omega)
  · rw [if_neg j1, if_neg (by omega)]; exact h _ _ hij hj
theorem desc_ok : ∀ f (p : Array Nat) n q, 1 ≤ n → q + 1 ≤ n → n + f ≤ p.size → Dn c p n → Alike c p (n - (q + 1)) n →
    (kEnd c (PySem.W.kas_desc f p n q)).1.size = p.size ∧ 1 ≤ (kEnd c (PySem.W.kas_desc f p n q)).2.1 ∧ (kEnd c (PySem.W.kas_desc f p n q)).2.1 ≤ n + f ∧ (kEnd c (PySem.W.kas_desc f p n q)).2.2 + 1 ≤ (kEnd c (PySem.W.kas_desc f p n q)).2.1 ∧
    Dn c (kEnd c (PySem.W.kas_desc f p n q)).1 (kEnd c (PySem.W.kas_desc f p n q)).2.1 ∧ Alike c (kEnd c (PySem.W.kas_desc f p n q)).1 ((kEnd c (PySem.W.kas_desc f p n q)).2.1 - ((kEnd c (PySem.W.kas_desc f p n q)).2.2 + 1)) (kEnd c (PySem.W.kas_desc f p n q)).2.1
  | 0, p, n, q, h1, h2, h3, h4, h5 => ⟨rfl, h1, Nat.le_refl _, h2, h4, h5⟩
  | f + 1, p, n, q, h1, h2, h3, h4, h5 => by
    have single : ∀ p' : Array Nat, Alike c p' (n + 1 - (0 + 1)) (n + 1) := fun p' i j a1 a2 a3 a4 => by
      have : i = j := by omega
      subst this
      exact L.rf _
    unfold PySem.W.kas_desc
    simp only [kEnd]
    cases e : c (p.getD n 0) (p.getD (n - 1) 0) with
    | true =>
      simp only [if_true]
      by_cases hq : q > 0
      · rw [if_pos hq]
        have d1 := dn_rev L (by omega : n ≤ p.size) h4 h5
        have d2 : Dn c (PySem.W.kas_rev p (n - (q + 1)) n) (n + 1) := dn_next L d1 h1 (by
          rw [getD_rev (by omega), getD_rev (by omega), if_pos (by omega), if_neg (by omega)]
          exact L.tr _ (p.getD (n - 1) 0) _ (L.as _ _ e) (h5 _ _ (by omega) (by omega) (by omega) (by omega)))
        have := desc_ok f (PySem.W.kas_rev p (n - (q + 1)) n) (n + 1) 0 (by omega) (by omega) (by rw [PySem.W.kas_rev_size]; omega) d2 (single _)
        rw [PySem.W.kas_rev_size] at this
        exact ⟨this.1, this.2.1, by omega, this.2.2.2⟩
      · rw [if_neg hq]
        have := desc_ok f p (n + 1) 0 (by omega) (by omega) (by omega) (dn_next L h4 h1 (L.as _ _ e)) (single _)
        exact ⟨this.1, this.2.1, by omega, this.2.2.2⟩
    | false =>
      simp only [Bool.false_eq_true, if_false, kEnd]
      cases e2 : c (p.getD (n - 1) 0) (p.getD n 0) with
      | true => exact ⟨rfl, h1, by simp [kEnd], h2, h4, h5⟩
      | false =>
        simp only [Bool.false_eq_true, if_false]
        have := desc_ok f p (n + 1) (q + 1) (by omega) (by omega) (by omega) (dn_next L h4 h1 e2) (fun i j a1 a2 a3 a4 => by
          have low : ∀ i, n - (q + 1) ≤ i → i < n + 1 → c (p.getD i 0) (p.getD n 0) = false := fun i b1 b2 => by
            by_cases hi : i = n
            · subst hi; exact L.rf _
            · exact L.tr _ (p.getD (n - 1) 0) _ e2 (h5 _ _ (by omega) (by omega) (by omega) (by omega))
          have high : ∀ i, n - (q + 1) ≤ i → i < n + 1 → c (p.getD n 0) (p.getD i 0) = false := fun i b1 b2 => by
            by_cases hi : i = n
            · subst hi; exact L.rf _
            · exact L.tr _ (p.getD (n - 1) 0) _ (h5 _ _ (by omega) (by omega) (by omega) (by omega)) e
          exact L.tr _ (p.getD n 0) _ (high j (by omega) a4) (low i (by omega) a2))
        exact ⟨this.1, this.2.1, by omega, this.2.2.2⟩
theorem tail3_up {p : Array Nat} {n z : Nat} (h1 : 1 ≤ n) (h2 : n ≤ z) (hz : z = p.size) (h : Dn c p n) : (kEnd c (PySem.W.kas_tail3 n z p)).2.size = z ∧ 1 ≤ (kEnd c (PySem.W.kas_tail3 n z p)).1 ∧ (kEnd c (PySem.W.kas_tail3 n z p)).1 ≤ z ∧ Up c (kEnd c (PySem.W.kas_tail3 n z p)).2 (kEnd c (PySem.W.kas_tail3 n z p)).1 := by
  unfold PySem.W.kas_tail3
  rw [kEnd_bind]
  simp only [kEnd]
  have := asc_up L (p := PySem.W.kas_rev p 0 n) (z - n) n h1 (rev_all L (by omega) h)
  exact ⟨by rw [PySem.W.kas_rev_size]; exact hz.symm, by omega, by omega, this.1⟩
theorem descPart_up {p : Array Nat} {n z : Nat} (h1 : 1 ≤ n) (h2 : n < z) (hz : z = p.size) (h : Dn c p (n + 1)) : (kEnd c (PySem.W.kas_descPart n z p)).2.size = z ∧ 1 ≤ (kEnd c (PySem.W.kas_descPart n z p)).1 ∧ (kEnd c (PySem.W.kas_descPart n z p)).1 ≤ z ∧ Up c (kEnd c (PySem.W.kas_descPart n z p)).2 (kEnd c (PySem.W.kas_descPart n z p)).1 := by
  unfold PySem.W.kas_descPart
  rw [kEnd_bind]
  obtain ⟨a1, a2, a3, a4, a5, a6⟩ := desc_ok L (z - (n + 1)) p (n + 1) 0 (by omega) (by omega) (by omega) h (fun i j b1 b2 b3 b4 => by
    have : i = j := by omega
    subst this
    exact L.rf _)
  generalize kEnd c (PySem.W.kas_desc (z - (n + 1)) p (n + 1) 0) = r at a1 a2 a3 a4 a5 a6 ⊢
  split
  · exact tail3_up L a2 (by omega) (by rw [PySem.W.kas_rev_size]; omega) (dn_rev L (by omega) a5 a6)
  · exact tail3_up L a2 (by omega) (by omega) a5
theorem asc_stop {p : Array Nat} : ∀ f k, kEnd c (PySem.W.kas_asc p f k) = k + f ∨ c (p.getD (kEnd c (PySem.W.kas_asc p f k)) 0) (p.getD (kEnd c (PySem.W.kas_asc p f k) - 1) 0) = true
  | 0, k => .inl rfl
  | f + 1, k => by
    unfold PySem.W.kas_asc
    simp only [kEnd]
    cases q : c (p.getD k 0) (p.getD (k - 1) 0) with
    | true => exact .inr (by simpa [kEnd] using q)
    | false =>
      simp only [Bool.false_eq_true, if_false]
      rcases asc_stop f (k + 1) with h | h
      · exact .inl (by rw [h]; omega)
      · exact .inr h
theorem count_up {p : Array Nat} {z : Nat} (h1 : 1 ≤ z) (hz : z = p.size) : (kEnd c (PySem.W.kas_count z p)).2.size = z ∧ 1 ≤ (kEnd c (PySem.W.kas_count z p)).1 ∧ (kEnd c (PySem.W.kas_count z p)).1 ≤ z ∧ Up c (kEnd c (PySem.W.kas_count z p)).2 (kEnd c (PySem.W.kas_count z p)).1 := by
  unfold PySem.W.kas_count
  rw [kEnd_bind]
  obtain ⟨a1, a2, a3⟩ := asc_up L (p := p) (z - 1) 1 (Nat.le_refl _) (up_one L p)
  have a4 := asc_stop L (p := p) (z - 1) 1
  generalize kEnd c (PySem.W.kas_asc p (z - 1) 1) = n at a1 a2 a3 a4 ⊢
  by_cases e : (n == z) = true
  · rw [if_pos e]
    have : n = z := by simpa using e
    exact ⟨hz.symm, a2, by show n ≤ z; omega, a1⟩
  · rw [if_neg e]
    have hne : n ≠ z := by simpa using e
    have st : c (p.getD n 0) (p.getD (n - 1) 0) = true := by
      rcases a4 with h | h
      · exact absurd h (by omega)
      · exact h
    by_cases h2 : n > 1
    · rw [if_pos h2]
      simp only [kEnd]
      cases q : c (p.getD 0 0) (p.getD (n - 1) 0) with
      | true => exact ⟨hz.symm, a2, by show n ≤ z; omega, a1⟩
      | false =>
        simp only [Bool.false_eq_true, if_false]
        have al : ∀ i j, i < n → j < n → c (p.getD i 0) (p.getD j 0) = false := fun i j hi hj => by
          have b1 : c (p.getD i 0) (p.getD 0 0) = false → True := fun _ => trivial
          have b2 := a1 j (n - 1) (by omega) (by omega)
          have b3 := a1 0 i (by omega) (by omega)
          have b4 := a1 i (n - 1) (by omega) (by omega)
          have b5 := a1 0 j (by omega) (by omega)
          have up1 : c (p.getD (n - 1) 0) (p.getD j 0) = false := a1 j (n - 1) (by omega) (by omega)
          have x1 : c (p.getD 0 0) (p.getD j 0) = false := L.tr (p.getD j 0) (p.getD (n - 1) 0) (p.getD 0 0) up1 q
          exact L.tr (p.getD j 0) (p.getD 0 0) (p.getD i 0) x1 b3
        have d0 : Dn c (PySem.W.kas_rev p 0 n) n := fun i j hij hj => by
          rw [getD_rev (by omega), getD_rev (by omega), if_pos (by omega), if_pos (by omega)]
          exact al _ _ (by omega) (by omega)
        have d1 : Dn c (PySem.W.kas_rev p 0 n) (n + 1) := dn_next L d0 (by omega) (by
          rw [getD_rev (by omega), getD_rev (by omega), if_pos (by omega), if_neg (by omega)]
          exact L.tr _ (p.getD (n - 1) 0) _ (L.as _ _ st) (al _ _ (by omega) (by omega)))
        exact descPart_up L (by omega) (by omega) (by rw [PySem.W.kas_rev_size]; exact hz) d1
    · rw [if_neg h2]
      have n1 : n = 1 := by omega
      subst n1
      have d0 : Dn c p 1 := fun i j hij hj => by
        have : i = j := by omega
        subst this
        exact L.rf _
      exact descPart_up L (by omega) (by omega) hz (dn_next L d0 (by omega) (L.as _ _ st))
theorem sort_up {z : Nat} (h1 : 1 ≤ z) : Up c (kEnd c (PySem.W.kas_sort z)) z := by
  unfold PySem.W.kas_sort
  rw [kEnd_bind]
  obtain ⟨a1, a2, a3, a4⟩ := count_up L (p := List.toArray (List.range z)) h1 (by simp)
  generalize kEnd c (PySem.W.kas_count z (List.toArray (List.range z))) = r at a1 a2 a3 a4 ⊢
  split
  · rw [show max r.1 1 = r.1 by omega]
    have := bin_up L (z - r.1) r.2 r.1 (by omega) a4
    rwa [show r.1 + (z - r.1) = z by omega] at this
  · have : r.1 = z := by omega
    rw [this] at a4
    exact a4
end
end L2
set_option Elab.async false
set_option linter.all false
set_option autoImplicit false
set_option maxRecDepth 100000
set_option maxHeartbeats 1000000
namespace L2
open PySem PySem.Spec PySem.Calls PyProof.Rows
def lexL : List Int → List Int → Bool
  | [], [] => false
  | [], _ :: _ => true
  | _ :: _, [] => false
  | x :: xs, y :: ys => if x = y then lexL xs ys else decide (x < y)
theorem ltZ_lex : ∀ x y : List Int, ltZ x y = lexL x y
  | [], [] => rfl
  | [], _ :: _ => by simp [ltZ, ltF, lexL]
  | _ :: _, [] => by simp [ltZ, ltF, lexL]
  | x :: xs, y :: ys => by
    have := ltZ_lex xs ys
    unfold ltZ at this ⊢
    unfold ltF lexL
    have e : decide ((x :: xs).length < (y :: ys).length) = decide (xs.length < ys.length) := by simp
    rw [e, this]
theorem lex_as : ∀ x y : List Int, lexL x y = true → lexL y x = false
  | [], [], h => by simp [lexL] at h
  | [], _ :: _, _ => rfl
  | _ :: _, [], h => by simp [lexL] at h
  | x :: xs, y :: ys, h => by
    unfold lexL at h ⊢
    by_cases e : x = y
    · rw [if_pos e] at h; rw [if_pos e.symm]; exact lex_as xs ys h
    · rw [if_neg e] at h; rw [if_neg (Ne.symm e)]
      simp at h ⊢
      omega
theorem lex_tr : ∀ x y z : List Int, lexL y x = false → lexL z y = false → lexL z x = false
  | [], _, [], _, _ => rfl
  | [], _, _ :: _, _, _ => rfl
  | _ :: _, [], _, h, _ => by simp [lexL] at h
  | _ :: _, _ :: _, [], _, h => by simp [lexL] at h
  | x :: xs, y :: ys, z :: zs, h1, h2 => by
    unfold lexL at h1 h2 ⊢
    by_cases e1 : y = x
    · subst e1
      rw [if_pos rfl] at h1
      by_cases e2 : z = y
      · subst e2
        rw [if_pos rfl] at h2 ⊢
        exact lex_tr xs ys zs h1 h2
      · rw [if_neg e2] at h2 ⊢; exact h2
    · rw [if_neg e1] at h1
      simp at h1
      by_cases e2 : z = y
      · subst e2
        rw [if_neg e1]; simpa using h1
      · rw [if_neg e2] at h2
        simp at h2
        rw [if_neg (by omega)]
        simp
        omega
theorem lex_an : ∀ x y : List Int, lexL y x = false → lexL x y = false → x = y
  | [], [], _, _ => rfl
  | [], _ :: _, _, h => by simp [lexL] at h
  | _ :: _, [], h, _ => by simp [lexL] at h
  | x :: xs, y :: ys, h1, h2 => by
    unfold lexL at h1 h2
    by_cases e : x = y
    · subst e
      rw [if_pos rfl] at h1 h2
      rw [lex_an xs ys h1 h2]
    · rw [if_neg e] at h2
      rw [if_neg (Ne.symm e)] at h1
      simp at h1 h2
      omega
theorem less_words (W : List (List Int)) : Less fun i j => ltZ (W.getD i []) (W.getD j []) where
  as i j h := by rw [ltZ_lex] at h ⊢; exact lex_as _ _ h
  tr i j k h1 h2 := by rw [ltZ_lex] at h1 h2 ⊢; exact lex_tr _ _ _ h1 h2
def Ris (W : List (List Int)) : Prop := W.Pairwise fun a b => lexL b a = false
theorem srtW_ris (W : List (List Int)) : Ris (srtW W) := by
  have hs : (sortP W).size = W.length := by
    have := (sortP_ord W).size_eq
    simpa using this
  unfold Ris
  rw [List.pairwise_iff_getElem]
  intro i j hi hj hij
  have hl : (srtW W).length = W.length := srtW_len W
  have at_ : ∀ k (hk : k < (srtW W).length), (srtW W)[k] = W.getD ((sortP W).getD k 0) [] := fun k hk => by
    have hk2 : k < (sortP W).size := by omega
    have q : (srtW W)[k]? = some (W.getD ((sortP W).getD k 0) []) := by
      unfold srtW
      rw [List.getElem?_map, Array.getElem?_toList, Array.getElem?_eq_getElem hk2, Array.getD_eq_getD_getElem?, Array.getElem?_eq_getElem hk2]
      rfl
    exact (List.getElem?_eq_some_iff.mp q).2
  rw [at_ i hi, at_ j hj]
  by_cases h2 : W.length < 2
  · omega
  · have := sort_up (less_words W) (z := W.length) (by omega) i j (by omega) (by omega)
    have e : sortP W = kEnd (fun i j => ltZ (W.getD i []) (W.getD j [])) (PySem.W.kas_sort W.length) := by unfold sortP; rw [if_neg h2]
    rw [← e] at this
    rw [← ltZ_lex]
    exact this
theorem ris_eq : ∀ {A B : List (List Int)}, A.Perm B → Ris A → Ris B → A = B
  | [], B, p, _, _ => by rw [List.nil_perm.mp p]
  | a :: A, [], p, _, _ => by simp at p
  | a :: A, b :: B, p, h1, h2 => by
    have ma : a ∈ b :: B := p.mem_iff.mp (List.mem_cons_self ..)
    have mb : b ∈ a :: A := p.mem_iff.mpr (List.mem_cons_self ..)
    have e : a = b := by
      rcases List.mem_cons.mp ma with h | h
      · exact h
      · rcases List.mem_cons.mp mb with h' | h'
        · exact h'.symm
        · exact lex_an _ _ (List.rel_of_pairwise_cons h1 h') (List.rel_of_pairwise_cons h2 h)
    subst e
    rw [ris_eq (List.Perm.cons_inv p) h1.of_cons h2.of_cons]
theorem srtW_of {W V : List (List Int)} (p : W.Perm V) (h : Ris V) : srtW W = V := ris_eq ((srtW_perm W).trans p) (srtW_ris W) h
end L2
set_option Elab.async false
set_option linter.all false
set_option autoImplicit false
set_option maxRecDepth 100000
set_option maxHeartbeats 1000000
namespace L2
open PySem PySem.Spec PyProof.Rows
inductive AV where
  | d (x : D)
  | r (v : V)
  | p (v : V) (P : Hp → Prop)
inductive OC where
  | own (xs : List AV)
  | frz (ds : List D)
  | dic (kvs : List (Str × AV))
abbrev Om := Addr → Option OC
abbrev SA := List (Option AV)
abbrev Fs := Addr → Bool
def Om.put (ω : Om) (l : Addr) (c : OC) : Om := fun b => if b = l then some c else ω b
theorem Om.put_same {ω : Om} {l : Addr} {c : OC} : ω.put l c l = some c := by unfold Om.put; rw [if_pos rfl]
theorem Om.put_ne {ω : Om} {l b : Addr} {c : OC} (h : b ≠ l) : ω.put l c b = ω b := by unfold Om.put; rw [if_neg h]
theorem Om.put_put {ω : Om} {l : Addr} {c e : OC} : (ω.put l c).put l e = ω.put l e := by funext b; unfold Om.put; split <;> rfl
theorem Om.put_comm {ω : Om} {l p : Addr} {c e : OC} (h : p ≠ l) : (ω.put l c).put p e = (ω.put p e).put l c := by
  funext b; unfold Om.put; split <;> split <;> simp_all
def ow : Option OC → Bool
  | some (.own _) => true
  | some (.dic _) => true
  | _ => false
def Fs.add (F : Fs) (l : Addr) : Fs := fun b => decide (b = l) || F b
def cut (F : Fs) (H : Hp) (ω : Om) : Hp := fun b => if (ow (ω b) || F b) = true then none else H b
def RV (G : Hp) : AV → V → Prop
  | .d x, v => Dat G x v
  | .r u, v => v = u
  | .p u P, v => v = u ∧ ∀ G', Same G G' → P G'
def RVs (G : Hp) : List AV → List V → Prop
  | [], vs => vs = []
  | a :: as, vs => ∃ v r, vs = v :: r ∧ RV G a v ∧ RVs G as r
def RS (G : Hp) (ρ : SA) (σ : St) : Prop := ρ.length = σ.length ∧ ∀ (i : Nat) (a : AV), ρ[i]? = some (some a) → ∃ v, σ[i]? = some (some v) ∧ RV G a v
def RKs (G : Hp) : List (Str × AV) → List (Key × V) → Prop
  | [], ks => ks = []
  | p :: r, ks => ∃ v r', ks = ((Sum.inr p.1 : Key), v) :: r' ∧ RV G p.2 v ∧ RKs G r r'
structure Rep (F : Fs) (H : Hp) (ω : Om) : Prop where
  own : ∀ l xs, ω l = some (.own xs) → ∃ vs, H l = some (.lst vs) ∧ RVs (cut F H ω) xs vs
  frz : ∀ l ds, ω l = some (.frz ds) → Dat (cut F H ω) (.lst ds) (.ref l)
  hid : ∀ b, F b = true → ω b = none ∧ ∃ vs, H b = some (.lst vs)
  dic : ∀ l kvs, ω l = some (.dic kvs) → ∃ ks, H l = some (.dK ks) ∧ RKs (cut F H ω) kvs ks
structure Fr (F : Fs) (H : Hp) (ω : Om) (H' : Hp) (ω' : Om) : Prop where
  st : ∀ b o, ow (ω b) = false → F b = false → H b = some o → H' b = some o ∧ ow (ω' b) = false
  hd : ∀ b, F b = true → H' b = H b
section
variable {F : Fs} {H H1 H2 H' : Hp} {ω ω1 ω2 ω' : Om} {G G' : Hp}
theorem Fr.refl : Fr F H ω H ω := ⟨fun _ _ h _ e => ⟨e, h⟩, fun _ _ => rfl⟩
theorem Fr.trans (a : Fr F H ω H1 ω1) (b : Fr F H1 ω1 H2 ω2) : Fr F H ω H2 ω2 :=
  ⟨fun c o h f e => let ⟨x, y⟩ := a.st c o h f e; b.st c o y f x, fun c h => (b.hd c h).trans (a.hd c h)⟩
theorem cut_some {b : Addr} {o : HO} : cut F H ω b = some o ↔ ow (ω b) = false ∧ F b = false ∧ H b = some o := by
  unfold cut
  cases ow (ω b) <;> cases F b <;> simp
theorem Fr.same (a : Fr F H ω H' ω') : Same (cut F H ω) (cut F H' ω') := fun b o e => by
  obtain ⟨h, f, e⟩ := cut_some.mp e
  obtain ⟨x, y⟩ := a.st b o h f e
  exact cut_some.mpr ⟨y, f, x⟩
theorem cut_same : Same (cut F H ω) H := fun b o e => (cut_some.mp e).2.2
theorem RV.same (e : Same G G') : ∀ {a : AV} {v : V}, RV G a v → RV G' a v
  | .d _, _, h => Dat.same e h
  | .r _, _, h => h
  | .p _ _, _, h => ⟨h.1, fun G2 s => h.2 G2 (e.trans s)⟩
theorem RVs.same (e : Same G G') : ∀ {as : List AV} {vs : List V}, RVs G as vs → RVs G' as vs
  | [], _, h => h
  | _ :: _, _, ⟨v, r, h1, h2, h3⟩ => ⟨v, r, h1, h2.same e, h3.same e⟩
theorem RKs.same (e : Same G G') : ∀ {as : List (Str × AV)} {vs : List (Key × V)}, RKs G as vs → RKs G' as vs
  | [], _, h => h
  | _ :: _, _, ⟨v, r, h1, h2, h3⟩ => ⟨v, r, h1, h2.same e, h3.same e⟩
theorem RS.same (e : Same G G') {ρ : SA} {σ : St} (h : RS G ρ σ) : RS G' ρ σ := ⟨h.1, fun i a q => let ⟨v, x, y⟩ := h.2 i a q; ⟨v, x, y.same e⟩⟩
theorem RVs.length : ∀ {as : List AV} {vs : List V}, RVs G as vs → vs.length = as.length
  | [], _, h => by cases h; rfl
  | _ :: _, _, ⟨v, r, h1, _, h3⟩ => by subst h1; simp [h3.length]
theorem RVs.get : ∀ {as : List AV} {vs : List V} {i : Nat} {a : AV}, RVs G as vs → as[i]? = some a → ∃ v, vs[i]? = some v ∧ RV G a v
  | [], _, _, _, _, e => by simp at e
  | _ :: _, _, 0, _, ⟨v, r, h1, h2, _⟩, e => by subst h1; simp at e; subst e; exact ⟨v, rfl, h2⟩
  | _ :: _, _, i + 1, _, ⟨v, r, h1, _, h3⟩, e => by subst h1; simp at e; obtain ⟨v', e1, e2⟩ := h3.get e; exact ⟨v', by simpa using e1, e2⟩
theorem RVs.append : ∀ {as bs : List AV} {vs us : List V}, RVs G as vs → RVs G bs us → RVs G (as ++ bs) (vs ++ us)
  | [], _, _, _, h, k => by cases h; exact k
  | _ :: _, _, _, _, ⟨v, r, h1, h2, h3⟩, k => by subst h1; exact ⟨v, _, rfl, h2, h3.append k⟩
theorem RVs.one {a : AV} {v : V} (h : RV G a v) : RVs G [a] [v] := ⟨v, [], rfl, h, rfl⟩
theorem RVs.dats : ∀ {ds : List D} {vs : List V}, RVs G (ds.map AV.d) vs ↔ Dats G ds vs
  | [], _ => by simp [RVs, Dats]
  | d :: ds, vs => by
    simp only [List.map_cons, RVs, Dats, RV]
    constructor
    · rintro ⟨v, r, h1, h2, h3⟩; exact ⟨v, r, h1, h2, RVs.dats.mp h3⟩
    · rintro ⟨v, r, h1, h2, h3⟩; exact ⟨v, r, h1, h2, RVs.dats.mpr h3⟩
theorem RVs.set {as : List AV} {vs : List V} (i : Nat) {a : AV} {v : V} (h : RVs G as vs) (k : RV G a v) : RVs G (as.set i a) (vs.set i v) := by
  induction as generalizing vs i with
  | nil => cases h; exact rfl
  | cons b as ih =>
    obtain ⟨u, r, rfl, h2, h3⟩ := h
    cases i with
    | zero => exact ⟨v, r, rfl, k, h3⟩
    | succ i => exact ⟨u, _, rfl, h2, ih i h3⟩
theorem Rep.free (R : Rep F H ω) {p : Addr} (h : H p = none) : ω p = none ∧ F p = false := by
  constructor
  · cases e : ω p with
    | none => rfl
    | some c => cases c with
      | own xs => obtain ⟨vs, q, _⟩ := R.own p xs e; rw [h] at q; cases q
      | frz ds =>
        have q := R.frz p ds e
        simp only [Dat] at q
        obtain ⟨a, xs, e1, e2, _⟩ := q
        cases e1
        rw [cut_same _ _ e2] at h; cases h
      | dic kvs => obtain ⟨vs, q, _⟩ := R.dic p kvs e; rw [h] at q; cases q
  · cases e : F p with
    | false => rfl
    | true => obtain ⟨_, o, q⟩ := R.hid p e; rw [h] at q; cases q
theorem Rep.lay (R : Rep F H ω) {p : Addr} {o : HO} (h : H p = none) : Rep F (upd H p o) ω ∧ Fr F H ω (upd H p o) ω ∧ cut F (upd H p o) ω p = some o := by
  have hs := same_upd (o := o) h
  have fr : Fr F H ω (upd H p o) ω := ⟨fun b u x f e => ⟨hs _ _ e, x⟩, fun b f => by
    obtain ⟨_, u, q⟩ := R.hid b f
    rw [upd_ne (ne_of_none q h)]⟩
  obtain ⟨f1, f2⟩ := R.free h
  refine ⟨⟨fun l xs e => ?_, fun l ds e => (R.frz l ds e).same fr.same, fun b f => ?_, fun l ks e => (by obtain ⟨vs, e1, e2⟩ := R.dic l ks e; exact ⟨vs, hs _ _ e1, e2.same fr.same⟩)⟩, fr, cut_some.mpr ⟨by rw [f1]; rfl, f2, upd_same⟩⟩
  · obtain ⟨vs, e1, e2⟩ := R.own l xs e
    exact ⟨vs, hs _ _ e1, e2.same fr.same⟩
  · obtain ⟨x, u, q⟩ := R.hid b f
    exact ⟨x, u, hs _ _ q⟩
theorem cut_write {l : Addr} {xs ys : List AV} {o : HO} (h : ω l = some (.own xs)) : cut F (upd H l o) (ω.put l (.own ys)) = cut F H ω := by
  funext b
  unfold cut Om.put
  by_cases hb : b = l
  · subst hb; rw [if_pos rfl, h]; simp [ow]
  · rw [if_neg hb, upd_ne hb]
theorem Rep.write (R : Rep F H ω) {l : Addr} {xs ys : List AV} {vs : List V} (h : ω l = some (.own xs)) (hv : RVs (cut F H ω) ys vs) :
    Rep F (upd H l (.lst vs)) (ω.put l (.own ys)) ∧ Fr F H ω (upd H l (.lst vs)) (ω.put l (.own ys)) := by
  have c := cut_write (F := F) (H := H) (ys := ys) (o := .lst vs) h
  refine ⟨⟨fun k zs e => ?_, fun k ds e => ?_, fun b f => ?_, fun k ks e => (by
    have hk : k ≠ l := fun z => (by subst z; rw [Om.put_same] at e; cases e)
    rw [Om.put_ne hk] at e; rw [c, upd_ne hk]; exact R.dic k ks e)⟩, fun b o x f e => ?_, fun b f => ?_⟩
  · rw [c]
    by_cases hk : k = l
    · subst hk; rw [Om.put_same] at e; cases e; exact ⟨vs, upd_same, hv⟩
    · rw [Om.put_ne hk] at e; rw [upd_ne hk]; exact R.own k zs e
  · rw [c]
    by_cases hk : k = l
    · subst hk; rw [Om.put_same] at e; cases e
    · rw [Om.put_ne hk] at e; exact R.frz k ds e
  · obtain ⟨x, o, q⟩ := R.hid b f
    have hb : b ≠ l := fun z => by subst z; rw [h] at x; cases x
    exact ⟨by rw [Om.put_ne hb]; exact x, o, by rw [upd_ne hb]; exact q⟩
  · have hb : b ≠ l := fun z => by subst z; rw [h] at x; cases x
    rw [Om.put_ne hb, upd_ne hb]; exact ⟨e, x⟩
  · obtain ⟨x, o, q⟩ := R.hid b f
    have hb : b ≠ l := fun z => by subst z; rw [h] at x; cases x
    exact upd_ne hb
theorem Rep.mk' (R : Rep F H ω) {l : Addr} {xs : List AV} {vs : List V} (h : H l = none) (hv : RVs (cut F H ω) xs vs) :
    Rep F (upd H l (.lst vs)) (ω.put l (.own xs)) ∧ Fr F H ω (upd H l (.lst vs)) (ω.put l (.own xs)) := by
  obtain ⟨f1, f2⟩ := R.free h
  have c : cut F (upd H l (.lst vs)) (ω.put l (.own xs)) = cut F H ω := by
    funext b
    unfold cut Om.put
    by_cases hb : b = l
    · subst hb; rw [if_pos rfl, f1, f2, h]; simp [ow]
    · rw [if_neg hb, upd_ne hb]
  refine ⟨⟨fun k zs e => ?_, fun k ds e => ?_, fun b f => ?_, fun k ks e => (by
    have hk : k ≠ l := fun z => (by subst z; rw [Om.put_same] at e; cases e)
    rw [Om.put_ne hk] at e; rw [c, upd_ne hk]; exact R.dic k ks e)⟩, fun b o x f e => ?_, fun b f => ?_⟩
  · rw [c]
    by_cases hk : k = l
    · subst hk; rw [Om.put_same] at e; cases e; exact ⟨vs, upd_same, hv⟩
    · rw [Om.put_ne hk] at e; rw [upd_ne hk]; exact R.own k zs e
  · rw [c]
    by_cases hk : k = l
    · subst hk; rw [Om.put_same] at e; cases e
    · rw [Om.put_ne hk] at e; exact R.frz k ds e
  · obtain ⟨x, o, q⟩ := R.hid b f
    have hb : b ≠ l := ne_of_none q h
    exact ⟨by rw [Om.put_ne hb]; exact x, o, by rw [upd_ne hb]; exact q⟩
  · have hb : b ≠ l := ne_of_none e h
    rw [Om.put_ne hb, upd_ne hb]; exact ⟨e, x⟩
  · obtain ⟨x, o, q⟩ := R.hid b f
    exact upd_ne (ne_of_none q h)
theorem Rep.freeze (R : Rep F H ω) {l : Addr} {ds : List D} (h : ω l = some (.own (ds.map AV.d))) :
    Rep F H (ω.put l (.frz ds)) ∧ Fr F H ω H (ω.put l (.frz ds)) ∧ Dat (cut F H (ω.put l (.frz ds))) (.lst ds) (.ref l) := by
  have fr : Fr F H ω H (ω.put l (.frz ds)) := ⟨fun b o x f e => ⟨e, by
    by_cases hb : b = l
    · subst hb; rw [h] at x; cases x
    · rw [Om.put_ne hb]; exact x⟩, fun _ _ => rfl⟩
  obtain ⟨vs, e1, e2⟩ := R.own l _ h
  have hF : F l = false := by
    cases e : F l with
    | false => rfl
    | true => have := (R.hid l e).1; rw [h] at this; cases this
  have dl : Dat (cut F H (ω.put l (.frz ds))) (.lst ds) (.ref l) := by
    simp only [Dat]
    exact ⟨l, vs, rfl, cut_some.mpr ⟨by rw [Om.put_same]; rfl, hF, e1⟩, (RVs.dats.mp e2).same fr.same⟩
  refine ⟨⟨fun k zs e => ?_, fun k es e => ?_, fun b f => ?_, fun k ks e => (by
    have hk : k ≠ l := fun z => (by subst z; rw [Om.put_same] at e; cases e)
    rw [Om.put_ne hk] at e; obtain ⟨us, q1, q2⟩ := R.dic k ks e; exact ⟨us, q1, q2.same fr.same⟩)⟩, fr, dl⟩
  · by_cases hk : k = l
    · subst hk; rw [Om.put_same] at e; cases e
    · rw [Om.put_ne hk] at e
      obtain ⟨us, q1, q2⟩ := R.own k zs e
      exact ⟨us, q1, q2.same fr.same⟩
  · by_cases hk : k = l
    · subst hk; rw [Om.put_same] at e; cases e; exact dl
    · rw [Om.put_ne hk] at e; exact (R.frz k es e).same fr.same
  · obtain ⟨x, o, q⟩ := R.hid b f
    have hb : b ≠ l := fun z => by subst z; rw [h] at x; cases x
    exact ⟨by rw [Om.put_ne hb]; exact x, o, q⟩
theorem Rep.hide (R : Rep F H ω) {l : Addr} {vs : List V} (h : H l = none) : Rep (F.add l) (upd H l (.lst vs)) ω ∧ cut (F.add l) (upd H l (.lst vs)) ω = cut F H ω := by
  obtain ⟨f1, f2⟩ := R.free h
  have c : cut (F.add l) (upd H l (.lst vs)) ω = cut F H ω := by
    funext b
    unfold cut Fs.add
    by_cases hb : b = l
    · subst hb; simp [h]
    · rw [upd_ne hb]; simp [hb]
  refine ⟨⟨fun k zs e => ?_, fun k ds e => ?_, fun b f => ?_, fun k ks e => (by rw [c]; obtain ⟨us, q1, q2⟩ := R.dic k ks e; exact ⟨us, by rw [upd_ne (ne_of_none q1 h)]; exact q1, q2⟩)⟩, c⟩
  · rw [c]
    obtain ⟨us, q1, q2⟩ := R.own k zs e
    exact ⟨us, by rw [upd_ne (ne_of_none q1 h)]; exact q1, q2⟩
  · rw [c]; exact R.frz k ds e
  · by_cases hb : b = l
    · subst hb; exact ⟨f1, _, upd_same⟩
    · have f' : F b = true := by simpa [Fs.add, hb] using f
      obtain ⟨x, o, q⟩ := R.hid b f'
      exact ⟨x, o, by rw [upd_ne hb]; exact q⟩
theorem Rep.hwrite (R : Rep F H ω) {l : Addr} {vs : List V} (h : F l = true) : Rep F (upd H l (.lst vs)) ω ∧ cut F (upd H l (.lst vs)) ω = cut F H ω := by
  have c : cut F (upd H l (.lst vs)) ω = cut F H ω := by
    funext b
    unfold cut
    by_cases hb : b = l
    · subst hb; simp [h]
    · rw [upd_ne hb]
  refine ⟨⟨fun k zs e => ?_, fun k ds e => ?_, fun b f => ?_, fun k ks e => (by
    have hk : k ≠ l := fun z => (by subst z; rw [(R.hid _ h).1] at e; cases e)
    rw [c, upd_ne hk]; exact R.dic k ks e)⟩, c⟩
  · rw [c]
    obtain ⟨us, q1, q2⟩ := R.own k zs e
    have hk : k ≠ l := fun z => by subst z; rw [(R.hid _ h).1] at e; cases e
    exact ⟨us, by rw [upd_ne hk]; exact q1, q2⟩
  · rw [c]; exact R.frz k ds e
  · by_cases hb : b = l
    · subst hb; exact ⟨(R.hid _ h).1, _, upd_same⟩
    · obtain ⟨x, o, q⟩ := R.hid b f
      exact ⟨x, o, by rw [upd_ne hb]; exact q⟩
theorem Rep.unhide {l : Addr} {vs : List V} (R : Rep (F.add l) H ω) (hF : F l = false) (h : H l = some (.lst vs)) :
    Rep F H ω ∧ Same (cut (F.add l) H ω) (cut F H ω) ∧ cut F H ω l = some (.lst vs) := by
  have hl : ω l = none := (R.hid l (by simp [Fs.add])).1
  have sm : Same (cut (F.add l) H ω) (cut F H ω) := fun b o e => by
    obtain ⟨x, f, e⟩ := cut_some.mp e
    refine cut_some.mpr ⟨x, ?_, e⟩
    unfold Fs.add at f
    cases q : F b with
    | false => rfl
    | true => rw [q] at f; simp at f
  refine ⟨⟨fun k zs e => ?_, fun k ds e => (R.frz k ds e).same sm, fun b f => R.hid b (by simp [Fs.add, f]), fun k ks e => (by obtain ⟨us, q1, q2⟩ := R.dic k ks e; exact ⟨us, q1, q2.same sm⟩)⟩, sm, cut_some.mpr ⟨by rw [hl]; rfl, hF, h⟩⟩
  obtain ⟨us, q1, q2⟩ := R.own k zs e
  exact ⟨us, q1, q2.same sm⟩
theorem Rep.unhideO {l : Addr} {vs : List V} {xs : List AV} (R : Rep (F.add l) H ω) (hF : F l = false) (h : H l = some (.lst vs)) (hv : RVs (cut (F.add l) H ω) xs vs) :
    Rep F H (ω.put l (.own xs)) ∧ Same (cut (F.add l) H ω) (cut F H (ω.put l (.own xs))) := by
  have hl : ω l = none := (R.hid l (by simp [Fs.add])).1
  have sm : Same (cut (F.add l) H ω) (cut F H (ω.put l (.own xs))) := fun b o e => by
    obtain ⟨x, f, e⟩ := cut_some.mp e
    have hb : b ≠ l := fun z => by subst z; simp [Fs.add] at f
    refine cut_some.mpr ⟨by rw [Om.put_ne hb]; exact x, ?_, e⟩
    unfold Fs.add at f
    cases q : F b with
    | false => rfl
    | true => rw [q] at f; simp at f
  refine ⟨⟨fun k zs e => ?_, fun k ds e => ?_, fun b f => ?_, fun k ks e => (by
    have hk : k ≠ l := fun z => (by subst z; rw [Om.put_same] at e; cases e)
    rw [Om.put_ne hk] at e; obtain ⟨us, q1, q2⟩ := R.dic k ks e; exact ⟨us, q1, q2.same sm⟩)⟩, sm⟩
  · by_cases hk : k = l
    · subst hk; rw [Om.put_same] at e; cases e; exact ⟨vs, h, hv.same sm⟩
    · rw [Om.put_ne hk] at e
      obtain ⟨us, q1, q2⟩ := R.own k zs e
      exact ⟨us, q1, q2.same sm⟩
  · by_cases hk : k = l
    · subst hk; rw [Om.put_same] at e; cases e
    · rw [Om.put_ne hk] at e; exact (R.frz k ds e).same sm
  · have hb : b ≠ l := fun z => by subst z; rw [f] at hF; cases hF
    rw [Om.put_ne hb]; exact R.hid b (by simp [Fs.add, f])
end
end L2
set_option Elab.async false
set_option linter.all false
set_option autoImplicit false
set_option maxRecDepth 100000
set_option maxHeartbeats 1000000
namespace L2
open PySem PySem.Spec PyProof.Rows
def LP {α β : Type} (R : Hp → α → β → Prop) (F : Fs) (H : Hp) (ω : Om) (Q' : α → Om → Prop) (Q : β → Hp → Prop) : Prop :=
  ∀ a ω' v H', Rep F H' ω' → Fr F H ω H' ω' → R (cut F H' ω') a v → Q' a ω' → Q v H'
theorem LP.fr {α β : Type} {R : Hp → α → β → Prop} {F : Fs} {H H1 : Hp} {ω ω1 : Om} {Q' : α → Om → Prop} {Q : β → Hp → Prop} (k : LP R F H ω Q' Q) (f : Fr F H ω H1 ω1) : LP R F H1 ω1 Q' Q :=
  fun a ω' v H' rp fr rv q => k a ω' v H' rp (f.trans fr) rv q
structure Ref {α β : Type} (R : Hp → α → β → Prop) (t : St → Hp → (β → Hp → Prop) → Prop) (t' : SA → Om → (α → Om → Prop) → Prop) : Prop where
  run : ∀ (F : Fs) (H : Hp) (ω : Om) (σ : St) (ρ : SA) (Q : β → Hp → Prop) (Q' : α → Om → Prop), Rep F H ω → RS (cut F H ω) ρ σ → t' ρ ω Q' → LP R F H ω Q' Q → t σ H Q
theorem Ref.go {α β : Type} {R : Hp → α → β → Prop} {t : St → Hp → (β → Hp → Prop) → Prop} {t' : SA → Om → (α → Om → Prop) → Prop} (h : Ref R t t') {F : Fs} {H : Hp} {ω : Om} {σ : St} {ρ : SA} {Q : β → Hp → Prop} {Q' : α → Om → Prop}
    (rp : Rep F H ω) (rs : RS (cut F H ω) ρ σ) (w : t' ρ ω Q') (k : ∀ a ω1 v H1, Rep F H1 ω1 → Fr F H ω H1 ω1 → RS (cut F H1 ω1) ρ σ → R (cut F H1 ω1) a v → Q' a ω1 → Q v H1) : t σ H Q :=
  h.run F H ω σ ρ Q Q' rp rs w fun a ω1 v H1 rp1 fr1 rv q => k a ω1 v H1 rp1 fr1 (rs.same fr1.same) rv q
abbrev AE := SA → Om → (AV → Om → Prop) → Prop
abbrev AT := SA → Om → (Bool → Om → Prop) → Prop
abbrev AA := SA → Om → (List AV → Om → Prop) → Prop
def REq {α : Type} (_ : Hp) (a b : α) : Prop := a = b
abbrev RefE (t : TE) (t' : AE) : Prop := Ref RV t t'
abbrev RefT (t : TT) (t' : AT) : Prop := Ref REq t t'
abbrev RefA (t : TA) (t' : AA) : Prop := Ref RVs t t'
structure AEnds where
  nx : SA → Om → Prop
  rt : AV → Om → Prop
  bk : SA → Om → Prop := fun _ _ => False
  ct : SA → Om → Prop := fun _ _ => False
abbrev AS := AEnds → SA → Om → Prop
structure LE (F : Fs) (H : Hp) (ω : Om) (D' : AEnds) (D : Ends) : Prop where
  nx : LP RS F H ω D'.nx D.nx
  rt : LP RV F H ω D'.rt D.rt
  bk : LP RS F H ω D'.bk D.bk
  ct : LP RS F H ω D'.ct D.ct
theorem LE.fr {F : Fs} {H H1 : Hp} {ω ω1 : Om} {D' : AEnds} {D : Ends} (k : LE F H ω D' D) (f : Fr F H ω H1 ω1) : LE F H1 ω1 D' D := ⟨k.nx.fr f, k.rt.fr f, k.bk.fr f, k.ct.fr f⟩
structure RefS (t : TS) (t' : AS) : Prop where
  run : ∀ (F : Fs) (H : Hp) (ω : Om) (σ : St) (ρ : SA) (D : Ends) (D' : AEnds), Rep F H ω → RS (cut F H ω) ρ σ → t' D' ρ ω → LE F H ω D' D → t D σ H
abbrev AG := AV → SA → Om → (SA → Om → Prop) → Prop
abbrev AGs := List AV → SA → Om → (SA → Om → Prop) → Prop
structure RefG (g : TG) (g' : AG) : Prop where
  run : ∀ (F : Fs) (H : Hp) (ω : Om) (σ : St) (ρ : SA) (v : V) (a : AV) (Q : St → Hp → Prop) (Q' : SA → Om → Prop), Rep F H ω → RS (cut F H ω) ρ σ → RV (cut F H ω) a v → g' a ρ ω Q' → LP RS F H ω Q' Q → g v σ H Q
structure RefGs (g : TGs) (g' : AGs) : Prop where
  run : ∀ (F : Fs) (H : Hp) (ω : Om) (σ : St) (ρ : SA) (v : List V) (a : List AV) (Q : St → Hp → Prop) (Q' : SA → Om → Prop), Rep F H ω → RS (cut F H ω) ρ σ → RVs (cut F H ω) a v → g' a ρ ω Q' → LP RS F H ω Q' Q → g v σ H Q
abbrev ASp := List AV → Om → (AV → Om → Prop) → Prop
def lift (sp : ASp) : Sp := fun vs H Q _ => ∃ (F : Fs) (xs : List AV) (ω : Om) (Q' : AV → Om → Prop), Rep F H ω ∧ RVs (cut F H ω) xs vs ∧ sp xs ω Q' ∧ LP RV F H ω Q' Q
def aNext : AS := fun D ρ ω => D.nx ρ ω
def aSeq (t u : AS) : AS := fun D ρ ω => t { D with nx := u D } ρ ω
def aDrop (te : AE) : AS := fun D ρ ω => te ρ ω fun _ ω1 => D.nx ρ ω1
def aRet (te : AE) : AS := fun D ρ ω => te ρ ω D.rt
def aIfS (c : AT) (t u : AS) : AS := fun D ρ ω => c ρ ω fun b ω1 => if b = true then t D ρ ω1 else u D ρ ω1
def aAsg (te : AE) (g : AG) : AS := fun D ρ ω => te ρ ω fun x ω1 => g x ρ ω1 D.nx
def agName (i : Nat) : AG := fun v ρ ω Q => Q (ρ.set i (some v)) ω
def agNil : AGs := fun vs ρ ω Q => vs = [] ∧ Q ρ ω
def agCons (t : AG) (u : AGs) : AGs := fun vs ρ ω Q => ∃ v r, vs = v :: r ∧ t v ρ ω fun ρ' ω' => u r ρ' ω' Q
section
variable {t u : TS} {t' u' : AS} {te : TE} {te' : AE} {tc : TT} {tc' : AT} {g : TG} {g' : AG} {gs : TGs} {gs' : AGs}
theorem RS.set {G : Hp} {ρ : SA} {σ : St} {i : Nat} {a : AV} {v : V} (h : RS G ρ σ) (r : RV G a v) : RS G (ρ.set i (some a)) (σ.set i (some v)) := by
  refine ⟨by simp [h.1], fun j b e => ?_⟩
  by_cases hj : j = i
  · subst hj
    rw [List.getElem?_set] at e
    rw [List.getElem?_set]
    simp only [if_true] at e ⊢
    split at e
    · rename_i hl
      cases e
      rw [if_pos (h.1 ▸ hl)]
      exact ⟨v, rfl, r⟩
    · cases e
  · rw [List.getElem?_set_ne (Ne.symm hj)] at e
    rw [List.getElem?_set_ne (Ne.symm hj)]
    exact h.2 j b e
theorem s_next : RefS tNext aNext := ⟨fun F H ω σ ρ D D' rp rs h k => k.nx ρ ω σ H rp .refl rs h⟩
theorem s_seq (h1 : RefS t t') (h2 : RefS u u') : RefS (tSeq t u) (aSeq t' u') := ⟨fun F H ω σ ρ D D' rp rs h k =>
  h1.run F H ω σ ρ _ _ rp rs h ⟨fun ρ1 ω1 σ1 H1 rp1 fr1 rs1 q => h2.run F H1 ω1 σ1 ρ1 D D' rp1 rs1 q (k.fr fr1), k.rt, k.bk, k.ct⟩⟩
theorem s_drop (h : RefE te te') : RefS (tDrop te) (aDrop te') := ⟨fun F H ω σ ρ D D' rp rs w k => h.go rp rs w fun a ω1 v H1 rp1 fr1 rs1 rv q => k.nx ρ ω1 σ H1 rp1 fr1 rs1 q⟩
theorem s_ret (h : RefE te te') : RefS (tRet te) (aRet te') := ⟨fun F H ω σ ρ D D' rp rs w k => h.run F H ω σ ρ _ _ rp rs w k.rt⟩
theorem s_if (hc : RefT tc tc') (h1 : RefS t t') (h2 : RefS u u') : RefS (tIfS tc t u) (aIfS tc' t' u') := ⟨fun F H ω σ ρ D D' rp rs w k =>
  hc.go rp rs w fun a ω1 v H1 rp1 fr1 rs1 rv q => by
    cases (show a = v from rv)
    cases a with
    | true => rw [if_pos rfl] at q ⊢; exact h1.run F H1 ω1 σ ρ D D' rp1 rs1 q (k.fr fr1)
    | false => rw [if_neg Bool.false_ne_true] at q ⊢; exact h2.run F H1 ω1 σ ρ D D' rp1 rs1 q (k.fr fr1)⟩
theorem s_asg (h : RefE te te') (hg : RefG g g') : RefS (tAsg te g) (aAsg te' g') := ⟨fun F H ω σ ρ D D' rp rs w k => h.go rp rs w fun a ω1 v H1 rp1 fr1 rs1 rv q =>
  hg.run F H1 ω1 σ ρ v a _ _ rp1 rs1 rv q (k.nx.fr fr1)⟩
theorem g_name {i : Nat} : RefG (gName i) (agName i) := ⟨fun F H ω σ ρ v a Q Q' rp rs rv w k => k _ ω _ H rp .refl (rs.set rv) w⟩
theorem g_nil : RefGs gNil agNil := ⟨fun F H ω σ ρ vs as Q Q' rp rs rv w k => by
  obtain ⟨rfl, w⟩ := w
  exact ⟨rv, k ρ ω σ H rp .refl rs w⟩⟩
theorem g_cons (h1 : RefG g g') (h2 : RefGs gs gs') : RefGs (gCons g gs) (agCons g' gs') := ⟨fun F H ω σ ρ vs as Q Q' rp rs rv w k => by
  obtain ⟨a, r, rfl, w⟩ := w
  obtain ⟨v, us, rfl, rv1, rv2⟩ := rv
  exact ⟨v, us, rfl, h1.run F H ω σ ρ v a _ _ rp rs rv1 w fun ρ1 ω1 σ1 H1 rp1 fr1 rs1 q => h2.run F H1 ω1 σ1 ρ1 us r Q Q' rp1 rs1 (rv2.same fr1.same) q (k.fr fr1)⟩⟩
end
def ItOk (G : Hp) (as : List AV) (J : It) : Prop := ∀ (F : Fs) (H : Hp) (ω : Om), Rep F H ω → Same G (cut F H ω) → J.stop as.length H ∧
  ∀ (i : Nat) (a : AV), as[i]? = some a → J.go i H ∧ ∀ x H', J.yld i H x H' → Rep F H' ω ∧ Fr F H ω H' ω ∧ RV (cut F H' ω) a x
abbrev AI := SA → Om → (List AV → Om → Prop) → Prop
abbrev RefI (t : TI) (t' : AI) : Prop := Ref ItOk t t'
def aForL (g : AG) (tb : AS) (D : AEnds) : List AV → SA → Om → Prop
  | [], ρ, ω => D.nx ρ ω
  | a :: as, ρ, ω => g a ρ ω fun ρ1 ω1 => tb { nx := aForL g tb D as, ct := aForL g tb D as, bk := D.nx, rt := D.rt } ρ1 ω1
def aFor (wi : AI) (g : AG) (tb : AS) : AS := fun D ρ ω => wi ρ ω fun as ω1 => aForL g tb D as ρ ω1
theorem drop_cons {α : Type} {as : List α} {i : Nat} (h : i < as.length) : ∃ a, as[i]? = some a ∧ as.drop i = a :: as.drop (i + 1) :=
  ⟨as[i], List.getElem?_eq_getElem h, List.drop_eq_getElem_cons h⟩
theorem s_for {wi : TI} {wi' : AI} {g : TG} {g' : AG} {t : TS} {t' : AS} (hi : RefI wi wi') (hg : RefG g g') (hb : RefS t t') : RefS (tFor wi g t) (aFor wi' g' t') := ⟨fun F H ω σ ρ D D' rp rs w k => by
  rw [tFor_eq]
  refine hi.go rp rs w fun as ω1 J H1 rp1 fr1 rs1 it q => ?_
  refine ⟨fun i m σ2 H2 => m + i = as.length ∧ ∃ ρ2 ω2, Rep F H2 ω2 ∧ RS (cut F H2 ω2) ρ2 σ2 ∧ Fr F H1 ω1 H2 ω2 ∧ aForL g' t' D' (as.drop i) ρ2 ω2, ⟨as.length, rfl, ρ, ω1, rp1, rs1, .refl, q⟩, ?_⟩
  rintro i m σ2 H2 ⟨hm, ρ2, ω2, rp2, rs2, fr2, q2⟩
  obtain ⟨stop, go⟩ := it F H2 ω2 rp2 fr2.same
  by_cases hl : i < as.length
  · obtain ⟨a, ha, hd⟩ := drop_cons hl
    rw [hd] at q2
    obtain ⟨g1, y1⟩ := go i a ha
    refine .inr ⟨g1, fun σ' H' => m - 1 + (i + 1) = as.length ∧ ∃ ρ' ω', Rep F H' ω' ∧ RS (cut F H' ω') ρ' σ' ∧ Fr F H1 ω1 H' ω' ∧ aForL g' t' D' (as.drop (i + 1)) ρ' ω', fun σ' H' z => ⟨m - 1, by omega, z⟩, fun x H' hy => ?_⟩
    obtain ⟨rp3, fr3, rv3⟩ := y1 x H' hy
    have fr13 := (fr2.trans fr3)
    refine hg.run F H' ω2 σ2 ρ2 x a _ _ rp3 (rs2.same fr3.same) rv3 q2 fun ρ4 ω4 σ4 H4 rp4 fr4 rs4 q4 => ?_
    have k4 := k.fr ((fr1.trans fr13).trans fr4)
    refine hb.run F H4 ω4 σ4 ρ4 _ _ rp4 rs4 q4 ⟨?_, k4.rt, k4.nx, ?_⟩
    · exact fun ρ' ω' σ' H'' e1 e2 e3 e4 => ⟨by omega, ρ', ω', e1, e3, (fr13.trans fr4).trans e2, e4⟩
    · exact fun ρ' ω' σ' H'' e1 e2 e3 e4 => ⟨by omega, ρ', ω', e1, e3, (fr13.trans fr4).trans e2, e4⟩
  · have hi : i = as.length := by omega
    subst hi
    rw [List.drop_length] at q2
    exact .inl ⟨stop, k.nx ρ2 ω2 σ2 H2 rp2 (fr1.trans fr2) rs2 q2⟩⟩
abbrev AL := List AV → SA → Om → (List AV → SA → Om → Prop) → Prop
structure Fa (l : Addr) (F : Fs) (H : Hp) (ω : Om) (H' : Hp) (ω' : Om) : Prop where
  st : ∀ b o, ow (ω b) = false → F b = false → H b = some o → H' b = some o ∧ ow (ω' b) = false
  hd : ∀ b, F b = true → b ≠ l → H' b = H b
theorem Fr.fa {l : Addr} {F : Fs} {H H' : Hp} {ω ω' : Om} (h : Fr F H ω H' ω') : Fa l F H ω H' ω' := ⟨h.st, fun b f _ => h.hd b f⟩
theorem Fa.trans {l : Addr} {F : Fs} {H H1 H2 : Hp} {ω ω1 ω2 : Om} (a : Fa l F H ω H1 ω1) (b : Fa l F H1 ω1 H2 ω2) : Fa l F H ω H2 ω2 :=
  ⟨fun c o h f e => let ⟨x, y⟩ := a.st c o h f e; b.st c o y f x, fun c h n => (b.hd c h n).trans (a.hd c h n)⟩
theorem Fa.same {l : Addr} {F : Fs} {H H' : Hp} {ω ω' : Om} (a : Fa l F H ω H' ω') : Same (cut F H ω) (cut F H' ω') := fun b o e => by
  obtain ⟨h, f, e⟩ := cut_some.mp e
  obtain ⟨x, y⟩ := a.st b o h f e
  exact cut_some.mpr ⟨y, f, x⟩
def LL (l : Addr) (F : Fs) (H : Hp) (ω : Om) (K' : List AV → SA → Om → Prop) (K : St → Hp → Prop) : Prop :=
  ∀ xs vs ρ ω' σ H', Rep F H' ω' → Fa l F H ω H' ω' → RS (cut F H' ω') ρ σ → H' l = some (.lst vs) → RVs (cut F H' ω') xs vs → K' xs ρ ω' → K σ H'
structure RefL (l : TL) (l' : AL) : Prop where
  run : ∀ (F : Fs) (H : Hp) (ω : Om) (σ : St) (ρ : SA) (acc : Addr) (vs : List V) (xs : List AV) (K : St → Hp → Prop) (K' : List AV → SA → Om → Prop), Rep F H ω → RS (cut F H ω) ρ σ → F acc = true → H acc = some (.lst vs) → RVs (cut F H ω) xs vs →
    l' xs ρ ω K' → LL acc F H ω K' K → l acc σ H K
def aNoTest : AT := fun _ ω Q => Q true ω
def aLast (te : AE) : AL := fun xs ρ ω K => te ρ ω fun y ω1 => xs.length < sizeLine ∧ K (xs ++ [y]) ρ ω1
def aLoop (g : AG) (tc : AT) (l : AL) : List AV → AL
  | [], xs, ρ, ω, K => K xs ρ ω
  | a :: as, xs, ρ, ω, K => g a ρ ω fun ρ1 ω1 => tc ρ1 ω1 fun b ω2 => if b = true then l xs ρ1 ω2 (fun xs' ρ' ω' => aLoop g tc l as xs' ρ' ω' K) else aLoop g tc l as xs ρ1 ω2 K
def blkA (src : List (Option Nat)) (ρ : SA) : SA := src.map fun o => match o with | none => none | some j => (ρ[j]?).join
def und : List AV → Option (List D)
  | [] => some []
  | .d x :: r => (und r).map (x :: ·)
  | _ => none
theorem und_map : ∀ ds : List D, und (ds.map AV.d) = some ds
  | [] => rfl
  | d :: ds => by simp [und, und_map ds]
theorem und_some : ∀ {xs : List AV} {ds : List D}, und xs = some ds → xs = ds.map AV.d
  | [], ds, h => by cases h; rfl
  | .d x :: r, ds, h => by
    simp only [und, Option.map_eq_some_iff] at h
    obtain ⟨es, e1, rfl⟩ := h
    rw [und_some e1]; rfl
  | .r _ :: _, _, h => by simp [und] at h
  | .p _ _ :: _, _, h => by simp [und] at h
def aComp (src : List (Option Nat)) (wi : AI) (g : AG) (tc : AT) (l : AL) : AE := fun ρ ω Q => wi ρ ω fun as ω1 => aLoop g tc l as [] (blkA src ρ) ω1 fun xs _ ω' => ∃ ds, und xs = some ds ∧ Q (.d (.lst ds)) ω'
def aCompO (src : List (Option Nat)) (wi : AI) (g : AG) (tc : AT) (l : AL) : AE := fun ρ ω Q => wi ρ ω fun as ω1 => aLoop g tc l as [] (blkA src ρ) ω1 fun xs _ ω' => ∀ p, ω' p = none → Q (.r (.ref p)) (ω'.put p (.own xs))
section
variable {te : TE} {te' : AE} {tc : TT} {tc' : AT} {g : TG} {g' : AG} {wi : TI} {wi' : AI} {l : TL} {l' : AL} {src : List (Option Nat)}
theorem t_no : RefT tNoTest aNoTest := ⟨fun F H ω σ ρ Q Q' rp rs w k => k true ω true H rp .refl rfl w⟩
theorem l_last (h : RefE te te') : RefL (lLast te) (aLast te') := ⟨fun F H ω σ ρ acc vs xs K K' rp rs fa ha rx w k => by
  refine h.go rp rs w fun y ω1 v H1 rp1 fr1 rs1 rv q => ?_
  obtain ⟨q1, q2⟩ := q
  have ha1 : H1 acc = some (.lst vs) := (fr1.hd acc fa).trans ha
  obtain ⟨rp2, c2⟩ := rp1.hwrite (vs := vs ++ [v]) fa
  refine ⟨vs, ha1, by rw [rx.length]; exact q1, k (xs ++ [y]) (vs ++ [v]) ρ ω1 σ _ rp2 ?_ ?_ upd_same ?_ q2⟩
  · refine fr1.fa.trans ⟨fun b o e1 e2 e3 => ⟨?_, e1⟩, fun b f n => upd_ne n⟩
    have hb : b ≠ acc := fun z => by subst z; rw [fa] at e2; cases e2
    rw [upd_ne hb]; exact e3
  · rw [c2]; exact rs1
  · rw [c2]; exact (rx.same fr1.same).append (.one rv)⟩
theorem l_loop (hg : RefG g g') (hc : RefT tc tc') (hl : RefL l l') {G : Hp} {as : List AV} {J : It} (it : ItOk G as J) {F : Fs} {H : Hp} {ω : Om} {σ : St} {ρ : SA} {acc : Addr} {vs : List V} {xs : List AV} {K : St → Hp → Prop} {K' : List AV → SA → Om → Prop}
    (rp : Rep F H ω) (rs : RS (cut F H ω) ρ σ) (fa : F acc = true) (ha : H acc = some (.lst vs)) (rx : RVs (cut F H ω) xs vs) (sG : Same G (cut F H ω)) (w : aLoop g' tc' l' as xs ρ ω K') (k : LL acc F H ω K' K) : lLoop J g tc l acc σ H K := by
  refine ⟨fun i m σ2 H2 => m + i = as.length ∧ ∃ ρ2 ω2 vs2 xs2, Rep F H2 ω2 ∧ RS (cut F H2 ω2) ρ2 σ2 ∧ Fa acc F H ω H2 ω2 ∧ H2 acc = some (.lst vs2) ∧ RVs (cut F H2 ω2) xs2 vs2 ∧ aLoop g' tc' l' (as.drop i) xs2 ρ2 ω2 K',
    ⟨as.length, rfl, ρ, ω, vs, xs, rp, rs, Fr.refl.fa, ha, rx, w⟩, ?_⟩
  rintro i m σ2 H2 ⟨hm, ρ2, ω2, vs2, xs2, rp2, rs2, fr2, ha2, rx2, q2⟩
  obtain ⟨stop, go⟩ := it F H2 ω2 rp2 (sG.trans fr2.same)
  by_cases hl' : i < as.length
  · obtain ⟨a, hai, hd⟩ := drop_cons hl'
    rw [hd] at q2
    obtain ⟨g1, y1⟩ := go i a hai
    refine .inr ⟨g1, fun x H' hy => ?_⟩
    obtain ⟨rp3, fr3, rv3⟩ := y1 x H' hy
    refine hg.run F H' ω2 σ2 ρ2 x a _ _ rp3 (rs2.same fr3.same) rv3 q2 fun ρ4 ω4 σ4 H4 rp4 fr4 rs4 q4 => ?_
    refine hc.go rp4 rs4 q4 fun b ω5 b' H5 rp5 fr5 rs5 rb q5 => ?_
    cases (show b = b' from rb)
    have fr25 : Fr F H2 ω2 H5 ω5 := (fr3.trans fr4).trans fr5
    have ha5 : H5 acc = some (.lst vs2) := (fr25.hd acc fa).trans ha2
    have rx5 := rx2.same fr25.same
    cases b with
    | true =>
      rw [if_pos rfl] at q5 ⊢
      refine hl.run F H5 ω5 σ4 ρ4 acc vs2 xs2 _ _ rp5 rs5 fa ha5 rx5 q5 fun xs6 vs6 ρ6 ω6 σ6 H6 e1 e2 e3 e4 e5 e6 => ?_
      exact ⟨m - 1, by omega, by omega, ρ6, ω6, vs6, xs6, e1, e3, (fr2.trans fr25.fa).trans e2, e4, e5, e6⟩
    | false =>
      rw [if_neg Bool.false_ne_true] at q5 ⊢
      exact ⟨m - 1, by omega, by omega, ρ4, ω5, vs2, xs2, rp5, rs5, fr2.trans fr25.fa, ha5, rx5, q5⟩
  · have hi : i = as.length := by omega
    subst hi
    rw [List.drop_length] at q2
    exact .inl ⟨stop, k xs2 vs2 ρ2 ω2 σ2 H2 rp2 fr2 rs2 ha2 rx2 q2⟩
theorem RS.blk {G : Hp} {ρ : SA} {σ : St} (h : RS G ρ σ) : RS G (blkA src ρ) (blkSt src σ) := by
  refine ⟨by simp [blkA, blkSt], fun i a e => ?_⟩
  unfold blkA at e
  unfold blkSt
  rw [List.getElem?_map] at e ⊢
  cases q : src[i]? with
  | none => rw [q] at e; simp at e
  | some o =>
    rw [q] at e
    cases o with
    | none => simp at e
    | some j =>
      simp only [Option.map_some, Option.some.injEq] at e ⊢
      have e' : ρ[j]? = some (some a) := by
        cases z : ρ[j]? with
        | none => rw [z] at e; simp at e
        | some y => rw [z] at e; simp at e; rw [e]
      obtain ⟨v, e1, e2⟩ := h.2 j a e'
      exact ⟨v, by rw [e1]; rfl, e2⟩
theorem comp_at (hi : RefI wi wi') (hg : RefG g g') (hc : RefT tc tc') (hl : RefL l l') {F : Fs} {H : Hp} {ω : Om} {σ : St} {ρ : SA} {Q : VK} {K' : List AV → SA → Om → Prop} (rp : Rep F H ω) (rs : RS (cut F H ω) ρ σ)
    (w : wi' ρ ω fun as ω1 => aLoop g' tc' l' as [] (blkA src ρ) ω1 K')
    (k : ∀ p xs vs ρ' ω' H', F p = false → (∀ b o, ow (ω b) = false → F b = false → H b = some o → b ≠ p) → Rep (F.add p) H' ω' → Fr F H ω H' ω' → H' p = some (.lst vs) → RVs (cut (F.add p) H' ω') xs vs → K' xs ρ' ω' → Q (.ref p) H') : tComp src wi g tc l σ H Q := by
  refine hi.go rp rs w fun as ω1 J H1 rp1 fr1 rs1 it q => fun acc hacc => ?_
  obtain ⟨rp2, c2⟩ := rp1.hide (vs := []) hacc
  obtain ⟨f1, f2⟩ := rp1.free hacc
  have hb1 : ∀ b, b ≠ acc → F b = false → (F.add acc) b = false := fun b h f => by simp [Fs.add, h, f]
  have hne : ∀ b o, ow (ω b) = false → F b = false → H b = some o → b ≠ acc := fun b o h f e => ne_of_none (fr1.st b o h f e).1 hacc
  refine l_loop (xs := []) hg hc hl it rp2 (by rw [c2]; exact rs1.blk) (by simp [Fs.add]) upd_same rfl (by rw [c2]; exact Same.refl _) q fun xs vs ρ' ω' σ' H' e1 e2 e3 e4 e5 e6 => ?_
  refine k acc xs vs ρ' ω' H' f2 hne e1 ⟨fun b o h f e => ?_, fun b f => ?_⟩ e4 e5 e6
  · obtain ⟨x, y⟩ := fr1.st b o h f e
    have hb := hne b o h f e
    exact e2.st b o y (hb1 b hb f) (by rw [upd_ne hb]; exact x)
  · have hb : b ≠ acc := fun z => by subst z; rw [f] at f2; cases f2
    rw [e2.hd b (by simp [Fs.add, f]) hb, upd_ne hb, fr1.hd b f]
theorem e_comp (hi : RefI wi wi') (hg : RefG g g') (hc : RefT tc tc') (hl : RefL l l') : RefE (tComp src wi g tc l) (aComp src wi' g' tc' l') := ⟨fun F H ω σ ρ Q Q' rp rs w k => by
  refine comp_at hi hg hc hl rp rs w fun p xs vs ρ' ω' H' f hne rp1 fr1 e1 e2 q => ?_
  obtain ⟨ds, hu, q⟩ := q
  cases und_some hu
  obtain ⟨rp2, sm, hp⟩ := rp1.unhide f e1
  refine k (.d (.lst ds)) ω' _ H' rp2 fr1 ?_ q
  simp only [RV, Dat]
  exact ⟨p, vs, rfl, hp, RVs.dats.mp (e2.same sm)⟩⟩
theorem e_compO (hi : RefI wi wi') (hg : RefG g g') (hc : RefT tc tc') (hl : RefL l l') : RefE (tComp src wi g tc l) (aCompO src wi' g' tc' l') := ⟨fun F H ω σ ρ Q Q' rp rs w k => by
  refine comp_at hi hg hc hl rp rs w fun p xs vs ρ' ω' H' f hne rp1 fr1 e1 e2 q => ?_
  have hp : ω' p = none := (rp1.hid p (by simp [Fs.add])).1
  obtain ⟨rp2, sm⟩ := rp1.unhideO f e1 e2
  refine k (.r (.ref p)) (ω'.put p (.own xs)) _ H' rp2 ⟨fun b o h f e => ?_, fr1.hd⟩ rfl (q p hp)
  obtain ⟨x, y⟩ := fr1.st b o h f e
  rw [Om.put_ne (hne b o h f e)]
  exact ⟨x, y⟩⟩
end
end L2
set_option Elab.async false
set_option linter.all false
set_option autoImplicit false
set_option maxRecDepth 100000
set_option maxHeartbeats 1000000
namespace L2
open PySem PySem.Spec PyProof.Rows
def datA (ω : Om) : AV → Option D
  | .d x => some x
  | .r (.ref l) => match ω l with
    | some (.own xs) => (und xs).map D.lst
    | some (.frz ds) => some (.lst ds)
    | _ => none
  | _ => none
def lstA (ω : Om) : AV → Option (List AV)
  | .d (.lst ds) => some (ds.map AV.d)
  | .r (.ref l) => match ω l with
    | some (.own xs) => some xs
    | some (.frz ds) => some (ds.map AV.d)
    | _ => none
  | _ => none
def tupA : AV → Option (List AV)
  | .d (.tup ds) => some (ds.map AV.d)
  | _ => none
def frzA (ω : Om) (x : AV) (K : D → Om → Prop) : Prop := match x with
  | .d x => K x ω
  | .r (.ref l) => match ω l with
    | some (.own xs) => ∃ ds, und xs = some ds ∧ K (.lst ds) (ω.put l (.frz ds))
    | some (.frz ds) => K (.lst ds) ω
    | _ => False
  | _ => False
section
variable {F : Fs} {H : Hp} {ω : Om} {x : AV} {v : V}
theorem lst_of (rp : Rep F H ω) (rv : RV (cut F H ω) x v) {xs : List AV} (h : lstA ω x = some xs) : ∃ a vs, v = .ref a ∧ H a = some (.lst vs) ∧ RVs (cut F H ω) xs vs := by
  cases x with
  | d x => cases x with
    | lst ds =>
      simp only [lstA, Option.some.injEq] at h
      subst h
      simp only [RV, Dat] at rv
      obtain ⟨a, vs, rfl, e1, e2⟩ := rv
      exact ⟨a, vs, rfl, cut_same _ _ e1, RVs.dats.mpr e2⟩
    | _ => simp [lstA] at h
  | p u P => simp [lstA] at h
  | r u =>
    cases (show v = u from rv)
    cases v with
    | ref l =>
      simp only [lstA] at h
      cases e : ω l with
      | none => rw [e] at h; simp at h
      | some c =>
        rw [e] at h
        cases c with
        | own ys =>
          simp only [Option.some.injEq] at h
          subst h
          obtain ⟨vs, e1, e2⟩ := rp.own l _ e
          exact ⟨l, vs, rfl, e1, e2⟩
        | frz ds =>
          simp only [Option.some.injEq] at h
          subst h
          have q := rp.frz l ds e
          simp only [Dat] at q
          obtain ⟨a, vs, e1, e2, e3⟩ := q
          cases e1
          exact ⟨l, vs, rfl, cut_same _ _ e2, RVs.dats.mpr e3⟩
        | dic ks => simp at h
    | _ => simp [lstA] at h
theorem tup_of (rv : RV (cut F H ω) x v) {xs : List AV} (h : tupA x = some xs) : ∃ a vs, v = .ref a ∧ cut F H ω a = some (.tup vs) ∧ RVs (cut F H ω) xs vs := by
  cases x with
  | d x => cases x with
    | tup ds =>
      simp only [tupA, Option.some.injEq] at h
      subst h
      simp only [RV, Dat] at rv
      obtain ⟨a, vs, rfl, e1, e2⟩ := rv
      exact ⟨a, vs, rfl, e1, RVs.dats.mpr e2⟩
    | _ => simp [tupA] at h
  | p u P => simp [tupA] at h
  | r u => simp [tupA] at h
theorem dat_of (rp : Rep F H ω) (rv : RV (cut F H ω) x v) {d : D} (h : datA ω x = some d) : Dat H d v := by
  cases x with
  | d x =>
    simp only [datA, Option.some.injEq] at h
    subst h
    exact Dat.same cut_same rv
  | p u P => simp [datA] at h
  | r u =>
    cases (show v = u from rv)
    cases v with
    | ref l =>
      simp only [datA] at h
      cases e : ω l with
      | none => rw [e] at h; simp at h
      | some c =>
        rw [e] at h
        cases c with
        | own ys =>
          simp only [Option.map_eq_some_iff] at h
          obtain ⟨ds, h1, rfl⟩ := h
          cases und_some h1
          obtain ⟨vs, e1, e2⟩ := rp.own l _ e
          simp only [Dat]
          exact ⟨l, vs, rfl, e1, (RVs.dats.mp e2).same cut_same⟩
        | frz ds =>
          simp only [Option.some.injEq] at h
          subst h
          exact (rp.frz l ds e).same cut_same
        | dic ks => simp at h
    | _ => simp [datA] at h
theorem dats_of (rp : Rep F H ω) (rv : RV (cut F H ω) x v) {ds : List D} (h : datA ω x = some (.lst ds)) : ∃ a vs, v = .ref a ∧ H a = some (.lst vs) ∧ Dats (cut F H ω) ds vs := by
  have : lstA ω x = some (ds.map AV.d) := by
    cases x with
    | d x => simp only [datA, Option.some.injEq] at h; subst h; rfl
    | p u P => simp [datA] at h
    | r u => cases u with
      | ref l =>
        simp only [datA] at h
        simp only [lstA]
        cases e : ω l with
        | none => rw [e] at h; simp at h
        | some c =>
          rw [e] at h
          cases c with
          | own ys =>
            simp only [Option.map_eq_some_iff] at h
            obtain ⟨es, h1, h2⟩ := h
            cases h2
            rw [und_some h1]
          | frz es => simp only [Option.some.injEq] at h; cases h; rfl
          | dic ks => simp at h
      | _ => simp [datA] at h
  obtain ⟨a, vs, e1, e2, e3⟩ := lst_of rp rv this
  exact ⟨a, vs, e1, e2, RVs.dats.mp e3⟩
theorem frz_of (rp : Rep F H ω) (rv : RV (cut F H ω) x v) {K : D → Om → Prop} (h : frzA ω x K) : ∃ d ω', Rep F H ω' ∧ Fr F H ω H ω' ∧ Dat (cut F H ω') d v ∧ K d ω' := by
  cases x with
  | d x => exact ⟨x, ω, rp, .refl, rv, h⟩
  | p u P => exact h.elim
  | r u =>
    cases (show v = u from rv)
    cases v with
    | ref l =>
      simp only [frzA] at h
      cases e : ω l with
      | none => rw [e] at h; exact h.elim
      | some c =>
        rw [e] at h
        cases c with
        | own ys =>
          obtain ⟨ds, h1, h2⟩ := h
          cases und_some h1
          obtain ⟨q1, q2, q3⟩ := rp.freeze e
          exact ⟨_, _, q1, q2, q3, h2⟩
        | frz ds => exact ⟨_, _, rp, .refl, rp.frz l ds e, h⟩
        | dic ks => exact h.elim
    | _ => exact h.elim
end
abbrev A2 := AV → AV → Om → (AV → Om → Prop) → Prop
structure Ref2 (r : R2) (r' : A2) : Prop where
  run : ∀ (F : Fs) (H : Hp) (ω : Om) (v u : V) (x y : AV) (Q : VK) (Q' : AV → Om → Prop), Rep F H ω → RV (cut F H ω) x v → RV (cut F H ω) y u → r' x y ω Q' → LP RV F H ω Q' Q → r v u H Q
structure Ref1 (r : V → Hp → VK → Prop) (r' : AV → Om → (AV → Om → Prop) → Prop) : Prop where
  run : ∀ (F : Fs) (H : Hp) (ω : Om) (v : V) (x : AV) (Q : VK) (Q' : AV → Om → Prop), Rep F H ω → RV (cut F H ω) x v → r' x ω Q' → LP RV F H ω Q' Q → r v H Q
structure RefC (r : List V → Hp → VK → Prop) (r' : List AV → Om → (AV → Om → Prop) → Prop) : Prop where
  run : ∀ (F : Fs) (H : Hp) (ω : Om) (vs : List V) (xs : List AV) (Q : VK) (Q' : AV → Om → Prop), Rep F H ω → RVs (cut F H ω) xs vs → r' xs ω Q' → LP RV F H ω Q' Q → r vs H Q
def aVar (i : Nat) : AE := fun ρ ω Q => ∃ a, ρ[i]? = some (some a) ∧ Q a ω
def aC (d : D) : AE := fun _ ω Q => Q (.d d) ω
def aOp (r : A2) (ta tb : AE) : AE := fun ρ ω Q => ta ρ ω fun x ω1 => tb ρ ω1 fun y ω2 => r x y ω2 Q
def aNil : AA := fun _ ω Q => Q [] ω
def aCons (ta : AE) (tr : AA) : AA := fun ρ ω Q => ta ρ ω fun x ω1 => tr ρ ω1 fun xs ω2 => Q (x :: xs) ω2
def aTup (t : AA) : AE := fun ρ ω Q => t ρ ω fun xs ω1 => xs.length ≤ sizeLine ∧ ∃ ds, und xs = some ds ∧ Q (.d (.tup ds)) ω1
def aLst (t : AA) : AE := fun ρ ω Q => t ρ ω fun xs ω1 => xs.length ≤ sizeLine ∧ ∃ ds, und xs = some ds ∧ Q (.d (.lst ds)) ω1
def aLstO (t : AA) : AE := fun ρ ω Q => t ρ ω fun xs ω1 => xs.length ≤ sizeLine ∧ ∀ p, ω1 p = none → Q (.r (.ref p)) (ω1.put p (.own xs))
def aCall (sp : ASp) (t : AA) : AE := fun ρ ω Q => t ρ ω fun xs ω1 => sp xs ω1 Q
def aCB (r : List AV → Om → (AV → Om → Prop) → Prop) (t : AA) : AE := fun ρ ω Q => t ρ ω fun xs ω1 => r xs ω1 Q
def aTest (t : AE) : AT := fun ρ ω Q => t ρ ω fun x ω1 => ∃ k, x = .d (.bl k) ∧ Q k ω1
def aAnd (t u : AT) : AT := fun ρ ω Q => t ρ ω fun c ω1 => if c = true then u ρ ω1 Q else Q false ω1
def aOr (t u : AT) : AT := fun ρ ω Q => t ρ ω fun c ω1 => if c = true then Q true ω1 else u ρ ω1 Q
def aNot (t : AT) : AT := fun ρ ω Q => t ρ ω fun c ω1 => Q (!c) ω1
section
variable {ta tb tc : TE} {ta' tb' tc' : AE} {t u : TT} {t' u' : AT} {r r2 : R2} {r' r2' : A2} {s : TA} {s' : AA}
theorem e_var {i : Nat} : RefE (tVar i) (aVar i) := ⟨fun F H ω σ ρ Q Q' rp rs h k => by
  obtain ⟨a, e, q⟩ := h
  obtain ⟨v, e1, e2⟩ := rs.2 i a e
  exact ⟨v, e1, k a ω v H rp .refl e2 q⟩⟩
theorem e_int {i : Int} : RefE (tC (.int i)) (aC (.int i)) := ⟨fun F H ω σ ρ Q Q' rp rs h k => k _ ω _ H rp .refl (by simp [RV, Dat]) h⟩
theorem e_str {x : Str} : RefE (tC (.str x)) (aC (.str x)) := ⟨fun F H ω σ ρ Q Q' rp rs h k => k _ ω _ H rp .refl (by simp [RV, Dat]) h⟩
theorem e_bl {b : Bool} : RefE (tC (.bl b)) (aC (.bl b)) := ⟨fun F H ω σ ρ Q Q' rp rs h k => k _ ω _ H rp .refl (by simp [RV, Dat]) h⟩
def aRaw (v : V) : AE := fun _ ω Q => Q (.r v) ω
theorem e_raw {v : V} : RefE (tC v) (aRaw v) := ⟨fun F H ω σ ρ Q Q' rp rs h k => k (.r v) ω _ H rp .refl rfl h⟩
theorem e_op (h2 : Ref2 r r') (ha : RefE ta ta') (hb : RefE tb tb') : RefE (tOp r ta tb) (aOp r' ta' tb') := ⟨fun F H ω σ ρ Q Q' rp rs h k =>
  ha.go rp rs h fun x ω1 v H1 rp1 fr1 rs1 rv1 q1 => hb.go rp1 rs1 q1 fun y ω2 u H2 rp2 fr2 rs2 rv2 q2 => h2.run F H2 ω2 v u x y Q Q' rp2 (rv1.same fr2.same) rv2 q2 (k.fr (fr1.trans fr2))⟩
theorem a_nil : RefA tNil aNil := ⟨fun F H ω σ ρ Q Q' rp rs h k => k [] ω _ H rp .refl rfl h⟩
theorem a_cons (ha : RefE ta ta') (hs : RefA s s') : RefA (tCons ta s) (aCons ta' s') := ⟨fun F H ω σ ρ Q Q' rp rs h k =>
  ha.go rp rs h fun x ω1 v H1 rp1 fr1 rs1 rv1 q1 => hs.go rp1 rs1 q1 fun y ω2 u H2 rp2 fr2 rs2 rv2 q2 => k (x :: y) ω2 (v :: u) H2 rp2 (fr1.trans fr2) ⟨v, u, rfl, rv1.same fr2.same, rv2⟩ q2⟩
theorem e_tup (hs : RefA s s') : RefE (tTup s) (aTup s') := ⟨fun F H ω σ ρ Q Q' rp rs h k =>
  hs.go rp rs h fun xs ω1 vs H1 rp1 fr1 rs1 rv1 ⟨z, ds, hu, q1⟩ => ⟨by rw [rv1.length]; exact z, fun p hp => by
    cases und_some hu
    obtain ⟨rp2, fr2, hc⟩ := rp1.lay (o := .tup vs) hp
    refine k _ ω1 _ _ rp2 (fr1.trans fr2) ?_ q1
    simp only [RV, Dat]
    exact ⟨p, vs, rfl, hc, (RVs.dats.mp rv1).same fr2.same⟩⟩⟩
theorem e_lst (hs : RefA s s') : RefE (tLst s) (aLst s') := ⟨fun F H ω σ ρ Q Q' rp rs h k =>
  hs.go rp rs h fun xs ω1 vs H1 rp1 fr1 rs1 rv1 ⟨z, ds, hu, q1⟩ => ⟨by rw [rv1.length]; exact z, fun p hp => by
    cases und_some hu
    obtain ⟨rp2, fr2, hc⟩ := rp1.lay (o := .lst vs) hp
    refine k _ ω1 _ _ rp2 (fr1.trans fr2) ?_ q1
    simp only [RV, Dat]
    exact ⟨p, vs, rfl, hc, (RVs.dats.mp rv1).same fr2.same⟩⟩⟩
theorem e_lstO (hs : RefA s s') : RefE (tLst s) (aLstO s') := ⟨fun F H ω σ ρ Q Q' rp rs h k =>
  hs.go rp rs h fun xs ω1 vs H1 rp1 fr1 rs1 rv1 ⟨z, q1⟩ => ⟨by rw [rv1.length]; exact z, fun p hp => by
    obtain ⟨rp2, fr2⟩ := rp1.mk' (vs := vs) hp rv1
    exact k (.r (.ref p)) _ _ _ rp2 (fr1.trans fr2) rfl (q1 p (rp1.free hp).1)⟩⟩
theorem e_call {sp : ASp} {E : XK} (hs : RefA s s') : RefE (tCall (lift sp) [] E s) (aCall sp s') := ⟨fun F H ω σ ρ Q Q' rp rs h k =>
  hs.go rp rs h fun xs ω1 vs H1 rp1 fr1 rs1 rv1 q => ⟨F, xs, ω1, Q', rp1, by rw [List.append_nil]; exact rv1, q, k.fr fr1⟩⟩
theorem e_cb {r : List V → Hp → VK → Prop} {r' : List AV → Om → (AV → Om → Prop) → Prop} (hr : RefC r r') (hs : RefA s s') : RefE (tCB r s) (aCB r' s') := ⟨fun F H ω σ ρ Q Q' rp rs h k =>
  hs.go rp rs h fun xs ω1 vs H1 rp1 fr1 rs1 rv1 q => hr.run F H1 ω1 vs xs Q Q' rp1 rv1 q (k.fr fr1)⟩
theorem t_test (ha : RefE ta ta') : RefT (tTest ta) (aTest ta') := ⟨fun F H ω σ ρ Q Q' rp rs h k =>
  ha.go rp rs h fun x ω1 v H1 rp1 fr1 rs1 rv1 ⟨c, e, q⟩ => by subst e; exact ⟨c, by simpa [RV, Dat] using rv1, k c ω1 c H1 rp1 fr1 rfl q⟩⟩
theorem t_and (h1 : RefT t t') (h2 : RefT u u') : RefT (tAnd t u) (aAnd t' u') := ⟨fun F H ω σ ρ Q Q' rp rs h k =>
  h1.go rp rs h fun c ω1 c' H1 rp1 fr1 rs1 rv1 q => by
    cases (show c = c' from rv1)
    cases c with
    | true => rw [if_pos rfl] at q ⊢; exact h2.run F H1 ω1 σ ρ Q Q' rp1 rs1 q (k.fr fr1)
    | false => rw [if_neg Bool.false_ne_true] at q ⊢; exact k false ω1 false H1 rp1 fr1 rfl q⟩
theorem t_or (h1 : RefT t t') (h2 : RefT u u') : RefT (tOr t u) (aOr t' u') := ⟨fun F H ω σ ρ Q Q' rp rs h k =>
  h1.go rp rs h fun c ω1 c' H1 rp1 fr1 rs1 rv1 q => by
    cases (show c = c' from rv1)
    cases c with
    | true => rw [if_pos rfl] at q ⊢; exact k true ω1 true H1 rp1 fr1 rfl q
    | false => rw [if_neg Bool.false_ne_true] at q ⊢; exact h2.run F H1 ω1 σ ρ Q Q' rp1 rs1 q (k.fr fr1)⟩
theorem t_not (h1 : RefT t t') : RefT (tNot t) (aNot t') := ⟨fun F H ω σ ρ Q Q' rp rs h k =>
  h1.go rp rs h fun c ω1 c' H1 rp1 fr1 rs1 rv1 q => by
    cases (show c = c' from rv1)
    exact k _ ω1 _ H1 rp1 fr1 rfl q⟩
theorem rv_bl {G : Hp} {c : Bool} {v : V} (h : RV G (.d (.bl c)) v) : v = .bl c := by simpa [RV, Dat] using h
def truA (ω : Om) (x : AV) : Option Bool := match x with
  | .d .non => some false
  | .d (.bl b) => some b
  | .d (.int i) => some (i != 0)
  | .d (.tup ds) => some (!ds.isEmpty)
  | x => (lstA ω x).map fun xs => !xs.isEmpty
def aTru (ta : AE) : AT := fun ρ ω Q => ta ρ ω fun x ω1 => ∃ k, truA ω1 x = some k ∧ Q k ω1
theorem isEmpty_len {α β : Type} {xs : List α} {ys : List β} (h : xs.length = ys.length) : xs.isEmpty = ys.isEmpty := by
  cases xs <;> cases ys <;> simp_all
theorem tru_of {K : PySem.W.Frag} {F : Fs} {H1 : Hp} {ω1 : Om} {x : AV} {v : V} {c : Bool} (rp1 : Rep F H1 ω1) (rv1 : RV (cut F H1 ω1) x v) (e : truA ω1 x = some c) : TruV K v H1 c := by
    have ls : ∀ {xs : List AV}, lstA ω1 x = some xs → c = (!xs.isEmpty) → TruV K v H1 c := fun {xs} e1 e2 => by
      obtain ⟨a, vs, rfl, e3, e4⟩ := lst_of rp1 rv1 e1
      exact .inl ⟨vs, .inl (.inl e3), by rw [e2, isEmpty_len e4.length.symm]⟩
    cases x with
    | d x => cases x with
      | non => simp only [truA, Option.some.injEq] at e; simp only [RV, Dat] at rv1; subst rv1; exact e.symm
      | bl b => simp only [truA, Option.some.injEq] at e; simp only [RV, Dat] at rv1; subst rv1; exact e.symm
      | int b => simp only [truA, Option.some.injEq] at e; simp only [RV, Dat] at rv1; subst rv1; exact e.symm
      | str b => simp [truA, lstA] at e
      | tup ds =>
        simp only [truA, Option.some.injEq] at e
        simp only [RV, Dat] at rv1
        obtain ⟨a, vs, rfl, e1, e2⟩ := rv1
        exact .inr (.inl ⟨vs, .inl (.inl (cut_same _ _ e1)), by rw [← e, isEmpty_len e2.length]⟩)
      | lst ds =>
        simp only [truA, Option.map_eq_some_iff] at e
        obtain ⟨xs, e1, e2⟩ := e
        exact ls e1 e2.symm
    | r u =>
      simp only [truA, Option.map_eq_some_iff] at e
      obtain ⟨xs, e1, e2⟩ := e
      exact ls e1 e2.symm
    | p u P => simp [truA, lstA] at e
theorem t_tru {K : PySem.W.Frag} (ha : RefE ta ta') : RefT (fun σ H Q => ta σ H fun x H' => ∃ k, TruV K x H' k ∧ Q k H') (aTru ta') := ⟨fun F H ω σ ρ Q Q' rp rs h k =>
  ha.go rp rs h fun x ω1 v H1 rp1 fr1 rs1 rv1 ⟨c, e, q⟩ => ⟨c, tru_of rp1 rv1 e, k c ω1 c H1 rp1 fr1 rfl q⟩⟩
end
end L2
set_option Elab.async false
set_option linter.all false
set_option autoImplicit false
set_option maxRecDepth 100000
set_option maxHeartbeats 1000000
namespace L2
open PySem PySem.Spec PyProof.Rows
def aI0 (f : Int → Int → D) : A2 := fun x y ω Q => ∃ i j, x = .d (.int i) ∧ y = .d (.int j) ∧ Q (.d (f i j)) ω
def aI (C : Int → Int → Prop) (f : Int → Int → D) : A2 := fun x y ω Q => ∃ i j, x = .d (.int i) ∧ y = .d (.int j) ∧ C i j ∧ Q (.d (f i j)) ω
section
variable {F : Fs} {H : Hp} {ω : Om} {Q : VK} {Q' : AV → Om → Prop}
theorem LP.int (k : LP RV F H ω Q' Q) (rp : Rep F H ω) {i : Int} (q : Q' (.d (.int i)) ω) : Q (.int i) H := k (.d (.int i)) ω _ H rp .refl (by simp [RV, Dat]) q
theorem LP.bl (k : LP RV F H ω Q' Q) (rp : Rep F H ω) {i : Bool} (q : Q' (.d (.bl i)) ω) : Q (.bl i) H := k (.d (.bl i)) ω _ H rp .refl (by simp [RV, Dat]) q
theorem rv_int {G : Hp} {i : Int} {v : V} (h : RV G (.d (.int i)) v) : v = .int i := by simpa [RV, Dat] using h
theorem LP.tup (k : LP RV F H ω Q' Q) (rp : Rep F H ω) {ds : List D} {vs : List V} (hd : Dats (cut F H ω) ds vs) (q : Q' (.d (.tup ds)) ω) : ∀ p, H p = none → Q (.ref p) (upd H p (.tup vs)) := fun p hp => by
  obtain ⟨rp2, fr2, hc⟩ := rp.lay (o := .tup vs) hp
  refine k (.d (.tup ds)) ω _ _ rp2 fr2 ?_ q
  simp only [RV, Dat]
  exact ⟨p, vs, rfl, hc, hd.same fr2.same⟩
theorem LP.lst (k : LP RV F H ω Q' Q) (rp : Rep F H ω) {ds : List D} {vs : List V} (hd : Dats (cut F H ω) ds vs) (q : Q' (.d (.lst ds)) ω) : ∀ p, H p = none → Q (.ref p) (upd H p (.lst vs)) := fun p hp => by
  obtain ⟨rp2, fr2, hc⟩ := rp.lay (o := .lst vs) hp
  refine k (.d (.lst ds)) ω _ _ rp2 fr2 ?_ q
  simp only [RV, Dat]
  exact ⟨p, vs, rfl, hc, hd.same fr2.same⟩
theorem LP.own (k : LP RV F H ω Q' Q) (rp : Rep F H ω) {xs : List AV} {vs : List V} (hd : RVs (cut F H ω) xs vs) (q : ∀ p, ω p = none → Q' (.r (.ref p)) (ω.put p (.own xs))) : ∀ p, H p = none → Q (.ref p) (upd H p (.lst vs)) := fun p hp => by
  obtain ⟨rp2, fr2⟩ := rp.mk' (vs := vs) hp hd
  exact k (.r (.ref p)) _ _ _ rp2 fr2 rfl (q p (rp.free hp).1)
end
theorem o_I0i {f : Int → Int → Int} : Ref2 (rI0 fun i j => .int (f i j)) (aI0 fun i j => .int (f i j)) := ⟨fun F H ω v u x y Q Q' rp h1 h2 ⟨i, j, e1, e2, q⟩ k => by
  subst e1 e2; exact ⟨i, j, rv_int h1, rv_int h2, k.int rp q⟩⟩
theorem o_I0b {f : Int → Int → Bool} : Ref2 (rI0 fun i j => .bl (f i j)) (aI0 fun i j => .bl (f i j)) := ⟨fun F H ω v u x y Q Q' rp h1 h2 ⟨i, j, e1, e2, q⟩ k => by
  subst e1 e2; exact ⟨i, j, rv_int h1, rv_int h2, k.bl rp q⟩⟩
theorem o_Ii {C : Int → Int → Prop} {f : Int → Int → Int} : Ref2 (rI C fun i j => .int (f i j)) (aI C fun i j => .int (f i j)) := ⟨fun F H ω v u x y Q Q' rp h1 h2 ⟨i, j, e1, e2, c, q⟩ k => by
  subst e1 e2; exact ⟨i, j, rv_int h1, rv_int h2, c, k.int rp q⟩⟩
def aEqD (neg : Bool) : A2 := fun x y ω Q => ∃ a b, datA ω x = some a ∧ datA ω y = some b ∧ dep a ≤ 100 ∧ Q (.d (.bl (if neg then !eqD a b else eqD a b))) ω
theorem o_eqD {neg : Bool} : Ref2 (rEqD neg) (aEqD neg) := ⟨fun F H ω v u x y Q Q' rp h1 h2 ⟨a, b, e1, e2, s, q⟩ k => ⟨a, b, dat_of rp h1 e1, dat_of rp h2 e2, s, k.bl rp q⟩⟩
def aIn (neg : Bool) : A2 := fun x y ω Q => ∃ a b ds, datA ω x = some a ∧ datA ω y = some b ∧ (b = .lst ds ∨ b = .tup ds) ∧ deps ds ≤ 90 ∧ Q (.d (.bl (if neg then !inD a ds else inD a ds))) ω
theorem o_in {neg : Bool} : Ref2 (rInD neg) (aIn neg) := ⟨fun F H ω v u x y Q Q' rp h1 h2 ⟨a, b, ds, e1, e2, e3, s, q⟩ k => ⟨a, ds, dat_of rp h1 e1, by
  have := dat_of rp h2 e2
  rcases e3 with rfl | rfl
  · exact .inl this
  · exact .inr this, s, k.bl rp q⟩⟩
def aCatT : A2 := fun x y ω Q => ∃ ds es, x = .d (.tup ds) ∧ y = .d (.tup es) ∧ ds.length + es.length ≤ sizeLine ∧ Q (.d (.tup (ds ++ es))) ω
def rCat3 : R2 := fun x y H Q => ∃ a b xs ys, x = .ref a ∧ y = .ref b ∧ H a = some (.tup xs) ∧ H b = some (.tup ys) ∧ xs.length + ys.length ≤ sizeLine ∧
  (xs = [] → Q (.ref b) H) ∧ (ys = [] → Q (.ref a) H) ∧ ∀ p, H p = none → Q (.ref p) (upd H p (.tup (xs ++ ys)))
theorem op_cat3 {X : Cx} : OpR X (binaryOp .Add) rCat3 := by
  intro pins s σ H x y v u Q I rx ry h
  obtain ⟨a, b, xs, ys, rfl, rfl, ha, hb, hz, g1, g2, g3⟩ := h
  by_cases hn : xs = []
  · subst hn
    cases rx
    cases ry
    obtain ⟨its, r1, ht⟩ := tup_at I ha
    obtain ⟨its2, r2, hb2⟩ := tup_at I hb
    cases r1
    obtain ⟨⟨cls, dd, data, sl⟩, ho, hc, n, hd⟩ := id ht
    obtain ⟨⟨cls2, dd2, data2, sl2⟩, ho2, hc2, n2, hd2⟩ := id hb2
    simp only at hc hd hc2 hd2
    subst hc hd hc2 hd2
    exact concat_meets ⟨_, ho, rfl⟩ ⟨_, ho2, rfl⟩ noFill_tuple_add seq_tuple_add PySem.F.slot_tuple_add PySem.F.entry_tuple_add (PySem.F.args_tuple_add_2 _ _)
      (tuple_addW0 a b _ _ n n2 dd dd2 sl sl2 (by simp)) ⟨ho, ho2, ⟨.ref b, H, I, rfl, g1 rfl⟩⟩
  · exact op_catT pins s σ H (.ref a) (.ref b) v u Q I rx ry ⟨a, b, xs, ys, rfl, rfl, SqT.of ha, SqT.of hb, hn, hz, g2, fun _ p hp => g3 p hp⟩
theorem o_cat3 : Ref2 rCat3 aCatT := ⟨fun F H ω v u x y Q Q' rp h1 h2 ⟨ds, es, e1, e2, z, q⟩ k => by
  subst e1 e2
  have h1' := h1
  have h2' := h2
  simp only [RV, Dat] at h1 h2
  obtain ⟨a, xs, rfl, ha, hxs⟩ := h1
  obtain ⟨b, ys, rfl, hb, hys⟩ := h2
  refine ⟨a, b, xs, ys, rfl, rfl, cut_same _ _ ha, cut_same _ _ hb, by rw [hxs.length, hys.length]; exact z, fun e => ?_, fun e => ?_, k.tup rp (hxs.append hys) q⟩
  · have : ds = [] := List.length_eq_zero_iff.mp (by rw [← hxs.length, e]; rfl)
    subst this
    exact k _ ω _ H rp .refl h2' q
  · have : es = [] := List.length_eq_zero_iff.mp (by rw [← hys.length, e]; rfl)
    subst this
    rw [List.append_nil] at q
    exact k _ ω _ H rp .refl h1' q⟩
theorem Rep.later {F : Fs} {H H' : Hp} {ω : Om} (rp : Rep F H ω) (s : Same H H') : Rep F H' ω ∧ Fr F H ω H' ω := by
  have fr : Fr F H ω H' ω := ⟨fun b o x f e => ⟨s _ _ e, x⟩, fun b f => by
    obtain ⟨_, o, q⟩ := rp.hid b f
    rw [q, s _ _ q]⟩
  refine ⟨⟨fun l xs e => ?_, fun l ds e => (rp.frz l ds e).same fr.same, fun b f => ?_, fun l ks e => (by obtain ⟨vs, e1, e2⟩ := rp.dic l ks e; exact ⟨vs, s _ _ e1, e2.same fr.same⟩)⟩, fr⟩
  · obtain ⟨vs, e1, e2⟩ := rp.own l xs e
    exact ⟨vs, s _ _ e1, e2.same fr.same⟩
  · obtain ⟨x, o, q⟩ := rp.hid b f
    exact ⟨x, o, s _ _ q⟩
def aIxL : A2 := fun x y ω Q => ∃ xs i a, lstA ω x = some xs ∧ y = .d (.int i) ∧ atI xs i = some a ∧ Q a ω
def aIxT : A2 := fun x y ω Q => ∃ xs i a, tupA x = some xs ∧ y = .d (.int i) ∧ atI xs i = some a ∧ Q a ω
theorem RVs.atI {G : Hp} {xs : List AV} {vs : List V} {i : Int} {a : AV} (h : RVs G xs vs) (e : atI xs i = some a) : ∃ v, L2.atI vs i = some v ∧ RV G a v := by
  unfold L2.atI at e ⊢
  rw [h.length]
  cases z : ixN xs.length i with
  | none => rw [z] at e; cases e
  | some j =>
    rw [z] at e
    exact h.get e
theorem o_ixL {K : PySem.W.Frag} : Ref2 (rIxL K) aIxL := ⟨fun F H ω v u x y Q Q' rp h1 h2 ⟨xs, i, a, e1, e2, e3, q⟩ k => by
  subst e2
  obtain ⟨l, vs, rfl, q1, q2⟩ := lst_of rp h1 e1
  obtain ⟨w, z1, z2⟩ := q2.atI e3
  exact ⟨l, vs, i, w, rfl, rv_int h2, .inl (.inl q1), z1, k a ω w H rp .refl z2 q⟩⟩
theorem o_ixT {K : PySem.W.Frag} : Ref2 (rIxT K) aIxT := ⟨fun F H ω v u x y Q Q' rp h1 h2 ⟨xs, i, a, e1, e2, e3, q⟩ k => by
  subst e2
  obtain ⟨l, vs, rfl, q1, q2⟩ := tup_of h1 e1
  obtain ⟨w, z1, z2⟩ := q2.atI e3
  exact ⟨l, vs, i, w, rfl, rv_int h2, .inl (.inl (cut_same _ _ q1)), z1, k a ω w H rp .refl z2 q⟩⟩
def aIx : A2 := fun x y ω Q => ∃ xs i a, (lstA ω x = some xs ∨ tupA x = some xs) ∧ y = .d (.int i) ∧ atI xs i = some a ∧ Q a ω
theorem o_ix {K : PySem.W.Frag} : Ref2 (rIx K) aIx := ⟨fun F H ω v u x y Q Q' rp h1 h2 ⟨xs, i, a, e1, e2, e3, q⟩ k => by
  rcases e1 with e1 | e1
  · exact .inl (o_ixL.run F H ω v u x y Q Q' rp h1 h2 ⟨xs, i, a, e1, e2, e3, q⟩ k)
  · exact .inr (.inl (o_ixT.run F H ω v u x y Q Q' rp h1 h2 ⟨xs, i, a, e1, e2, e3, q⟩ k))⟩
abbrev AC := List AV → Om → (AV → Om → Prop) → Prop
theorem rvs1 {G : Hp} {a : AV} {vs : List V} (h : RVs G [a] vs) : ∃ v, vs = [v] ∧ RV G a v := by
  obtain ⟨v, r, rfl, h1, h2⟩ := h
  cases h2
  exact ⟨v, rfl, h1⟩
theorem rvs2 {G : Hp} {a b : AV} {vs : List V} (h : RVs G [a, b] vs) : ∃ v u, vs = [v, u] ∧ RV G a v ∧ RV G b u := by
  obtain ⟨v, r, rfl, h1, h2⟩ := h
  obtain ⟨u, rfl, h3⟩ := rvs1 h2
  exact ⟨v, u, rfl, h1, h3⟩
def lenA (ω : Om) (x : AV) : Option Nat := match tupA x with
  | some xs => some xs.length
  | none => (lstA ω x).map List.length
def aLen : AC := fun xs ω Q => ∃ x n, xs = [x] ∧ lenA ω x = some n ∧ Q (.d (.int n)) ω
theorem c_len {K : PySem.W.Frag} : RefC (fun xs H Q => ∃ x n, xs = [x] ∧ LenV K x H n ∧ Q (.int n) H) aLen := ⟨fun F H ω vs xs Q Q' rp rv ⟨x, n, e1, e2, q⟩ k => by
  subst e1
  obtain ⟨v, rfl, r⟩ := rvs1 rv
  refine ⟨v, n, rfl, ?_, k.int rp q⟩
  unfold lenA at e2
  cases z : tupA x with
  | some xs =>
    rw [z] at e2; cases e2
    obtain ⟨a, us, rfl, q1, q2⟩ := tup_of r z
    exact .inr ⟨us, .inl (.inl (cut_same _ _ q1)), q2.length.symm⟩
  | none =>
    rw [z] at e2
    simp only [Option.map_eq_some_iff] at e2
    obtain ⟨ys, e3, rfl⟩ := e2
    obtain ⟨a, us, rfl, q1, q2⟩ := lst_of rp r e3
    exact .inl ⟨us, .inl (.inl q1), q2.length.symm⟩⟩
def aF2 (f : Int → Int → Int) : AC := fun xs ω Q => ∃ i j, xs = [.d (.int i), .d (.int j)] ∧ Q (.d (.int (f i j))) ω
theorem c_F2 {f : Int → Int → Int} : RefC (fun xs H Q => ∃ i j, xs = [.int i, .int j] ∧ Q (.int (f i j)) H) (aF2 f) := ⟨fun F H ω vs xs Q Q' rp rv ⟨i, j, e1, q⟩ k => by
  subst e1
  obtain ⟨v, u, rfl, r1, r2⟩ := rvs2 rv
  exact ⟨i, j, by rw [rv_int r1, rv_int r2], k.int rp q⟩⟩
def aF1 (f : Int → Int) : AC := fun xs ω Q => ∃ i, xs = [.d (.int i)] ∧ Q (.d (.int (f i))) ω
theorem c_F1 {f : Int → Int} : RefC (fun xs H Q => ∃ i, xs = [.int i] ∧ Q (.int (f i)) H) (aF1 f) := ⟨fun F H ω vs xs Q Q' rp rv ⟨i, e1, q⟩ k => by
  subst e1
  obtain ⟨v, rfl, r1⟩ := rvs1 rv
  exact ⟨i, by rw [rv_int r1], k.int rp q⟩⟩
def intD : D → Option Int
  | .int i => some i
  | .bl k => some (if k then 1 else 0)
  | _ => none
def aInt : AC := fun xs ω Q => ∃ d i, xs = [.d d] ∧ intD d = some i ∧ Q (.d (.int i)) ω
theorem c_int : RefC (fun xs H Q => (∃ i, xs = [.int i] ∧ Q (.int i) H) ∨ ∃ k, xs = [.bl k] ∧ Q (.int (if k then 1 else 0)) H) aInt := ⟨fun F H ω vs xs Q Q' rp rv ⟨d, i, e1, e2, q⟩ k => by
  subst e1
  obtain ⟨v, rfl, r1⟩ := rvs1 rv
  cases d with
  | int j => simp only [intD, Option.some.injEq] at e2; subst e2; exact .inl ⟨_, by rw [rv_int r1], k.int rp q⟩
  | bl j => simp only [intD, Option.some.injEq] at e2; subst e2; exact .inr ⟨j, by rw [rv_bl r1], k.int rp q⟩
  | _ => cases e2⟩
def aTupOf : AC := fun xs ω Q => ∃ x ds, xs = [x] ∧ (datA ω x = some (.lst ds) ∨ x = .d (.tup ds)) ∧ Q (.d (.tup ds)) ω
theorem c_tuple {K : PySem.W.Frag} : RefC (fun xs H Q => ∃ p ys, xs = [.ref p] ∧ ((SqL K H p ys ∧ ∀ l, H l = none → Q (.ref l) (upd H l (.tup ys))) ∨ (SqT K H p ys ∧ Q (.ref p) H))) aTupOf := ⟨fun F H ω vs xs Q Q' rp rv ⟨x, ds, e1, e2, q⟩ k => by
  subst e1
  obtain ⟨v, rfl, r1⟩ := rvs1 rv
  rcases e2 with e2 | rfl
  · obtain ⟨a, us, rfl, q1, q2⟩ := dats_of rp r1 e2
    exact ⟨a, us, rfl, .inl ⟨.inl (.inl q1), k.tup rp q2 q⟩⟩
  · have r2 := r1
    simp only [RV, Dat] at r2
    obtain ⟨a, us, rfl, q1, q2⟩ := r2
    exact ⟨a, us, rfl, .inr ⟨.inl (.inl (cut_same _ _ q1)), k _ ω _ H rp .refl r1 q⟩⟩⟩
def aListOf : AC := fun xs ω Q => ∃ x ds, xs = [x] ∧ (datA ω x = some (.lst ds) ∨ x = .d (.tup ds)) ∧ Q (.d (.lst ds)) ω
theorem c_list {K : PySem.W.Frag} : RefC (fun xs H Q => ∃ p ys, xs = [.ref p] ∧ (SqL K H p ys ∨ SqT K H p ys) ∧ ∀ l, H l = none → Q (.ref l) (upd H l (.lst ys))) aListOf := ⟨fun F H ω vs xs Q Q' rp rv ⟨x, ds, e1, e2, q⟩ k => by
  subst e1
  obtain ⟨v, rfl, r1⟩ := rvs1 rv
  rcases e2 with e2 | rfl
  · obtain ⟨a, us, rfl, q1, q2⟩ := dats_of rp r1 e2
    exact ⟨a, us, rfl, .inl (.inl (.inl q1)), k.lst rp q2 q⟩
  · have r2 := r1
    simp only [RV, Dat] at r2
    obtain ⟨a, us, rfl, q1, q2⟩ := r2
    exact ⟨a, us, rfl, .inr (.inl (.inl (cut_same _ _ q1))), k.lst rp q2 q⟩⟩
end L2
set_option Elab.async false
set_option linter.all false
set_option autoImplicit false
set_option maxRecDepth 100000
set_option maxHeartbeats 1000000
namespace L2
open PySem PySem.Spec PyProof.Rows
def rngA (lo : Int) (n : Nat) : List AV := (List.range n).map fun i => AV.d (.int (lo + (i : Nat)))
def aiRng1 (ta : AA) : AI := fun ρ ω R => ta ρ ω fun xs ω1 => ∃ j : Int, xs = [.d (.int j)] ∧ -(2 ^ 62) ≤ j ∧ j < 2 ^ 62 ∧ R (rngA 0 j.toNat) ω1
section
variable {te : TE} {te' : AE} {ta : TA} {ta' : AA} {K : PySem.W.Frag}
theorem it_list {G : Hp} {ds : List D} {a : Addr} (h : Dat G (.lst ds) (.ref a)) : ItOk G (ds.map AV.d) (Itl K a) := fun F H ω rp s => by
  have h2 := h.same s
  simp only [Dat] at h2
  obtain ⟨_, vs, e, ha, hd⟩ := h2
  cases e
  have hq : SqL K H a vs := .inl (.inl (cut_same _ _ ha))
  have hl := hd.length
  refine ⟨⟨vs, hq, by simp; omega⟩, fun i x hx => ?_⟩
  obtain ⟨v, e1, e2⟩ := (RVs.dats.mpr hd).get hx
  refine ⟨⟨vs, v, hq, e1⟩, fun y H' hy => ?_⟩
  obtain ⟨rfl, hy⟩ := hy
  have := hy vs hq
  rw [e1] at this
  cases this
  exact ⟨rp, .refl, e2⟩
theorem it_tup {G : Hp} {ds : List D} {a : Addr} (h : Dat G (.tup ds) (.ref a)) : ItOk G (ds.map AV.d) (Itt K a) := fun F H ω rp s => by
  have h2 := h.same s
  simp only [Dat] at h2
  obtain ⟨_, vs, e, ha, hd⟩ := h2
  cases e
  have hq : SqT K H a vs := .inl (.inl (cut_same _ _ ha))
  have hl := hd.length
  refine ⟨⟨vs, hq, by simp; omega⟩, fun i x hx => ?_⟩
  obtain ⟨v, e1, e2⟩ := (RVs.dats.mpr hd).get hx
  refine ⟨⟨vs, v, hq, e1⟩, fun y H' hy => ?_⟩
  obtain ⟨rfl, hy⟩ := hy
  have := hy vs hq
  rw [e1] at this
  cases this
  exact ⟨rp, .refl, e2⟩
theorem dat_ref_l {G : Hp} {ds : List D} {v : V} (h : Dat G (.lst ds) v) : ∃ a vs, v = .ref a ∧ G a = some (.lst vs) := by
  simp only [Dat] at h
  obtain ⟨a, vs, e, h, _⟩ := h
  exact ⟨a, vs, e, h⟩
theorem dat_ref_t {G : Hp} {ds : List D} {v : V} (h : Dat G (.tup ds) v) : ∃ a vs, v = .ref a ∧ G a = some (.tup vs) := by
  simp only [Dat] at h
  obtain ⟨a, vs, e, h, _⟩ := h
  exact ⟨a, vs, e, h⟩
theorem it_rng {G : Hp} {lo : Int} {n : Nat} : ItOk G (rngA lo n) (Itr lo n) := fun F H ω rp s => by
  refine ⟨by simp [rngA, Itr], fun i x hx => ?_⟩
  unfold rngA at hx
  rw [List.getElem?_map] at hx
  by_cases hi : i < n
  · rw [List.getElem?_range hi] at hx
    simp only [Option.map_some, Option.some.injEq] at hx
    subst hx
    refine ⟨hi, fun y H' hy => ?_⟩
    obtain ⟨rfl, rfl⟩ := hy
    exact ⟨rp, .refl, by simp [RV, Dat]⟩
  · rw [List.getElem?_eq_none (by simp; omega)] at hx
    cases hx
theorem i_rng1 (h : RefA ta ta') : RefI (iRng1 ta) (aiRng1 ta') := ⟨fun F H ω σ ρ R R' rp rs w k => h.go rp rs w fun xs ω1 vs H1 rp1 fr1 rs1 rv ⟨j, e, h1, h2, q⟩ => by
  subst e
  obtain ⟨v, rfl, r⟩ := rvs1 rv
  exact ⟨j, by rw [rv_int r], h1, h2, k _ ω1 _ H1 rp1 fr1 it_rng q⟩⟩
def seqD : D → Option (List D)
  | .tup ds => some ds
  | .lst ds => some ds
  | _ => none
end
def agTup (n : Nat) (t : AGs) : AG := fun v ρ ω Q => ∃ ds, v = .d (.tup ds) ∧ ds.length = n ∧ t (ds.map AV.d) ρ ω Q
def agSub (to ti : AE) : AG := fun v ρ ω Q => to ρ ω fun o ω1 => ti ρ ω1 fun i ω2 => ∃ l k xs j, o = .r (.ref l) ∧ i = .d (.int k) ∧ ω2 l = some (.own xs) ∧ ixN xs.length k = some j ∧ Q ρ (ω2.put l (.own (xs.set j v)))
section
variable {K : PySem.W.Frag} {n : Nat} {gs : TGs} {gs' : AGs} {to ti : TE} {to' ti' : AE}
theorem g_tup (h : RefGs gs gs') : RefG (gTup K n gs) (agTup n gs') := ⟨fun F H ω σ ρ v a Q Q' rp rs rv ⟨ds, e, hn, q⟩ k => by
  subst e
  simp only [RV, Dat] at rv
  obtain ⟨b, vs, rfl, h1, h2⟩ := rv
  exact ⟨b, vs, rfl, .inl (.inl (cut_same _ _ h1)), by rw [h2.length]; exact hn, h.run F H ω σ ρ vs _ Q Q' rp rs (RVs.dats.mpr h2) q k⟩⟩
theorem g_sub (ho : RefE to to') (hi : RefE ti ti') : RefG (gSub to ti rSetL) (agSub to' ti') := ⟨fun F H ω σ ρ v a Q Q' rp rs rv w k =>
  ho.go rp rs w fun x ω1 u H1 rp1 fr1 rs1 rv1 q1 => hi.go rp1 rs1 q1 fun y ω2 u2 H2 rp2 fr2 rs2 rv2 ⟨l, j, xs, i, e1, e2, e3, e4, q⟩ => by
    subst e1 e2
    have e5 : u = .ref l := rv1
    obtain ⟨vs, z1, z2⟩ := rp2.own l xs e3
    have rv' := rv.same (fr1.trans fr2).same
    obtain ⟨rp3, fr3⟩ := rp2.write e3 (z2.set i rv')
    have fr := (fr1.trans fr2).trans fr3
    exact ⟨l, vs, j, i, e5, rv_int rv2, z1, by rw [z2.length]; exact e4, k ρ _ σ _ rp3 fr (rs.same fr.same) q⟩⟩
end
def cutL {α : Type} (xs : List α) (lo hi : Option Int) : List α := (xs.drop (HT.sIx xs.length 0 lo)).take (HT.sIx xs.length xs.length hi - HT.sIx xs.length 0 lo)
abbrev AO := SA → Om → (Option Int → Om → Prop) → Prop
def aoNone : AO := fun _ ω Q => Q none ω
def aoSome (t : AE) : AO := fun ρ ω Q => t ρ ω fun x ω1 => ∃ i, x = .d (.int i) ∧ Q (some i) ω1
theorem Dats.cut {G : Hp} {ds : List D} {vs : List V} {lo hi : Option Int} (h : Dats G ds vs) : Dats G (cutL ds lo hi) (cutV vs lo hi) := by
  unfold cutL cutV
  rw [h.length]
  exact (h.drop _).take _
section
variable {K : PySem.W.Frag} {te ts : TE} {te' ts' : AE} {tl th : TO} {tl' th' : AO}
theorem n_none : Ref REq tNoPart aoNone := ⟨fun F H ω σ ρ Q Q' rp rs w k => k none ω none H rp .refl rfl w⟩
theorem n_some (h : RefE te te') : Ref REq (tPart te) (aoSome te') := ⟨fun F H ω σ ρ Q Q' rp rs w k => h.go rp rs w fun x ω1 v H1 rp1 fr1 rs1 rv ⟨i, e, q⟩ => by
  subst e; exact ⟨i, rv_int rv, k _ ω1 _ H1 rp1 fr1 rfl q⟩⟩
end
def aAppend (to : AE) (t : AA) : AE := fun ρ ω Q => to ρ ω fun x ω1 => ∃ l, x = .r (.ref l) ∧ (∃ zs, ω1 l = some (.own zs)) ∧ t ρ ω1 fun ys ω2 => ∃ xs y, ys = [y] ∧ ω2 l = some (.own xs) ∧ xs.length < sizeLine ∧ Q (.d .non) (ω2.put l (.own (xs ++ [y])))
def aClear (to : AE) : AE := fun ρ ω Q => to ρ ω fun x ω1 => ∃ l xs, x = .r (.ref l) ∧ ω1 l = some (.own xs) ∧ Q (.d .non) (ω1.put l (.own []))
section
variable {K : PySem.W.Frag} {to : TE} {to' : AE} {t : TA} {t' : AA}
theorem e_append (ho : RefE to to') (ht : RefA t t') : RefE (tBM K "list" rAppend to t) (aAppend to' t') := ⟨fun F H ω σ ρ Q Q' rp rs w k =>
  ho.go rp rs w fun x ω1 v H1 rp1 fr1 rs1 rv1 ⟨l, e, ⟨zs, hz⟩, q1⟩ => by
    subst e
    cases (show v = .ref l from rv1)
    obtain ⟨us, z1, _⟩ := rp1.own l zs hz
    refine ⟨.inl ⟨rfl, us, .inl (.inl z1)⟩, ht.go rp1 rs1 q1 fun ys ω2 vs H2 rp2 fr2 rs2 rv2 ⟨xs, y, e1, e2, e3, q⟩ => ?_⟩
    subst e1
    obtain ⟨u, rfl, r⟩ := rvs1 rv2
    obtain ⟨ws, z3, z4⟩ := rp2.own l xs e2
    obtain ⟨rp3, fr3⟩ := rp2.write e2 (z4.append (.one r))
    exact ⟨l, ws, u, rfl, rfl, z3, by rw [z4.length]; exact e3, k _ _ _ _ rp3 ((fr1.trans fr2).trans fr3) (by simp [RV, Dat]) q⟩⟩
theorem e_clear (ho : RefE to to') : RefE (tBM0 K "list" rClear to) (aClear to') := ⟨fun F H ω σ ρ Q Q' rp rs w k =>
  ho.go rp rs w fun x ω1 v H1 rp1 fr1 rs1 rv1 ⟨l, xs, e, hz, q⟩ => by
    subst e
    cases (show v = .ref l from rv1)
    obtain ⟨us, z1, z2⟩ := rp1.own l xs hz
    obtain ⟨rp3, fr3⟩ := rp1.write (ys := []) (vs := []) hz rfl
    exact ⟨.inl ⟨rfl, us, .inl (.inl z1)⟩, l, us, rfl, rfl, z1, k _ _ _ _ rp3 (fr1.trans fr3) (by simp [RV, Dat]) q⟩⟩
end
def aSorted : AC := fun xs ω Q => ∃ (x : AV) (W : List (List Int)), xs = [x] ∧ datA ω x = some (.lst (W.map wdD)) ∧ (∀ y ∈ W, y ≠ []) ∧ W.length < 64 ∧ Q (.d (.lst ((srtW W).map wdD))) ω
theorem Rep.stays {F : Fs} {H : Hp} {ω : Om} (rp : Rep F H ω) : TSame H (cut F H ω) := fun b xs e => by
  refine cut_some.mpr ⟨?_, ?_, e⟩
  · cases y : ω b with
    | none => rfl
    | some c => cases c with
      | frz ds => rfl
      | own ys =>
        obtain ⟨vs, e1, _⟩ := rp.own b ys y
        rw [e] at e1; cases e1
      | dic ys =>
        obtain ⟨vs, e1, _⟩ := rp.dic b ys y
        rw [e] at e1; cases e1
  · cases z : F b with
    | false => rfl
    | true =>
      obtain ⟨_, vs, q⟩ := rp.hid b z
      rw [e] at q; cases q
theorem c_sorted : RefC (fun xs H Q => ∃ p W, xs = [.ref p] ∧ LD H p (W.map wdD) ∧ (∀ x ∈ W, x ≠ []) ∧ W.length < 64 ∧ ∀ l H', H l = none → Same H H' → LD H' l ((srtW W).map wdD) → Q (.ref l) H') aSorted := ⟨fun F H ω vs xs Q Q' rp rv ⟨x, W, e1, e2, e3, e4, q⟩ k => by
  subst e1
  obtain ⟨v, rfl, r⟩ := rvs1 rv
  obtain ⟨a, us, rfl, z1, z2⟩ := dats_of rp r e2
  refine ⟨a, W, rfl, ⟨noLs_wds _, us, z1, z2.same cut_same⟩, e3, e4, fun l H' hl s ld => ?_⟩
  obtain ⟨rp2, fr2⟩ := rp.later s
  obtain ⟨hn, ws, y1, y2⟩ := ld
  obtain ⟨f1, f2⟩ := rp.free hl
  refine k _ ω _ H' rp2 fr2 ?_ q
  simp only [RV, Dat]
  exact ⟨l, ws, rfl, cut_some.mpr ⟨by rw [f1]; rfl, f2, y1⟩, Dats.t rp2.stays hn y2⟩⟩
def tyD : D → String
  | .non => "NoneType" | .bl _ => "bool" | .int _ => "int" | .str _ => "str" | .tup _ => "tuple" | .lst _ => "list"
def isD (T : String) (d : D) : Bool := tyD d == T || (tyD d == "bool" && T == "int")
def aIsA : AC := fun xs ω Q => ∃ x d T, xs = [x, .r (.ty T)] ∧ datA ω x = some d ∧ T ∈ kinds ∧ Q (.d (.bl (isD T d))) ω
theorem ty_of {H : Hp} {d : D} {v : V} (h : Dat H d v) : tyName H v = some (tyD d) := by
  cases d <;> simp only [Dat] at h
  all_goals first
    | (subst h; rfl)
    | (obtain ⟨a, xs, rfl, h, _⟩ := h; simp [tyName, h, tyD])
theorem c_isA : RefC (fun xs H Q => ∃ x T, xs = [x, .ty T] ∧ T ∈ kinds ∧ (tyName H x).isSome = true ∧ Q (.bl (isA H x T)) H) aIsA := ⟨fun F H ω vs xs Q Q' rp rv ⟨x, d, T, e1, e2, e3, q⟩ k => by
  subst e1
  obtain ⟨v, u, rfl, r1, r2⟩ := rvs2 rv
  cases (show u = .ty T from r2)
  have ht := ty_of (dat_of rp r1 e2)
  refine ⟨v, T, rfl, e3, by rw [ht]; rfl, ?_⟩
  have : isA H v T = isD T d := by simp [isA, ht, isD]
  rw [this]
  exact k.bl rp q⟩
def aCatL : A2 := fun x y ω Q => ∃ ds es, datA ω x = some (.lst ds) ∧ datA ω y = some (.lst es) ∧ ds.length + es.length ≤ sizeLine ∧ Q (.d (.lst (ds ++ es))) ω
theorem o_catL : Ref2 rCat aCatL := ⟨fun F H ω v u x y Q Q' rp h1 h2 ⟨ds, es, e1, e2, z, q⟩ k => by
  obtain ⟨a, vs, rfl, z1, z2⟩ := dats_of rp h1 e1
  obtain ⟨b, us, rfl, z3, z4⟩ := dats_of rp h2 e2
  exact ⟨a, b, vs, us, rfl, rfl, z1, z3, by rw [z2.length, z4.length]; exact z, k.lst rp (z2.append z4) q⟩⟩
def aRepL : A2 := fun x y ω Q => ∃ ds k, datA ω x = some (.lst ds) ∧ y = .d (.int k) ∧ -(2 ^ 63) ≤ k ∧ k < 2 ^ 63 ∧ ds.length * k.toNat ≤ sizeLine ∧ Q (.d (.lst (List.replicate k.toNat ds).flatten)) ω
theorem Dats.rep {G : Hp} {ds : List D} {vs : List V} (h : Dats G ds vs) : ∀ n : Nat, Dats G (List.replicate n ds).flatten (List.replicate n vs).flatten
  | 0 => by simp [Dats]
  | n + 1 => by
    simp only [List.replicate_succ, List.flatten_cons]
    exact h.append (h.rep n)
theorem o_repL : Ref2 rRep aRepL := ⟨fun F H ω v u x y Q Q' rp h1 h2 ⟨ds, k', e1, e2, b1, b2, z, q⟩ k => by
  subst e2
  obtain ⟨a, vs, rfl, z1, z2⟩ := dats_of rp h1 e1
  exact ⟨a, k', vs, rfl, rv_int h2, z1, b1, b2, by rw [z2.length]; exact z, k.lst rp (z2.rep _) q⟩⟩
end L2
set_option Elab.async false
set_option linter.all false
set_option autoImplicit false
set_option maxRecDepth 100000
set_option maxHeartbeats 1000000
namespace L2
open PySem PySem.Spec PyProof.Rows
section
variable {X : Cx} {tg : Expr}
def rOr (r1 r2 : R2) : R2 := fun x y H Q => r1 x y H Q ∨ r2 x y H Q
theorem op_alt {f : Value → Value → Sem Value} {r1 r2 : R2} (h1 : OpR X f r1) (h2 : OpR X f r2) : OpR X f (rOr r1 r2) := fun pins s σ H x y v u Q I rx ry h => by
  rcases h with h | h
  · exact h1 pins s σ H x y v u Q I rx ry h
  · exact h2 pins s σ H x y v u Q I rx ry h
def rSlAny (K : PySem.W.Frag) : V → Option Int → Option Int → Hp → VK → Prop := fun x lo hi H Q => rSlL K x lo hi H Q ∨ rSlTA K x lo hi H Q
theorem sl_any (K : PySem.W.Frag) (hK : X.K = K) : SlR X (rSlAny K) := by
  subst hK
  intro pins s σ H x v vl vu lo hi sl Q I rx hs pl pu h
  rcases h with h | h
  · exact sl_list pins s σ H x v vl vu lo hi sl Q I rx hs pl pu h
  · exact sl_tupA pins s σ H x v vl vu lo hi sl Q I rx hs pl pu h
def iSeq (K : PySem.W.Frag) (tl : TE) : TI := fun σ H R => tl σ H fun x H1 => (∃ a, x = .ref a ∧ (∃ xs, SqL K H1 a xs) ∧ R (Itl K a) H1) ∨ ∃ a, x = .ref a ∧ (∃ xs, SqT K H1 a xs) ∧ R (Itt K a) H1
theorem pi_seq (K : PySem.W.Frag) (hK : X.K = K) {l : Expr} {tl : TE} (hl : PE X l tl) : PI X tg l (iSeq K tl) := by
  subst hK
  intro pins s σ H R I h
  refine thn (hl pins s σ H _ I h) fun v s1 ⟨x, H1, I1, r1, q1⟩ => ?_
  rcases q1 with q1 | q1
  · obtain ⟨a, e, ⟨xs, hq⟩, q⟩ := q1
    subst e
    cases r1
    obtain ⟨its, rv, p, hz⟩ := I1.list hq
    refine wpAny_pyIter_list p.isList ?_
    refine ⟨s1.heap.objs.size, [s1.heap.objs.size], _, _, H1, rfl, I1.kept (t' := s1.toks) fun b o e => Heap.get?_push_of_some _ e, turn_list a _, ⟨_, Heap.get?_push_size _ rfl, rfl, rfl⟩, fun b hb => ?_, q⟩
    have e : b = s1.heap.objs.size := by simpa using hb
    subst e
    exact I1.fpOk (Nat.le_refl _) (I1.hok.fresh (Nat.le_refl _))
  · obtain ⟨a, e, ⟨xs, hq⟩, q⟩ := q1
    subst e
    cases r1
    obtain ⟨its, rv, p, hz⟩ := I1.tuple hq
    refine wpAny_pyIter_tuple (show s1.heap.IsTuple a its.toArray from p) ?_
    refine ⟨s1.heap.objs.size, [s1.heap.objs.size], _, _, H1, rfl, I1.kept (t' := s1.toks) fun b o e => Heap.get?_push_of_some _ e, turn_tuple a _, ⟨_, Heap.get?_push_size _ rfl, rfl, rfl⟩, fun b hb => ?_, q⟩
    have e : b = s1.heap.objs.size := by simpa using hb
    subst e
    exact I1.fpOk (Nat.le_refl _) (I1.hok.fresh (Nat.le_refl _))
def tAndG (K : PySem.W.Frag) (ta tb : TE) : TE := fun σ H Q => ta σ H fun x H1 => ∃ c, TruV K x H1 c ∧ if c = true then tb σ H1 Q else Q x H1
variable {a b : Expr} {rest : List Expr} {pos : Pos} {ta tb : TE}
theorem pe_andG (K : PySem.W.Frag) (hK : X.K = K) (ha : PE X a ta) (hb : PE X (.BoolOp .And (b :: rest) pos) tb) : PE X (.BoolOp .And (a :: b :: rest) pos) (tAndG K ta tb) := .mk <| by
  subst hK
  intro pins s σ H Q I h
  refine BoolOp_and (thn (ha pins s σ H _ I h) fun v s1 ⟨x, H1, I1, r1, q1⟩ => ?_)
  refine thn (tru_ok pins s1 σ H1 x v (fun c H2 => H2 = H1 ∧ if c = true then tb σ H1 Q else Q x H1) I1 r1 ?_) fun c s2 ⟨H2, I2, e, q2⟩ => ?_
  · obtain ⟨c, hc, q⟩ := q1
    exact ⟨c, hc, rfl, q⟩
  · subst e
    cases c with
    | true => rw [if_pos rfl] at q2; exact hb pins s2 σ H2 Q I2 q2
    | false => rw [if_neg Bool.false_ne_true] at q2; exact ⟨x, H2, I2, r1, q2⟩
end
def aAndG (ta tb : AE) : AE := fun ρ ω Q => ta ρ ω fun x ω1 => ∃ c, truA ω1 x = some c ∧ if c = true then tb ρ ω1 Q else Q x ω1
def aSl (te : AE) (tl th : AO) : AE := fun ρ ω Q => te ρ ω fun x ω1 => tl ρ ω1 fun lo ω2 => th ρ ω2 fun hi ω3 => match x with
  | .d (.tup ds) => Q (.d (.tup (cutL ds lo hi))) ω3
  | x => ∃ ds, datA ω3 x = some (.lst ds) ∧ Q (.d (.lst (cutL ds lo hi))) ω3
def aiSeq (te : AE) : AI := fun ρ ω R => te ρ ω fun x ω1 => frzA ω1 x fun d ω2 => ∃ ds, seqD d = some ds ∧ R (ds.map AV.d) ω2
def aAdd : A2 := fun x y ω Q => match x with
  | .d (.int i) => ∃ j, y = .d (.int j) ∧ Q (.d (.int (i + j))) ω
  | .d (.tup ds) => ∃ es, y = .d (.tup es) ∧ ds.length + es.length ≤ sizeLine ∧ Q (.d (.tup (ds ++ es))) ω
  | x => ∃ ds es, datA ω x = some (.lst ds) ∧ datA ω y = some (.lst es) ∧ ds.length + es.length ≤ sizeLine ∧ Q (.d (.lst (ds ++ es))) ω
def aMul : A2 := fun x y ω Q => match x with
  | .d (.int i) => ∃ j, y = .d (.int j) ∧ CMul i j ∧ Q (.d (.int (i * j))) ω
  | x => aRepL x y ω Q
section
variable {K : PySem.W.Frag} {te ta tb : TE} {te' ta' tb' : AE} {tl th : TO} {tl' th' : AO} {sa : TA} {sa' : AA}
theorem e_andG (ha : RefE ta ta') (hb : RefE tb tb') : RefE (tAndG K ta tb) (aAndG ta' tb') := ⟨fun F H ω σ ρ Q Q' rp rs h k =>
  ha.go rp rs h fun x ω1 v H1 rp1 fr1 rs1 rv1 ⟨c, e, q⟩ => ⟨c, tru_of rp1 rv1 e, by
    cases c with
    | false => rw [if_neg Bool.false_ne_true] at q ⊢; exact k x ω1 v H1 rp1 fr1 rv1 q
    | true => rw [if_pos rfl] at q ⊢; exact hb.run F H1 ω1 σ ρ Q Q' rp1 rs1 q (k.fr fr1)⟩⟩
theorem e_sl (he : RefE te te') (hl : Ref REq tl tl') (hh : Ref REq th th') : RefE (tSl (rSlAny K) te tl th) (aSl te' tl' th') := ⟨fun F H ω σ ρ Q Q' rp rs w k =>
  he.go rp rs w fun x ω1 v H1 rp1 fr1 rs1 rv1 q1 => hl.go rp1 rs1 q1 fun lo ω2 lo' H2 rp2 fr2 rs2 e2 q2 => hh.go rp2 rs2 q2 fun hi ω3 hi' H3 rp3 fr3 rs3 e3 q => by
    cases (show lo = lo' from e2)
    cases (show hi = hi' from e3)
    have r := rv1.same (fr2.trans fr3).same
    have k3 := k.fr ((fr1.trans fr2).trans fr3)
    have ls : (∃ ds, datA ω3 x = some (.lst ds) ∧ Q' (.d (.lst (cutL ds lo hi))) ω3) → rSlAny K v lo hi H3 Q := fun ⟨ds, e, q⟩ => by
      obtain ⟨a, vs, rfl, z1, z2⟩ := dats_of rp3 r e
      exact .inl ⟨a, vs, rfl, .inl (.inl z1), k3.lst rp3 z2.cut q⟩
    cases x with
    | d x => cases x with
      | tup ds =>
        refine .inr ?_
        have r' := r
        simp only [RV, Dat] at r
        obtain ⟨a, vs, rfl, z1, z2⟩ := r
        refine ⟨a, vs, rfl, .inl (.inl (cut_same _ _ z1)), ?_⟩
        by_cases hw : HT.sIx vs.length 0 lo = 0 ∧ HT.sIx vs.length vs.length hi = vs.length
        · rw [if_pos hw]
          have : cutL ds lo hi = ds := by
            unfold cutL
            rw [← z2.length, hw.1, hw.2, List.drop_zero, Nat.sub_zero, z2.length, List.take_length]
          replace q : Q' (.d (.tup (cutL ds lo hi))) ω3 := q
          rw [this] at q
          exact k3 _ ω3 _ H3 rp3 .refl r' q
        · rw [if_neg hw]
          exact k3.tup rp3 z2.cut q
      | _ => exact ls q
    | _ => exact ls q⟩
theorem i_seq (h : RefE te te') : RefI (iSeq K te) (aiSeq te') := ⟨fun F H ω σ ρ R R' rp rs w k => h.go rp rs w fun x ω1 v H1 rp1 fr1 rs1 rv q => by
  obtain ⟨d, ω2, rp2, fr2, hd, ds, hs, q2⟩ := frz_of rp1 rv q
  cases d with
  | lst es =>
    cases hs
    obtain ⟨a, vs, rfl, ha⟩ := dat_ref_l hd
    exact .inl ⟨a, rfl, ⟨vs, .inl (.inl (cut_same _ _ ha))⟩, k _ ω2 _ H1 rp2 (fr1.trans fr2) (it_list hd) q2⟩
  | tup es =>
    cases hs
    obtain ⟨a, vs, rfl, ha⟩ := dat_ref_t hd
    exact .inr ⟨a, rfl, ⟨vs, .inl (.inl (cut_same _ _ ha))⟩, k _ ω2 _ H1 rp2 (fr1.trans fr2) (it_tup hd) q2⟩
  | _ => cases hs⟩
theorem o_add : Ref2 (rOr (rI0 fun i j => .int (i + j)) (rOr rCat3 rCat)) aAdd := ⟨fun F H ω v u x y Q Q' rp h1 h2 q k => by
  have ls : (∃ ds es, datA ω x = some (.lst ds) ∧ datA ω y = some (.lst es) ∧ ds.length + es.length ≤ sizeLine ∧ Q' (.d (.lst (ds ++ es))) ω) → rOr (rI0 fun i j => .int (i + j)) (rOr rCat3 rCat) v u H Q := fun q =>
    .inr (.inr (o_catL.run F H ω v u x y Q Q' rp h1 h2 q k))
  cases x with
  | d x => cases x with
    | int i =>
      obtain ⟨j, rfl, q⟩ := q
      exact .inl ⟨i, j, rv_int h1, rv_int h2, k.int rp q⟩
    | tup ds =>
      obtain ⟨es, rfl, z, q⟩ := q
      exact .inr (.inl (o_cat3.run F H ω v u _ _ Q Q' rp h1 h2 ⟨ds, es, rfl, rfl, z, q⟩ k))
    | _ => exact ls q
  | _ => exact ls q⟩
theorem o_mul : Ref2 (rOr (rI CMul fun i j => .int (i * j)) rRep) aMul := ⟨fun F H ω v u x y Q Q' rp h1 h2 q k => by
  have ls : aRepL x y ω Q' → rOr (rI CMul fun i j => .int (i * j)) rRep v u H Q := fun q => .inr (o_repL.run F H ω v u x y Q Q' rp h1 h2 q k)
  cases x with
  | d x => cases x with
    | int i =>
      obtain ⟨j, rfl, c, q⟩ := q
      exact .inl ⟨i, j, rv_int h1, rv_int h2, c, k.int rp q⟩
    | _ => exact ls q
  | _ => exact ls q⟩
end
def startA (N : List Str) (xs : List AV) : SA := xs.map some ++ List.replicate (N.length - xs.length) none
theorem RS.start {G : Hp} {N : List Str} {xs : List AV} {vs : List V} (h : RVs G xs vs) : RS G (startA N xs) (start N vs) := by
  refine ⟨by simp [startA, L2.start, h.length], fun i a e => ?_⟩
  unfold startA at e
  unfold L2.start
  by_cases hi : i < xs.length
  · rw [List.getElem?_append_left (by simpa using hi), List.getElem?_map] at e
    rw [List.getElem?_append_left (by simpa [h.length] using hi), List.getElem?_map]
    cases z : xs[i]? with
    | none => rw [z] at e; simp at e
    | some b =>
      rw [z] at e
      simp at e
      subst e
      obtain ⟨v, e1, e2⟩ := h.get z
      exact ⟨v, by rw [e1]; rfl, e2⟩
  · rw [List.getElem?_append_right (by simpa using hi)] at e
    have := List.mem_of_getElem? e
    rw [List.mem_replicate] at this
    cases this.2
theorem Fun.okA {P : Program} {w : World} {K : PySem.W.Frag} {mg : Str → Option Value} {base : Heap} {x qual : Str} {st : Stmt} {f : Addr} {fd : FuncData} {N ps : List Str} {k : Nat} {sp : ASp} (F : Fun K x qual st f fd) (S : FnScope N ps (defScope st)) (len : ∀ xs ω Q, sp xs ω Q → xs.length = ps.length)
    (hbody : ∀ (cdv : Value) (A : Around) (outer : List Env) (s : Shared) (H : Hp) (E : XK), Room k (A.deeper (envOfC qual (defScope st) s.heap.objs.size f cdv)) →
      ∃ t t', PSs (cxOf CX0 P w K mg base N qual (defScope st) f cdv A outer s H E).nox (defBody st) t ∧ RefS t t' ∧ ∀ xs ω Q', sp xs ω Q' → t' { nx := fun _ ω' => Q' (.d .non) ω', rt := Q' } (startA N xs) ω) : FnOk P w K mg base CX0 (k + 1) f fd ps (lift sp) := by
  refine F.ok S (fun vs H Q E h => ?_) (fun cdv A outer s H vs Q E hr h => ?_)
  · obtain ⟨F, xs, ω, Q', rp, rv, h, _⟩ := h
    rw [rv.length, len xs ω Q' h]
  · obtain ⟨t, t', h1, h2, h3⟩ := hbody cdv A outer s H E hr
    obtain ⟨F, xs, ω, Q', rp, rv, h, kq⟩ := h
    refine ⟨t, h1, h2.run F H ω _ _ _ _ rp (RS.start rv) (h3 xs ω Q' h) ⟨?_, kq, fun _ _ _ _ _ _ _ z => z.elim, fun _ _ _ _ _ _ _ z => z.elim⟩⟩
    exact fun ρ' ω' σ' H' e1 e2 e3 q => kq (.d .non) ω' .non H' e1 e2 (by simp [RV, Dat]) q
end L2
set_option Elab.async false
set_option linter.all false
set_option autoImplicit false
set_option maxRecDepth 100000
set_option maxHeartbeats 1000000
namespace L2
open PySem PySem.Spec PyProof.Rows
theorem aNext_eq (D : AEnds) (ρ : SA) (ω : Om) : aNext D ρ ω = (D.nx ρ ω) := rfl
theorem aSeq_eq (t u : AS) (D : AEnds) (ρ : SA) (ω : Om) : aSeq t u D ρ ω = (t { D with nx := u D } ρ ω) := rfl
theorem aDrop_eq (te : AE) (D : AEnds) (ρ : SA) (ω : Om) : aDrop te D ρ ω = (te ρ ω fun _ ω1 => D.nx ρ ω1) := rfl
theorem aRet_eq (te : AE) (D : AEnds) (ρ : SA) (ω : Om) : aRet te D ρ ω = (te ρ ω D.rt) := rfl
theorem aIfS_eq (c : AT) (t u : AS) (D : AEnds) (ρ : SA) (ω : Om) : aIfS c t u D ρ ω = (c ρ ω fun b ω1 => if b = true then t D ρ ω1 else u D ρ ω1) := rfl
theorem aAsg_eq (te : AE) (g : AG) (D : AEnds) (ρ : SA) (ω : Om) : aAsg te g D ρ ω = (te ρ ω fun x ω1 => g x ρ ω1 D.nx) := rfl
theorem agName_eq (i : Nat) (v : AV) (ρ : SA) (ω : Om) (Q : SA → Om → Prop) : agName i v ρ ω Q = (Q (ρ.set i (some v)) ω) := rfl
theorem agNil_eq (vs : List AV) (ρ : SA) (ω : Om) (Q : SA → Om → Prop) : agNil vs ρ ω Q = (vs = [] ∧ Q ρ ω) := rfl
theorem agCons_eq (t : AG) (u : AGs) (vs : List AV) (ρ : SA) (ω : Om) (Q : SA → Om → Prop) : agCons t u vs ρ ω Q = (∃ v r, vs = v :: r ∧ t v ρ ω fun ρ' ω' => u r ρ' ω' Q) := rfl
theorem aFor_eq (wi : AI) (g : AG) (tb : AS) (D : AEnds) (ρ : SA) (ω : Om) : aFor wi g tb D ρ ω = (wi ρ ω fun as ω1 => aForL g tb D as ρ ω1) := rfl
theorem aNoTest_eq (z0 : SA) (ω : Om) (Q : Bool → Om → Prop) : aNoTest z0 ω Q = (Q true ω) := rfl
theorem aLast_eq (te : AE) (xs : List AV) (ρ : SA) (ω : Om) (K : List AV → SA → Om → Prop) : aLast te xs ρ ω K = (te ρ ω fun y ω1 => xs.length < sizeLine ∧ K (xs ++ [y]) ρ ω1) := rfl
theorem aVar_eq (i : Nat) (ρ : SA) (ω : Om) (Q : AV → Om → Prop) : aVar i ρ ω Q = (∃ a, ρ[i]? = some (some a) ∧ Q a ω) := rfl
theorem aC_eq (d : D) (z0 : SA) (ω : Om) (Q : AV → Om → Prop) : aC d z0 ω Q = (Q (.d d) ω) := rfl
theorem aOp_eq (r : A2) (ta tb : AE) (ρ : SA) (ω : Om) (Q : AV → Om → Prop) : aOp r ta tb ρ ω Q = (ta ρ ω fun x ω1 => tb ρ ω1 fun y ω2 => r x y ω2 Q) := rfl
theorem aNil_eq (z0 : SA) (ω : Om) (Q : List AV → Om → Prop) : aNil z0 ω Q = (Q [] ω) := rfl
theorem aCons_eq (ta : AE) (tr : AA) (ρ : SA) (ω : Om) (Q : List AV → Om → Prop) : aCons ta tr ρ ω Q = (ta ρ ω fun x ω1 => tr ρ ω1 fun xs ω2 => Q (x :: xs) ω2) := rfl
theorem aTup_eq (t : AA) (ρ : SA) (ω : Om) (Q : AV → Om → Prop) : aTup t ρ ω Q = (t ρ ω fun xs ω1 => xs.length ≤ sizeLine ∧ ∃ ds, und xs = some ds ∧ Q (.d (.tup ds)) ω1) := rfl
theorem aLst_eq (t : AA) (ρ : SA) (ω : Om) (Q : AV → Om → Prop) : aLst t ρ ω Q = (t ρ ω fun xs ω1 => xs.length ≤ sizeLine ∧ ∃ ds, und xs = some ds ∧ Q (.d (.lst ds)) ω1) := rfl
theorem aLstO_eq (t : AA) (ρ : SA) (ω : Om) (Q : AV → Om → Prop) : aLstO t ρ ω Q = (t ρ ω fun xs ω1 => xs.length ≤ sizeLine ∧ ∀ p, ω1 p = none → Q (.r (.ref p)) (ω1.put p (.own xs))) := rfl
theorem aCall_eq (sp : ASp) (t : AA) (ρ : SA) (ω : Om) (Q : AV → Om → Prop) : aCall sp t ρ ω Q = (t ρ ω fun xs ω1 => sp xs ω1 Q) := rfl
theorem aTest_eq (t : AE) (ρ : SA) (ω : Om) (Q : Bool → Om → Prop) : aTest t ρ ω Q = (t ρ ω fun x ω1 => ∃ k, x = .d (.bl k) ∧ Q k ω1) := rfl
theorem aAnd_eq (t u : AT) (ρ : SA) (ω : Om) (Q : Bool → Om → Prop) : aAnd t u ρ ω Q = (t ρ ω fun c ω1 => if c = true then u ρ ω1 Q else Q false ω1) := rfl
theorem aOr_eq (t u : AT) (ρ : SA) (ω : Om) (Q : Bool → Om → Prop) : aOr t u ρ ω Q = (t ρ ω fun c ω1 => if c = true then Q true ω1 else u ρ ω1 Q) := rfl
theorem aNot_eq (t : AT) (ρ : SA) (ω : Om) (Q : Bool → Om → Prop) : aNot t ρ ω Q = (t ρ ω fun c ω1 => Q (!c) ω1) := rfl
theorem aRaw_eq (v : V) (z0 : SA) (ω : Om) (Q : AV → Om → Prop) : aRaw v z0 ω Q = (Q (.r v) ω) := rfl
theorem aTru_eq (ta : AE) (ρ : SA) (ω : Om) (Q : Bool → Om → Prop) : aTru ta ρ ω Q = (ta ρ ω fun x ω1 => ∃ k, truA ω1 x = some k ∧ Q k ω1) := rfl
theorem aI0_eq (f : Int → Int → D) (x : AV) (y : AV) (ω : Om) (Q : AV → Om → Prop) : aI0 f x y ω Q = (∃ i j, x = .d (.int i) ∧ y = .d (.int j) ∧ Q (.d (f i j)) ω) := rfl
theorem aI_eq (C : Int → Int → Prop) (f : Int → Int → D) (x : AV) (y : AV) (ω : Om) (Q : AV → Om → Prop) : aI C f x y ω Q = (∃ i j, x = .d (.int i) ∧ y = .d (.int j) ∧ C i j ∧ Q (.d (f i j)) ω) := rfl
theorem aEqD_eq (neg : Bool) (x : AV) (y : AV) (ω : Om) (Q : AV → Om → Prop) : aEqD neg x y ω Q = (∃ a b, datA ω x = some a ∧ datA ω y = some b ∧ dep a ≤ 100 ∧ Q (.d (.bl (if neg then !eqD a b else eqD a b))) ω) := rfl
theorem aIn_eq (neg : Bool) (x : AV) (y : AV) (ω : Om) (Q : AV → Om → Prop) : aIn neg x y ω Q = (∃ a b ds, datA ω x = some a ∧ datA ω y = some b ∧ (b = .lst ds ∨ b = .tup ds) ∧ deps ds ≤ 90 ∧ Q (.d (.bl (if neg then !inD a ds else inD a ds))) ω) := rfl
theorem aIx_eq (x : AV) (y : AV) (ω : Om) (Q : AV → Om → Prop) : aIx x y ω Q = (∃ xs i a, (lstA ω x = some xs ∨ tupA x = some xs) ∧ y = .d (.int i) ∧ atI xs i = some a ∧ Q a ω) := rfl
theorem aLen_eq (xs : List AV) (ω : Om) (Q : AV → Om → Prop) : aLen xs ω Q = (∃ x n, xs = [x] ∧ lenA ω x = some n ∧ Q (.d (.int n)) ω) := rfl
theorem aF2_eq (f : Int → Int → Int) (xs : List AV) (ω : Om) (Q : AV → Om → Prop) : aF2 f xs ω Q = (∃ i j, xs = [.d (.int i), .d (.int j)] ∧ Q (.d (.int (f i j))) ω) := rfl
theorem aF1_eq (f : Int → Int) (xs : List AV) (ω : Om) (Q : AV → Om → Prop) : aF1 f xs ω Q = (∃ i, xs = [.d (.int i)] ∧ Q (.d (.int (f i))) ω) := rfl
theorem aInt_eq (xs : List AV) (ω : Om) (Q : AV → Om → Prop) : aInt xs ω Q = (∃ d i, xs = [.d d] ∧ intD d = some i ∧ Q (.d (.int i)) ω) := rfl
theorem aTupOf_eq (xs : List AV) (ω : Om) (Q : AV → Om → Prop) : aTupOf xs ω Q = (∃ x ds, xs = [x] ∧ (datA ω x = some (.lst ds) ∨ x = .d (.tup ds)) ∧ Q (.d (.tup ds)) ω) := rfl
theorem aListOf_eq (xs : List AV) (ω : Om) (Q : AV → Om → Prop) : aListOf xs ω Q = (∃ x ds, xs = [x] ∧ (datA ω x = some (.lst ds) ∨ x = .d (.tup ds)) ∧ Q (.d (.lst ds)) ω) := rfl
theorem aiRng1_eq (ta : AA) (ρ : SA) (ω : Om) (R : List AV → Om → Prop) : aiRng1 ta ρ ω R = (ta ρ ω fun xs ω1 => ∃ j : Int, xs = [.d (.int j)] ∧ -(2 ^ 62) ≤ j ∧ j < 2 ^ 62 ∧ R (rngA 0 j.toNat) ω1) := rfl
theorem agTup_eq (n : Nat) (t : AGs) (v : AV) (ρ : SA) (ω : Om) (Q : SA → Om → Prop) : agTup n t v ρ ω Q = (∃ ds, v = .d (.tup ds) ∧ ds.length = n ∧ t (ds.map AV.d) ρ ω Q) := rfl
theorem agSub_eq (to ti : AE) (v : AV) (ρ : SA) (ω : Om) (Q : SA → Om → Prop) : agSub to ti v ρ ω Q = (to ρ ω fun o ω1 => ti ρ ω1 fun i ω2 => ∃ l k xs j, o = .r (.ref l) ∧ i = .d (.int k) ∧ ω2 l = some (.own xs) ∧ ixN xs.length k = some j ∧ Q ρ (ω2.put l (.own (xs.set j v)))) := rfl
theorem aoNone_eq (z0 : SA) (ω : Om) (Q : Option Int → Om → Prop) : aoNone z0 ω Q = (Q none ω) := rfl
theorem aoSome_eq (t : AE) (ρ : SA) (ω : Om) (Q : Option Int → Om → Prop) : aoSome t ρ ω Q = (t ρ ω fun x ω1 => ∃ i, x = .d (.int i) ∧ Q (some i) ω1) := rfl
theorem aAppend_eq (to : AE) (t : AA) (ρ : SA) (ω : Om) (Q : AV → Om → Prop) : aAppend to t ρ ω Q = (to ρ ω fun x ω1 => ∃ l, x = .r (.ref l) ∧ (∃ zs, ω1 l = some (.own zs)) ∧ t ρ ω1 fun ys ω2 => ∃ xs y, ys = [y] ∧ ω2 l = some (.own xs) ∧ xs.length < sizeLine ∧ Q (.d .non) (ω2.put l (.own (xs ++ [y])))) := rfl
theorem aClear_eq (to : AE) (ρ : SA) (ω : Om) (Q : AV → Om → Prop) : aClear to ρ ω Q = (to ρ ω fun x ω1 => ∃ l xs, x = .r (.ref l) ∧ ω1 l = some (.own xs) ∧ Q (.d .non) (ω1.put l (.own []))) := rfl
theorem aSorted_eq (xs : List AV) (ω : Om) (Q : AV → Om → Prop) : aSorted xs ω Q = (∃ (x : AV) (W : List (List Int)), xs = [x] ∧ datA ω x = some (.lst (W.map wdD)) ∧ (∀ y ∈ W, y ≠ []) ∧ W.length < 64 ∧ Q (.d (.lst ((srtW W).map wdD))) ω) := rfl
theorem aIsA_eq (xs : List AV) (ω : Om) (Q : AV → Om → Prop) : aIsA xs ω Q = (∃ x d T, xs = [x, .r (.ty T)] ∧ datA ω x = some d ∧ T ∈ kinds ∧ Q (.d (.bl (isD T d))) ω) := rfl
theorem aAndG_eq (ta tb : AE) (ρ : SA) (ω : Om) (Q : AV → Om → Prop) : aAndG ta tb ρ ω Q = (ta ρ ω fun x ω1 => ∃ c, truA ω1 x = some c ∧ if c = true then tb ρ ω1 Q else Q x ω1) := rfl
theorem aiSeq_eq (te : AE) (ρ : SA) (ω : Om) (R : List AV → Om → Prop) : aiSeq te ρ ω R = (te ρ ω fun x ω1 => frzA ω1 x fun d ω2 => ∃ ds, seqD d = some ds ∧ R (ds.map AV.d) ω2) := rfl
theorem aComp_eq (src : List (Option Nat)) (wi : AI) (g : AG) (tc : AT) (l : AL) (ρ : SA) (ω : Om) (Q : AV → Om → Prop) : aComp src wi g tc l ρ ω Q = (wi ρ ω fun as ω1 => aLoop g tc l as [] (blkA src ρ) ω1 fun xs _ ω' => ∃ ds, und xs = some ds ∧ Q (.d (.lst ds)) ω') := rfl
theorem aCompO_eq (src : List (Option Nat)) (wi : AI) (g : AG) (tc : AT) (l : AL) (ρ : SA) (ω : Om) (Q : AV → Om → Prop) : aCompO src wi g tc l ρ ω Q = (wi ρ ω fun as ω1 => aLoop g tc l as [] (blkA src ρ) ω1 fun xs _ ω' => ∀ p, ω' p = none → Q (.r (.ref p)) (ω'.put p (.own xs))) := rfl
theorem aCB_eq (r : List AV → Om → (AV → Om → Prop) → Prop) (t : AA) (ρ : SA) (ω : Om) (Q : AV → Om → Prop) : aCB r t ρ ω Q = (t ρ ω fun xs ω1 => r xs ω1 Q) := rfl
theorem aAdd_int (i : Int) (y : AV) (ω : Om) (Q : AV → Om → Prop) : aAdd (.d (.int i)) y ω Q = (∃ j, y = .d (.int j) ∧ Q (.d (.int (i + j))) ω) := rfl
theorem aAdd_tup (ds : List D) (y : AV) (ω : Om) (Q : AV → Om → Prop) : aAdd (.d (.tup ds)) y ω Q = (∃ es, y = .d (.tup es) ∧ ds.length + es.length ≤ sizeLine ∧ Q (.d (.tup (ds ++ es))) ω) := rfl
theorem aAdd_lst (ds : List D) (y : AV) (ω : Om) (Q : AV → Om → Prop) : aAdd (.d (.lst ds)) y ω Q = (∃ es, datA ω y = some (.lst es) ∧ ds.length + es.length ≤ sizeLine ∧ Q (.d (.lst (ds ++ es))) ω) := by
  show (∃ ds' es, datA ω (.d (.lst ds)) = some (.lst ds') ∧ datA ω y = some (.lst es) ∧ ds'.length + es.length ≤ sizeLine ∧ Q (.d (.lst (ds' ++ es))) ω) = _
  simp only [datA, Option.some.injEq, D.lst.injEq, exists_eq_left', exists_and_left]
theorem aMul_int (i : Int) (y : AV) (ω : Om) (Q : AV → Om → Prop) : aMul (.d (.int i)) y ω Q = (∃ j, y = .d (.int j) ∧ CMul i j ∧ Q (.d (.int (i * j))) ω) := rfl
def slA (x : AV) (lo hi : Option Int) (ω : Om) (Q : AV → Om → Prop) : Prop := match x with
  | .d (.tup ds) => Q (.d (.tup (cutL ds lo hi))) ω
  | x => ∃ ds, datA ω x = some (.lst ds) ∧ Q (.d (.lst (cutL ds lo hi))) ω
theorem slA_tup (ds : List D) (lo hi : Option Int) (ω : Om) (Q : AV → Om → Prop) : slA (.d (.tup ds)) lo hi ω Q = Q (.d (.tup (cutL ds lo hi))) ω := rfl
theorem aSl_eq (te : AE) (tl th : AO) (ρ : SA) (ω : Om) (Q : AV → Om → Prop) : aSl te tl th ρ ω Q = (te ρ ω fun x ω1 => tl ρ ω1 fun lo ω2 => th ρ ω2 fun hi ω3 => slA x lo hi ω3 Q) := rfl
theorem frzA_d (ω : Om) (x : D) (K : D → Om → Prop) : frzA ω (.d x) K = K x ω := rfl
theorem datA_d (ω : Om) (x : D) : datA ω (.d x) = some x := rfl
theorem datA_r (ω : Om) (l : Addr) : datA ω (.r (.ref l)) = (match ω l with
    | some (.own xs) => (und xs).map D.lst
    | some (.frz ds) => some (.lst ds)
    | _ => none) := rfl
theorem lstA_l (ω : Om) (ds : List D) : lstA ω (.d (.lst ds)) = some (ds.map AV.d) := rfl
theorem lstA_t (ω : Om) (ds : List D) : lstA ω (.d (.tup ds)) = none := rfl
theorem lstA_r (ω : Om) (l : Addr) : lstA ω (.r (.ref l)) = (match ω l with
    | some (.own xs) => some xs
    | some (.frz ds) => some (ds.map AV.d)
    | _ => none) := rfl
theorem tupA_t (ds : List D) : tupA (.d (.tup ds)) = some (ds.map AV.d) := rfl
theorem tupA_l (ds : List D) : tupA (.d (.lst ds)) = none := rfl
theorem tupA_r (v : V) : tupA (.r v) = none := rfl
theorem truA_b (ω : Om) (b : Bool) : truA ω (.d (.bl b)) = some b := rfl
theorem und_cons (x : D) (r : List AV) : und (.d x :: r) = (und r).map (x :: ·) := rfl
theorem und_nil : und [] = some [] := rfl
theorem lenA_t (ω : Om) (ds : List D) : lenA ω (.d (.tup ds)) = some ds.length := by simp [lenA, tupA]
theorem lenA_l (ω : Om) (ds : List D) : lenA ω (.d (.lst ds)) = some ds.length := by simp [lenA, tupA, lstA]
theorem lenA_r (ω : Om) (l : Addr) : lenA ω (.r (.ref l)) = (lstA ω (.r (.ref l))).map List.length := rfl
theorem seqD_t (ds : List D) : seqD (.tup ds) = some ds := rfl
theorem seqD_l (ds : List D) : seqD (.lst ds) = some ds := rfl
theorem for_ix {g : AG} {tb : AS} {D : AEnds} {as : List AV} {ρ : SA} {ω : Om} (I : Nat → SA → Om → Prop) (h0 : I 0 ρ ω)
    (hs : ∀ (i : Nat) (a : AV) (ρ : SA) (ω : Om) (N : SA → Om → Prop), as[i]? = some a → I i ρ ω → (∀ ρ' ω', I (i + 1) ρ' ω' → N ρ' ω') → g a ρ ω fun ρ1 ω1 => tb { nx := N, ct := N, bk := D.nx, rt := D.rt } ρ1 ω1)
    (hd : ∀ ρ ω, I as.length ρ ω → D.nx ρ ω) : aForL g tb D as ρ ω := by
  have key : ∀ (n i : Nat) (ρ : SA) (ω : Om), i + n = as.length → I i ρ ω → aForL g tb D (as.drop i) ρ ω := by
    intro n
    induction n with
    | zero => intro i ρ ω hi h; rw [List.drop_eq_nil_of_le (by omega)]; exact hd ρ ω (by rw [← hi]; exact h)
    | succ n ih =>
      intro i ρ ω hi h
      obtain ⟨a, ha, hdr⟩ := drop_cons (as := as) (i := i) (by omega)
      rw [hdr]
      exact hs i a ρ ω _ ha h fun ρ' ω' h' => ih (i + 1) ρ' ω' (by omega) h'
  simpa using key as.length 0 ρ ω (by omega) h0
theorem for_D {g : AG} {tb : AS} {D : AEnds} {ds : List L2.D} {ρ : SA} {ω : Om} (I : Nat → SA → Om → Prop) (h0 : I 0 ρ ω)
    (hs : ∀ (i : Nat) (d : L2.D) (ρ : SA) (ω : Om) (N : SA → Om → Prop), ds[i]? = some d → I i ρ ω → (∀ ρ' ω', I (i + 1) ρ' ω' → N ρ' ω') → g (.d d) ρ ω fun ρ1 ω1 => tb { nx := N, ct := N, bk := D.nx, rt := D.rt } ρ1 ω1)
    (hd : ∀ ρ ω, I ds.length ρ ω → D.nx ρ ω) : aForL g tb D (ds.map AV.d) ρ ω :=
  for_ix I h0 (fun i a ρ ω N ha h k => by
    rw [List.getElem?_map, Option.map_eq_some_iff] at ha
    obtain ⟨d, h1, rfl⟩ := ha
    exact hs i d ρ ω N h1 h k) (fun ρ ω h => hd ρ ω (by simpa using h))
theorem for_rng {g : AG} {tb : AS} {D : AEnds} {lo : Int} {n : Nat} {ρ : SA} {ω : Om} (I : Nat → SA → Om → Prop) (h0 : I 0 ρ ω)
    (hs : ∀ (i : Nat) (ρ : SA) (ω : Om) (N : SA → Om → Prop), i < n → I i ρ ω → (∀ ρ' ω', I (i + 1) ρ' ω' → N ρ' ω') → g (.d (.int (lo + (i : Nat)))) ρ ω fun ρ1 ω1 => tb { nx := N, ct := N, bk := D.nx, rt := D.rt } ρ1 ω1)
    (hd : ∀ ρ ω, I n ρ ω → D.nx ρ ω) : aForL g tb D (rngA lo n) ρ ω :=
  for_ix I h0 (fun i a ρ ω N ha h k => by
    unfold rngA at ha
    rw [List.getElem?_map, Option.map_eq_some_iff] at ha
    obtain ⟨j, h1, rfl⟩ := ha
    obtain ⟨hj, rfl⟩ := List.getElem?_eq_some_iff.mp h1
    simp only [List.getElem_range, List.length_range] at hj ⊢
    exact hs i ρ ω N hj h k) (fun ρ ω h => hd ρ ω (by simpa [rngA] using h))
theorem loop_ix {g : AG} {tc : AT} {l : AL} {as xs : List AV} {ρ : SA} {ω : Om} {K : List AV → SA → Om → Prop} (I : Nat → List AV → SA → Om → Prop) (h0 : I 0 xs ρ ω)
    (hs : ∀ (i : Nat) (a : AV) (xs : List AV) (ρ : SA) (ω : Om) (N : List AV → SA → Om → Prop), as[i]? = some a → I i xs ρ ω → (∀ xs' ρ' ω', I (i + 1) xs' ρ' ω' → N xs' ρ' ω') → g a ρ ω fun ρ1 ω1 => tc ρ1 ω1 fun b ω2 => if b = true then l xs ρ1 ω2 N else N xs ρ1 ω2)
    (hd : ∀ xs ρ ω, I as.length xs ρ ω → K xs ρ ω) : aLoop g tc l as xs ρ ω K := by
  have key : ∀ (n i : Nat) (xs : List AV) (ρ : SA) (ω : Om), i + n = as.length → I i xs ρ ω → aLoop g tc l (as.drop i) xs ρ ω K := by
    intro n
    induction n with
    | zero => intro i xs ρ ω hi h; rw [List.drop_eq_nil_of_le (by omega)]; exact hd xs ρ ω (by rw [← hi]; exact h)
    | succ n ih =>
      intro i xs ρ ω hi h
      obtain ⟨a, ha, hdr⟩ := drop_cons (as := as) (i := i) (by omega)
      rw [hdr]
      exact hs i a xs ρ ω (fun xs' ρ' ω' => aLoop g tc l (as.drop (i + 1)) xs' ρ' ω' K) ha h fun xs' ρ' ω' h' => ih (i + 1) xs' ρ' ω' (by omega) h'
  simpa using key as.length 0 xs ρ ω (by omega) h0
theorem loop_D {g : AG} {tc : AT} {l : AL} {ds : List D} {xs : List AV} {ρ : SA} {ω : Om} {K : List AV → SA → Om → Prop} (I : Nat → List AV → SA → Om → Prop) (h0 : I 0 xs ρ ω)
    (hs : ∀ (i : Nat) (d : D) (xs : List AV) (ρ : SA) (ω : Om) (N : List AV → SA → Om → Prop), ds[i]? = some d → I i xs ρ ω → (∀ xs' ρ' ω', I (i + 1) xs' ρ' ω' → N xs' ρ' ω') → g (.d d) ρ ω fun ρ1 ω1 => tc ρ1 ω1 fun b ω2 => if b = true then l xs ρ1 ω2 N else N xs ρ1 ω2)
    (hd : ∀ xs ρ ω, I ds.length xs ρ ω → K xs ρ ω) : aLoop g tc l (ds.map AV.d) xs ρ ω K :=
  loop_ix I h0 (fun i a xs ρ ω N ha h k => by
    rw [List.getElem?_map, Option.map_eq_some_iff] at ha
    obtain ⟨d, h1, rfl⟩ := ha
    exact hs i d xs ρ ω N h1 h k) (fun xs ρ ω h => hd xs ρ ω (by simpa using h))
theorem comp_fm {tc : AT} {te : AE} {ds : List D} {v0 : Option AV} {rest : SA} {ω : Om} {K : List AV → SA → Om → Prop} (p : D → Bool) (f : D → D)
    (ht : ∀ d ∈ ds, ∀ Q : Bool → Om → Prop, Q (p d) ω → tc (some (.d d) :: rest) ω Q) (he : ∀ d ∈ ds, p d = true → ∀ Q : AV → Om → Prop, Q (.d (f d)) ω → te (some (.d d) :: rest) ω Q) (hz : ds.length ≤ sizeLine)
    (hk : ∀ ρ, K (((ds.filter p).map f).map AV.d) ρ ω) : aLoop (agName 0) tc (aLast te) (ds.map AV.d) [] (v0 :: rest) ω K := by
  refine loop_D (fun i xs ρ ω' => ω' = ω ∧ (∃ v, ρ = v :: rest) ∧ xs = (((ds.take i).filter p).map f).map AV.d) ⟨rfl, ⟨_, rfl⟩, rfl⟩ ?_ ?_
  · rintro i d xs ρ ω' N hd ⟨rfl, ⟨v, rfl⟩, rfl⟩ kN
    have hi := (List.getElem?_eq_some_iff.mp hd).1
    have hm := List.mem_of_getElem? hd
    have et : ds.take (i + 1) = ds.take i ++ [d] := by rw [List.take_succ, hd]; rfl
    rw [agName_eq, List.set_cons_zero]
    refine ht d hm _ ?_
    cases hp : p d with
    | true =>
      rw [if_pos rfl, aLast_eq]
      refine he d hm hp _ ⟨?_, kN _ _ _ ⟨rfl, ⟨_, rfl⟩, ?_⟩⟩
      · rw [List.length_map, List.length_map]
        have := List.length_filter_le p (ds.take i)
        rw [List.length_take] at this
        omega
      · rw [et, List.filter_append]
        simp [hp]
    | false =>
      rw [if_neg Bool.false_ne_true]
      refine kN _ _ _ ⟨rfl, ⟨_, rfl⟩, ?_⟩
      rw [et, List.filter_append]
      simp [hp]
  · rintro xs ρ ω' ⟨rfl, _, rfl⟩
    rw [List.take_length]
    exact hk ρ
structure Pn where
  f : Int
  x : Int
  i : Int
  h : 0 ≤ f
def penO (c : Pn) : OC := .own [.d (.int c.f), .d (.int c.x), .d (.int c.i)]
end L2
namespace L2
open PySem PySem.Spec PyProof.Rows
section
variable {α : Type} (a b c e : α) (l : List α)
theorem atI_of {xs : List α} {x : α} (j : Nat) {i : Int} (hi : i = (j : Int)) (h : xs[j]? = some x) : atI xs i = some x := by
  subst hi
  have hj := (List.getElem?_eq_some_iff.mp h).1
  unfold atI ixN
  rw [if_pos (by omega), if_pos (by omega)]
  simpa using h
theorem atI_0 : atI (a :: l) 0 = some a := atI_of 0 rfl rfl
theorem atI_1 : atI (a :: b :: l) 1 = some b := atI_of 1 rfl rfl
theorem atI_2 : atI (a :: b :: c :: l) 2 = some c := atI_of 2 rfl rfl
end
theorem sz1 : (1 ≤ sizeLine) = True := eq_true (by decide)
theorem sz2 : (2 ≤ sizeLine) = True := eq_true (by decide)
theorem sz3 : (3 ≤ sizeLine) = True := eq_true (by decide)
theorem sz6 : (6 ≤ sizeLine) = True := eq_true (by decide)
theorem ixN_30 : ixN 3 0 = some 0 := rfl
theorem ixN_32 : ixN 3 2 = some 2 := rfl
theorem eqD_int (a b : Int) : eqD (.int a) (.int b) = (a == b) := by simp [eqD]
theorem eqD_str (a b : Str) : eqD (.str a) (.str b) = (a == b) := by simp [eqD]
theorem dep_int (a : Int) : dep (.int a) = 0 := by simp [dep]
theorem dep_str (a : Str) : dep (.str a) = 0 := by simp [dep]
theorem intD_bl (a : Bool) : intD (.bl a) = some (if a then 1 else 0) := rfl
end L2
set_option Elab.async false
set_option linter.all false
set_option autoImplicit false
set_option maxRecDepth 100000
set_option maxHeartbeats 1000000
namespace L2
open PySem PySem.Spec PyProof.Rows
def Om.only (ω' ω : Om) : Om := fun b => if (ω b).isSome = true then ω' b else none
def Ex (ω ω' : Om) : Prop := ∀ b, (ω b).isSome = true → ω' b = ω b
theorem Ex.refl (ω : Om) : Ex ω ω := fun _ _ => rfl
theorem Ex.none {ω ω' : Om} (h : Ex ω ω') {l : Addr} (e : ω' l = none) : ω l = none := by
  cases z : ω l with
  | none => rfl
  | some c => have := h l (by rw [z]; rfl); rw [e, z] at this; cases this
theorem Ex.new {ω ω' : Om} (h : Ex ω ω') {l : Addr} {c : OC} (e : ω' l = Option.none) : Ex ω (ω'.put l c) := fun b hb => by
  have : b ≠ l := fun z => by subst z; rw [h.none e] at hb; cases hb
  rw [Om.put_ne this]; exact h b hb
theorem Ex.over {ω ω' : Om} (h : Ex ω ω') {l : Addr} {c : OC} (e : ω l = Option.none) : Ex ω (ω'.put l c) := fun b hb => by
  have : b ≠ l := fun z => by subst z; rw [e] at hb; cases hb
  rw [Om.put_ne this]; exact h b hb
theorem Ex.put {ω ω' : Om} (h : Ex ω ω') {l : Addr} {c : OC} : Ex (ω.put l c) (ω'.put l c) := fun b hb => by
  by_cases z : b = l
  · subst z; rw [Om.put_same, Om.put_same]
  · rw [Om.put_ne z] at hb ⊢; rw [Om.put_ne z]; exact h b hb
theorem Ex.put2 {ω ω' : Om} {l : Addr} {c e : OC} (h : Ex (ω.put l c) ω') : Ex (ω.put l e) (ω'.put l e) := by
  have := h.put (l := l) (c := e)
  rwa [Om.put_put] at this
theorem only_self (ω : Om) : ω.only ω = ω := by
  funext b; unfold Om.only
  cases e : ω b <;> simp
theorem only_put {ω ω' : Om} {p : Addr} {c : OC} (h : Ex (ω.put p c) ω') (hp : (ω p).isSome = true) : ω'.only ω = ω.put p c := by
  funext b; unfold Om.only
  by_cases hb : b = p
  · subst hb; rw [if_pos hp, h b (by rw [Om.put_same]; rfl)]
  · rw [Om.put_ne hb]
    cases e : ω b with
    | none => simp
    | some o => simp only [Option.isSome_some, if_true]; rw [h b (by rw [Om.put_ne hb, e]; rfl), Om.put_ne hb, e]
theorem Rep.only {F : Fs} {H : Hp} {ω ω' : Om} (rp : Rep F H ω') : Rep F H (ω'.only ω) ∧ Same (cut F H ω') (cut F H (ω'.only ω)) := by
  have ho : ∀ b, ow (ω' b) = false → ow ((ω'.only ω) b) = false := fun b h => by
    unfold Om.only
    split
    · exact h
    · rfl
  have sm : Same (cut F H ω') (cut F H (ω'.only ω)) := fun b o e => by
    obtain ⟨h, f, e⟩ := cut_some.mp e
    exact cut_some.mpr ⟨ho b h, f, e⟩
  have un : ∀ b c, (ω'.only ω) b = some c → ω' b = some c := fun b c e => by
    unfold Om.only at e
    split at e
    · exact e
    · cases e
  refine ⟨⟨fun l xs e => ?_, fun l ds e => (rp.frz l ds (un _ _ e)).same sm, fun b f => ?_, fun l ks e => (by obtain ⟨vs, e1, e2⟩ := rp.dic l ks (un _ _ e); exact ⟨vs, e1, e2.same sm⟩)⟩, sm⟩
  · obtain ⟨vs, e1, e2⟩ := rp.own l xs (un _ _ e)
    exact ⟨vs, e1, e2.same sm⟩
  · obtain ⟨h1, h2⟩ := rp.hid b f
    refine ⟨?_, h2⟩
    unfold Om.only
    rw [h1]; simp
theorem Fr.only {F : Fs} {H H' : Hp} {ω ω' : Om} (fr : Fr F H ω H' ω') : Fr F H ω H' (ω'.only ω) := ⟨fun b o h f e => by
  obtain ⟨x, y⟩ := fr.st b o h f e
  refine ⟨x, ?_⟩
  unfold Om.only
  split
  · exact y
  · rfl, fr.hd⟩
theorem Fun.okD {P : Program} {w : World} {K : PySem.W.Frag} {mg : Str → Option Value} {base : Heap} {x qual : Str} {st : Stmt} {f : Addr} {fd : FuncData} {N ps : List Str} {k : Nat} {sp : ASp} (F : Fun K x qual st f fd) (S : FnScope N ps (defScope st)) (len : ∀ xs ω Q, sp xs ω Q → xs.length = ps.length)
    (hbody : ∀ (cdv : Value) (A : Around) (outer : List Env) (s : Shared) (H : Hp) (E : XK), Room k (A.deeper (envOfC qual (defScope st) s.heap.objs.size f cdv)) →
      ∃ t t', PSs (cxOf CX0 P w K mg base N qual (defScope st) f cdv A outer s H E).nox (defBody st) t ∧ RefS t t' ∧ ∀ xs ω Q', sp xs ω Q' → t' { nx := fun _ ω' => Q' (.d .non) (ω'.only ω), rt := fun a ω' => ∃ d, a = .d d ∧ Q' (.d d) (ω'.only ω) } (startA N xs) ω) : FnOk P w K mg base CX0 (k + 1) f fd ps (lift sp) := by
  refine F.ok S (fun vs H Q E h => ?_) (fun cdv A outer s H vs Q E hr h => ?_)
  · obtain ⟨F, xs, ω, Q', rp, rv, h, _⟩ := h
    rw [rv.length, len xs ω Q' h]
  · obtain ⟨t, t', h1, h2, h3⟩ := hbody cdv A outer s H E hr
    obtain ⟨F, xs, ω, Q', rp, rv, h, kq⟩ := h
    refine ⟨t, h1, h2.run F H ω _ _ _ _ rp (RS.start rv) (h3 xs ω Q' h) ⟨?_, ?_, fun _ _ _ _ _ _ _ z => z.elim, fun _ _ _ _ _ _ _ z => z.elim⟩⟩
    · exact fun ρ' ω' σ' H' e1 e2 e3 q => kq (.d .non) (ω'.only ω) .non H' e1.only.1 e2.only (by simp [RV, Dat]) q
    · rintro a ω' v H' e1 e2 e3 ⟨d, rfl, q⟩
      exact kq (.d d) (ω'.only ω) v H' e1.only.1 e2.only (e3.same e1.only.2) q
def wl : Nat → List (List Int)
  | 0 => [[]]
  | n + 1 => (wl n).flatMap fun w => [w ++ [0], w ++ [1]]
theorem wl_len : ∀ n, (wl n).length = 2 ^ n
  | 0 => rfl
  | n + 1 => by
    have h : ∀ ws : List (List Int), (ws.flatMap fun w => [w ++ [0], w ++ [1]]).length = 2 * ws.length := fun ws => by
      induction ws with
      | nil => rfl
      | cons a r ih => rw [List.flatMap_cons, List.length_append, ih]; simp; omega
    rw [wl, h, wl_len n, Nat.pow_succ]; omega
theorem wl_mem : ∀ {n : Nat} {w : List Int}, w ∈ wl n → w.length = n ∧ ∀ x ∈ w, x = 0 ∨ x = 1
  | 0, w, h => by simp [wl] at h; rw [h]; simp
  | n + 1, w, h => by
    simp only [wl, List.mem_flatMap] at h
    obtain ⟨v, hv, h⟩ := h
    obtain ⟨h1, h2⟩ := wl_mem hv
    simp only [List.mem_cons, List.not_mem_nil, or_false] at h
    rcases h with rfl | rfl <;> refine ⟨by simp [h1], fun x hx => ?_⟩ <;> rcases List.mem_append.mp hx with hx | hx
    · exact h2 x hx
    · rw [List.mem_singleton.mp hx]; exact .inl rfl
    · exact h2 x hx
    · rw [List.mem_singleton.mp hx]; exact .inr rfl
theorem wl_le {n : Nat} (h : n ≤ 5) : (wl n).length ≤ 32 := by
  rw [wl_len]
  exact Nat.pow_le_pow_right (by decide) h
theorem wl_nd0 : ∀ n : Fin 6, (wl n.val).Nodup := by decide +kernel
theorem wl_nd {n : Nat} (h : n ≤ 5) : (wl n).Nodup := wl_nd0 ⟨n, by omega⟩
def Wds (n : Nat) (ws : List (List Int)) : Prop := ws.Nodup ∧ ∀ w ∈ ws, w ∈ wl n
theorem Wds.sub {n : Nat} {ws : List (List Int)} (h : ws.Sublist (wl n)) (hn : n ≤ 5) : Wds n ws := ⟨h.nodup (wl_nd hn), fun w hw => h.mem hw⟩
theorem Wds.perm {n : Nat} {ws vs : List (List Int)} (h : Wds n ws) (p : vs.Perm ws) : Wds n vs := ⟨(p.nodup_iff).mpr h.1, fun w hw => h.2 w (p.mem_iff.mp hw)⟩
theorem eqDs_ints : ∀ a b : List Int, eqDs (a.map D.int) (b.map D.int) = decide (a = b)
  | [], [] => by simp [eqDs]
  | [], _ :: _ => by simp [eqDs]
  | _ :: _, [] => by simp [eqDs]
  | x :: a, y :: b => by
    simp only [List.map_cons, eqDs, eqD, eqDs_ints a b, List.cons.injEq]
    by_cases h1 : x = y <;> by_cases h2 : a = b <;> simp [h1, h2]
theorem eqD_wd (a b : List Int) : eqD (wdD a) (wdD b) = decide (a = b) := by simp only [wdD, eqD]; exact eqDs_ints a b
theorem dep_wd (w : List Int) : dep (wdD w) = 1 := by simp [wdD, dep, deps_ints]
theorem deps_wds (ws : List (List Int)) : deps (ws.map wdD) ≤ 1 := deps_le fun d hd => by
  obtain ⟨w, _, rfl⟩ := List.mem_map.mp hd
  rw [dep_wd]
  exact Nat.le_refl _
theorem inD_wd (a : List Int) (ws : List (List Int)) : inD (wdD a) (ws.map wdD) = decide (a ∈ ws) := by
  unfold inD
  rw [Bool.eq_iff_iff, List.any_eq_true, decide_eq_true_iff]
  constructor
  · rintro ⟨d, hd, e⟩
    obtain ⟨w, hw, rfl⟩ := List.mem_map.mp hd
    rw [eqD_wd, decide_eq_true_iff] at e
    exact e ▸ hw
  · intro h
    exact ⟨wdD a, List.mem_map.mpr ⟨a, h, rfl⟩, by rw [eqD_wd]; simp⟩
theorem map_get {α β : Type} {f : α → β} {xs : List α} {i : Nat} {y : β} (h : (xs.map f)[i]? = some y) : ∃ x, xs[i]? = some x ∧ y = f x := by
  rw [List.getElem?_map] at h
  cases e : xs[i]? with
  | none => rw [e] at h; cases h
  | some x => rw [e] at h; cases h; exact ⟨x, rfl, rfl⟩
theorem map_nth {α : Type} {f : α → AV} {xs : List α} {i : Int} (h0 : 0 ≤ i) (h1 : i < xs.length) : ∃ x, x ∈ xs ∧ xs[i.toNat]? = some x ∧ atI (xs.map f) i = some (f x) := by
  obtain ⟨j, rfl⟩ := Int.eq_ofNat_of_zero_le h0
  have hj : j < xs.length := by omega
  exact ⟨xs[j], List.getElem_mem hj, by simp [List.getElem?_eq_getElem hj], atI_of j rfl (by rw [List.getElem?_map, List.getElem?_eq_getElem hj]; rfl)⟩
theorem tupA_wd (x : List Int) : tupA (.d (wdD x)) = some ((x.map D.int).map AV.d) := rfl
theorem cutL_map {α β : Type} (f : α → β) (xs : List α) (lo hi : Option Int) : cutL (xs.map f) lo hi = (cutL xs lo hi).map f := by
  unfold cutL
  rw [List.length_map, List.map_take, List.map_drop]
inductive Sy where
  | is (i b : Int)
  | jn (an : Bool) (l r : Sy)
namespace Sy
def d : Sy → D
  | .is i b => .tup [.str "is", .int i, .int b]
  | .jn an l r => .tup [.str (if an then "and" else "or"), l.d, r.d]
def ok (n : Nat) : Sy → Prop
  | .is i b => 0 ≤ i ∧ i < n ∧ (b = 0 ∨ b = 1)
  | .jn _ l r => l.ok n ∧ r.ok n
def dp : Sy → Nat
  | .is _ _ => 0
  | .jn _ l r => 1 + max l.dp r.dp
def up : Sy → Prop
  | .is _ b => b = 1
  | .jn _ l r => l.up ∧ r.up
def val (w : List Int) : Sy → Bool
  | .is i b => decide (w.getD i.toNat 0 = b)
  | .jn an l r => if an then val w l && val w r else val w l || val w r
end Sy
inductive Ta where
  | en (i : Int)
  | nd (y : Bool) (ws : List (List Int)) (l r : Ta)
namespace Ta
def d : Ta → D
  | .en i => .tup [.str "end", .int i]
  | .nd y ws l r => .tup [.str (if y then "yes" else "no"), .tup (ws.map wdD), l.d, r.d]
def ok (n : Nat) : Ta → Prop
  | .en i => 0 ≤ i ∧ i < n
  | .nd _ ws l r => Wds n ws ∧ l.ok n ∧ r.ok n
def dp : Ta → Nat
  | .en _ => 0
  | .nd _ _ l r => 1 + max l.dp r.dp
def size : Ta → Nat
  | .en _ => 1
  | .nd _ _ l r => l.size + r.size + 1
def bit (y n : List Int) (hy : Bool) (ws : List (List Int)) : Bool := decide ((if hy then y else n) ∈ ws)
def way (y n : List Int) : Ta → List Int
  | .en _ => []
  | .nd h ws a b => if bit y n h ws then 1 :: way y n b else 0 :: way y n a
def fin (y n : List Int) : Ta → Int
  | .en i => i
  | .nd h ws a b => if bit y n h ws then fin y n b else fin y n a
end Ta
theorem sne_1_2 : (("yes" : Str) = ("no" : Str)) = False := eq_false (by decide +kernel)
def om3 (ω : Om) (p l1 l2 : Addr) (c A B : OC) : Om := ((ω.put p c).put l1 A).put l2 B
section
variable {ω : Om} {p l l1 l2 : Addr} {c c' A A' B B' : OC}
theorem om3_p (h1 : p ≠ l1) (h2 : p ≠ l2) : om3 ω p l1 l2 c A B p = some c := by unfold om3; rw [Om.put_ne h2, Om.put_ne h1, Om.put_same]
theorem om3_1 (h : l1 ≠ l2) : om3 ω p l1 l2 c A B l1 = some A := by unfold om3; rw [Om.put_ne h, Om.put_same]
theorem om3_2 : om3 ω p l1 l2 c A B l2 = some B := by unfold om3; rw [Om.put_same]
theorem om3_pp (h1 : p ≠ l1) (h2 : p ≠ l2) : (om3 ω p l1 l2 c A B).put p c' = om3 ω p l1 l2 c' A B := by unfold om3; rw [Om.put_comm h2, Om.put_comm h1, Om.put_put]
theorem om3_p1 (h : l1 ≠ l2) : (om3 ω p l1 l2 c A B).put l1 A' = om3 ω p l1 l2 c A' B := by unfold om3; rw [Om.put_comm h, Om.put_put]
end
def om4 (ω : Om) (p l1 l2 l3 : Addr) (c A B C : OC) : Om := (((ω.put p c).put l1 A).put l2 B).put l3 C
structure Ne4 (p l1 l2 l3 : Addr) : Prop where
  p1 : p ≠ l1
  p2 : p ≠ l2
  p3 : p ≠ l3
  a : l1 ≠ l2
  b : l1 ≠ l3
  c : l2 ≠ l3
section
variable {ω : Om} {p l1 l2 l3 : Addr} {c c' A A' B B' C C' : OC} (h : Ne4 p l1 l2 l3)
include h
theorem om4_p : om4 ω p l1 l2 l3 c A B C p = some c := by unfold om4; rw [Om.put_ne h.p3, Om.put_ne h.p2, Om.put_ne h.p1, Om.put_same]
theorem om4_1 : om4 ω p l1 l2 l3 c A B C l1 = some A := by unfold om4; rw [Om.put_ne h.b, Om.put_ne h.a, Om.put_same]
theorem om4_2 : om4 ω p l1 l2 l3 c A B C l2 = some B := by unfold om4; rw [Om.put_ne h.c, Om.put_same]
theorem om4_3 : om4 ω p l1 l2 l3 c A B C l3 = some C := by unfold om4; rw [Om.put_same]
end
end L2
set_option Elab.async false
set_option linter.all false
set_option autoImplicit false
set_option maxRecDepth 100000
set_option maxHeartbeats 1000000
namespace L2
open PySem PySem.Spec PyProof.Rows
section
variable {P : Program} {w : World} {K : PySem.W.Frag} {mg : Str → Option Value} {base : Heap}
structure Cs (n : Nat) (ys zs : List (List Int)) : Prop where
  y : Wds n ys
  z : Wds n zs
  y1 : ys ≠ []
  z1 : zs ≠ []
theorem seq_cut {t u : AS} {D : AEnds} {ρ : SA} {ω : Om} (I : SA → Om → Prop) (h1 : ∀ N : SA → Om → Prop, (∀ ρ' ω', I ρ' ω' → N ρ' ω') → t { D with nx := N } ρ ω) (h2 : ∀ ρ' ω', I ρ' ω' → u D ρ' ω') : aSeq t u D ρ ω := h1 (u D) h2
end
end L2
set_option Elab.async false
set_option linter.all false
set_option autoImplicit false
set_option maxRecDepth 100000
set_option maxHeartbeats 1000000
namespace L2
open PySem PySem.Spec PyProof.Rows
end L2
set_option Elab.async false
set_option linter.all false
set_option autoImplicit false
set_option maxRecDepth 100000
set_option maxHeartbeats 1000000
namespace L2
open PySem PySem.Spec PyProof.Rows
structure RefR (t2 t : TS) (t' : AS) : Prop where
  run : ∀ (F : Fs) (H : Hp) (ω : Om) (σ : St) (ρ : SA) (D : Ends) (D' : AEnds), Rep F H ω → RS (cut F H ω) ρ σ → t' D' ρ ω → LE F H ω D' { D with nx := t2 D } → t D σ H
section
variable {t t1 t2 u : TS} {t1' u' : AS} {N : SA → Om → Prop} {m : Nat}
end
end L2
set_option Elab.async false
set_option linter.all false
set_option autoImplicit false
set_option maxRecDepth 100000
set_option maxHeartbeats 1000000
namespace L2
open PySem PySem.Spec PyProof.Rows
theorem comp_gix {g : AG} {te : AE} {as : List AV} {rs : List D} {ρ : SA} {ω : Om} {K : List AV → SA → Om → Prop} (R : SA → Prop) (h0 : R ρ) (hl : rs.length = as.length) (hz : as.length ≤ sizeLine)
    (he : ∀ (i : Nat) (a : AV) (r : D) (ρ : SA) (N : SA → Om → Prop), as[i]? = some a → rs[i]? = some r → R ρ → (∀ ρ1, R ρ1 → (∀ Q : AV → Om → Prop, Q (.d r) ω → te ρ1 ω Q) → N ρ1 ω) → g a ρ ω N)
    (hk : ∀ ρ, R ρ → K (rs.map AV.d) ρ ω) : aLoop g aNoTest (aLast te) as [] ρ ω K := by
  refine loop_ix (fun i xs ρ ω' => ω' = ω ∧ R ρ ∧ xs = (rs.take i).map AV.d) ⟨rfl, h0, rfl⟩ ?_ ?_
  · rintro i a xs ρ ω' N ha ⟨rfl, hR, rfl⟩ kN
    have hi := (List.getElem?_eq_some_iff.mp ha).1
    have hr : rs[i]? = some rs[i] := List.getElem?_eq_getElem (by omega)
    refine he i a _ ρ _ ha hr hR fun ρ1 hR1 h => ?_
    rw [aNoTest_eq, if_pos rfl, aLast_eq]
    refine h _ ⟨by rw [List.length_map, List.length_take]; omega, kN _ _ _ ⟨rfl, hR1, ?_⟩⟩
    rw [show rs.take (i + 1) = rs.take i ++ [rs[i]] from by rw [List.take_succ, hr]; rfl, List.map_append]
    rfl
  · rintro xs ρ ω' ⟨rfl, hR, rfl⟩
    rw [← hl, List.take_length]
    exact hk ρ hR
theorem comp_ix {te : AE} {as : List AV} {rs : List D} {v0 : Option AV} {rest : SA} {ω : Om} {K : List AV → SA → Om → Prop} (hl : rs.length = as.length) (hz : as.length ≤ sizeLine)
    (he : ∀ (i : Nat) (a : AV) (r : D), as[i]? = some a → rs[i]? = some r → ∀ Q : AV → Om → Prop, Q (.d r) ω → te (some a :: rest) ω Q)
    (hk : ∀ ρ, K (rs.map AV.d) ρ ω) : aLoop (agName 0) aNoTest (aLast te) as [] (v0 :: rest) ω K :=
  comp_gix (fun ρ => ∃ v, ρ = v :: rest) ⟨_, rfl⟩ hl hz (fun i a r ρ N ha hr ⟨v, e⟩ k => by
    subst e
    rw [agName_eq, List.set_cons_zero]
    exact k _ ⟨_, rfl⟩ (he i a r ha hr)) (fun ρ _ => hk ρ)
end L2
set_option Elab.async false
set_option linter.all false
set_option autoImplicit false
set_option maxRecDepth 100000
set_option maxHeartbeats 1000000
namespace L2
open PySem PySem.Spec PyProof.Rows
def scrL (K : PySem.W.Frag) (a : Addr) (ns : List Int) : AV := .p (.ref a) (fun H => SqL K H a (ns.map V.int))
def aIxS (K : PySem.W.Frag) : A2 := fun x y ω Q => ∃ (a : Addr) (ns : List Int) (i v : Int), x = scrL K a ns ∧ y = .d (.int i) ∧ atI ns i = some v ∧ Q (.d (.int v)) ω
def aLenS (K : PySem.W.Frag) : AC := fun xs ω Q => ∃ (a : Addr) (ns : List Int), xs = [scrL K a ns] ∧ Q (.d (.int ns.length)) ω
theorem aIxS_eq (K : PySem.W.Frag) (x y : AV) (ω : Om) (Q : AV → Om → Prop) : aIxS K x y ω Q = (∃ (a : Addr) (ns : List Int) (i v : Int), x = scrL K a ns ∧ y = .d (.int i) ∧ atI ns i = some v ∧ Q (.d (.int v)) ω) := rfl
theorem aLenS_eq (K : PySem.W.Frag) (xs : List AV) (ω : Om) (Q : AV → Om → Prop) : aLenS K xs ω Q = (∃ (a : Addr) (ns : List Int), xs = [scrL K a ns] ∧ Q (.d (.int ns.length)) ω) := rfl
theorem atI_map {α β : Type} {f : α → β} {xs : List α} {i : Int} {v : α} (h : atI xs i = some v) : atI (xs.map f) i = some (f v) := by
  unfold atI at h ⊢
  rw [List.length_map]
  cases e : ixN xs.length i with
  | none => rw [e] at h; cases h
  | some j =>
    rw [e] at h
    simp only [Option.bind_some] at h ⊢
    rw [List.getElem?_map, h]; rfl
theorem scr_at {F : Fs} {H : Hp} {ω : Om} {K : PySem.W.Frag} {a : Addr} {ns : List Int} {v : V} (r : RV (cut F H ω) (scrL K a ns) v) : v = .ref a ∧ SqL K H a (ns.map V.int) := by
  obtain ⟨rfl, r⟩ := r
  exact ⟨rfl, r _ cut_same⟩
theorem o_ixS {K : PySem.W.Frag} : Ref2 (rIx K) (aIxS K) := ⟨fun F H ω v u x y Q Q' rp h1 h2 ⟨a, ns, i, z, e1, e2, e3, q⟩ k => by
  subst e1 e2
  obtain ⟨rfl, hs⟩ := scr_at h1
  cases rv_int h2
  exact .inl ⟨a, _, i, _, rfl, rfl, hs, atI_map e3, k.int rp q⟩⟩
theorem c_lenS {K : PySem.W.Frag} : RefC (fun xs H Q => ∃ x n, xs = [x] ∧ LenV K x H n ∧ Q (.int n) H) (aLenS K) := ⟨fun F H ω vs xs Q Q' rp rv ⟨a, ns, e, q⟩ k => by
  subst e
  obtain ⟨v, rfl, r⟩ := rvs1 rv
  obtain ⟨rfl, hs⟩ := scr_at r
  exact ⟨_, ns.length, rfl, .inl ⟨_, hs, by simp⟩, k.int rp q⟩⟩
def aPar (i j : Nat) (ta : AA) : AS := fun D ρ ω => ta ρ ω fun xs ω1 => ∃ v w, xs = [v, w] ∧ D.nx ((ρ.set i (some v)).set j (some w)) ω1
theorem aPar_eq (i j : Nat) (ta : AA) (D : AEnds) (ρ : SA) (ω : Om) : aPar i j ta D ρ ω = (ta ρ ω fun xs ω1 => ∃ v w, xs = [v, w] ∧ D.nx ((ρ.set i (some v)).set j (some w)) ω1) := rfl
theorem s_par {i j : Nat} {ta : TA} {ta' : AA} (h : RefA ta ta') : RefS (tPar i j ta) (aPar i j ta') := ⟨fun F H ω σ ρ D D' rp rs w k => h.go rp rs w fun xs ω1 vs H1 rp1 fr1 rs1 rv q => by
  obtain ⟨a, b, rfl, q⟩ := q
  obtain ⟨v, u, rfl, r1, r2⟩ := rvs2 rv
  exact ⟨v, u, rfl, k.nx _ _ _ _ rp1 fr1 ((rs1.set r1).set r2) q⟩⟩
theorem comp_gf {α : Type} {g : AG} {tc : AT} {te : AE} {as : List AV} {xs : List α} {ρ : SA} {ω : Om} {K : List AV → SA → Om → Prop} (R : SA → Prop) (h0 : R ρ) (enc : α → AV) (p : α → Bool) (f : α → D) (ea : as = xs.map enc) (hz : xs.length ≤ sizeLine)
    (he : ∀ (x : α) (ρ : SA) (N : SA → Om → Prop), x ∈ xs → R ρ → (∀ ρ1, R ρ1 → (∀ Q : Bool → Om → Prop, Q (p x) ω → tc ρ1 ω Q) → (p x = true → ∀ Q : AV → Om → Prop, Q (.d (f x)) ω → te ρ1 ω Q) → N ρ1 ω) → g (enc x) ρ ω N)
    (hk : ∀ ρ, R ρ → K (((xs.filter p).map f).map AV.d) ρ ω) : aLoop g tc (aLast te) as [] ρ ω K := by
  subst ea
  refine loop_ix (fun i ys ρ ω' => ω' = ω ∧ R ρ ∧ ys = (((xs.take i).filter p).map f).map AV.d) ⟨rfl, h0, rfl⟩ ?_ ?_
  · rintro i a ys ρ ω' N ha ⟨rfl, hR, rfl⟩ kN
    rw [List.getElem?_map, Option.map_eq_some_iff] at ha
    obtain ⟨x, hx, rfl⟩ := ha
    have hi := (List.getElem?_eq_some_iff.mp hx).1
    have et : xs.take (i + 1) = xs.take i ++ [x] := by rw [List.take_succ, hx]; rfl
    refine he x ρ _ (List.mem_of_getElem? hx) hR fun ρ1 hR1 h1 h2 => h1 _ ?_
    cases hp : p x with
    | true =>
      rw [if_pos rfl, aLast_eq]
      refine h2 hp _ ⟨?_, kN _ _ _ ⟨rfl, hR1, ?_⟩⟩
      · rw [List.length_map, List.length_map]
        have := List.length_filter_le p (xs.take i)
        rw [List.length_take] at this
        omega
      · rw [et, List.filter_append]
        simp [hp]
    | false =>
      rw [if_neg Bool.false_ne_true]
      refine kN _ _ _ ⟨rfl, hR1, ?_⟩
      rw [et, List.filter_append]
      simp [hp]
  · rintro ys ρ ω' ⟨rfl, hR, rfl⟩
    rw [List.length_map, List.take_length]
    exact hk ρ hR
theorem comp_ft {α : Type} {tc : AT} {te : AE} {xs : List α} {v0 : Option AV} {rest : SA} {ω : Om} {K : List AV → SA → Om → Prop} (enc : α → D) (p : α → Bool) (f : α → D) (hz : xs.length ≤ sizeLine)
    (ht : ∀ x ∈ xs, ∀ Q : Bool → Om → Prop, Q (p x) ω → tc (some (.d (enc x)) :: rest) ω Q) (he : ∀ x ∈ xs, p x = true → ∀ Q : AV → Om → Prop, Q (.d (f x)) ω → te (some (.d (enc x)) :: rest) ω Q)
    (hk : ∀ ρ, K (((xs.filter p).map f).map AV.d) ρ ω) : aLoop (agName 0) tc (aLast te) ((xs.map enc).map AV.d) [] (v0 :: rest) ω K :=
  comp_gf (fun ρ => ∃ v, ρ = v :: rest) ⟨_, rfl⟩ (fun x => .d (enc x)) p f (by simp) hz (fun x ρ N hx ⟨v, e⟩ k => by
    subst e
    rw [agName_eq, List.set_cons_zero]
    exact k _ ⟨_, rfl⟩ (ht x hx) (he x hx)) (fun ρ _ => hk ρ)
structure Pq where
  a : Addr
  ns : List Int
  i : Int
  f : Int
  h0 : 0 ≤ i
  hf : 0 ≤ f
  hn : ns.length ≤ 63
end L2
set_option Elab.async false
set_option linter.all false
set_option autoImplicit false
set_option maxRecDepth 100000
set_option maxHeartbeats 1000000
namespace L2
open PySem PySem.Spec PyProof.Rows
section
variable {prog : Program} {w : World} {A : Around} {E : Value → Shared → Prop} {s : Shared}
end
end L2
set_option Elab.async false
set_option linter.all false
set_option autoImplicit false
set_option maxRecDepth 100000
set_option maxHeartbeats 1000000
namespace L2
open PySem PySem.Spec PyProof.Rows
end L2
set_option Elab.async false
set_option linter.all false
set_option autoImplicit false
set_option maxRecDepth 100000
set_option maxHeartbeats 1000000
namespace L2
open PySem PySem.Spec PyProof.Rows
section
variable {G : Hp} {F : Fs} {H : Hp} {ω : Om}
end
inductive RefPs : List (TE × TE) → List Str → List AE → Prop
  | nil : RefPs [] [] []
  | cons {k : Str} {tv : TE} {tv' : AE} {r : List (TE × TE)} {ks : List Str} {ts : List AE} : RefE tv tv' → RefPs r ks ts → RefPs ((tC (.str k), tv) :: r) (k :: ks) (tv' :: ts)
end L2
set_option Elab.async false
set_option linter.all false
set_option autoImplicit false
set_option maxRecDepth 100000
set_option maxHeartbeats 1000000
namespace L2
open PySem PySem.Spec PyProof.Rows
def tx (l : List Nat) : Str := ⟨l.toArray⟩
def jn (s : List Nat) : List (List Nat) → List Nat
  | [] => []
  | [x] => x
  | x :: y :: r => x ++ s ++ jn s (y :: r)
inductive PFs (X : Cx) : List Expr → List TE → Prop
  | nil : PFs X [] []
  | cons {e : Expr} {t : TE} {es : List Expr} {ts : List TE} : PE X e t → PFs X es ts → PFs X (e :: es) (t :: ts)
inductive RefFs : List TE → List AE → Prop
  | nil : RefFs [] []
  | cons {t : TE} {t' : AE} {ts : List TE} {ts' : List AE} : RefE t t' → RefFs ts ts' → RefFs (t :: ts) (t' :: ts')
end L2
set_option Elab.async false
set_option linter.all false
set_option autoImplicit false
set_option maxRecDepth 100000
set_option maxHeartbeats 1000000
namespace L2
open PySem PySem.Spec PyProof.Rows
end L2
set_option Elab.async false
set_option linter.all false
set_option autoImplicit false
set_option maxRecDepth 100000
set_option maxHeartbeats 1000000
namespace L2
open PySem PySem.Spec PyProof.Rows
theorem RVs.eraseA {G : Hp} : ∀ {xs : List AV} {us : List V} (j : Nat), RVs G xs us → RVs G (xs.eraseIdx j) (us.eraseIdx j)
  | [], us, j, h => by cases h; exact rfl
  | x :: xs, us, 0, h => by obtain ⟨v, r, rfl, h1, h2⟩ := h; exact h2
  | x :: xs, us, j + 1, h => by
    obtain ⟨v, r, rfl, h1, h2⟩ := h
    exact ⟨v, _, rfl, h1, RVs.eraseA j h2⟩
def aPopAt (to : AE) (t : AA) : AE := fun ρ ω Q => to ρ ω fun x ω1 => ∃ l, x = .r (.ref l) ∧ (∃ zs, ω1 l = some (.own zs)) ∧ t ρ ω1 fun ys ω2 => ∃ (xs : List AV) (j : Nat) (y : AV), ys = [.d (.int j)] ∧ ω2 l = some (.own xs) ∧ xs.length ≤ 1000000 ∧ xs[j]? = some y ∧ Q y (ω2.put l (.own (xs.eraseIdx j)))
theorem aPopAt_eq (to : AE) (t : AA) (ρ : SA) (ω : Om) (Q : AV → Om → Prop) : aPopAt to t ρ ω Q = (to ρ ω fun x ω1 => ∃ l, x = .r (.ref l) ∧ (∃ zs, ω1 l = some (.own zs)) ∧ t ρ ω1 fun ys ω2 => ∃ (xs : List AV) (j : Nat) (y : AV), ys = [.d (.int j)] ∧ ω2 l = some (.own xs) ∧ xs.length ≤ 1000000 ∧ xs[j]? = some y ∧ Q y (ω2.put l (.own (xs.eraseIdx j)))) := rfl
section
variable {K : PySem.W.Frag} {to : TE} {to' : AE} {t : TA} {t' : AA}
theorem seqIx_nat {j n : Nat} (h : j < n) : seqIndex? (j : Int) n = some j := by
  unfold seqIndex?
  simp
  omega
theorem e_popAt (ho : RefE to to') (ht : RefA t t') : RefE (tBM K "list" rPopAt to t) (aPopAt to' t') := ⟨fun F H ω σ ρ Q Q' rp rs w k =>
  ho.go rp rs w fun x ω1 v H1 rp1 fr1 rs1 rv1 ⟨l, e, ⟨zs, hz⟩, q1⟩ => by
    subst e
    cases (show v = .ref l from rv1)
    obtain ⟨us, z1, _⟩ := rp1.own l zs hz
    refine ⟨.inl ⟨rfl, us, .inl (.inl z1)⟩, ht.go rp1 rs1 q1 fun ys ω2 vs H2 rp2 fr2 rs2 rv2 ⟨xs, j, y, e1, e2, e3, e4, q⟩ => ?_⟩
    subst e1
    obtain ⟨u, rfl, r⟩ := rvs1 rv2
    cases rv_int r
    obtain ⟨ws, z3, z4⟩ := rp2.own l xs e2
    obtain ⟨u2, g1, g2⟩ := z4.get e4
    have hj := (List.getElem?_eq_some_iff.mp g1).1
    have hl := z4.length
    obtain ⟨rp3, fr3⟩ := rp2.write (ys := xs.eraseIdx j) (vs := ws.eraseIdx j) e2 (z4.eraseA j)
    exact ⟨l, ws, j, j, u2, rfl, rfl, z3, by omega, by omega, seqIx_nat hj, g1, k _ _ _ _ rp3 ((fr1.trans fr2).trans fr3) (g2.same fr3.same) q⟩⟩
end
end L2
set_option Elab.async false
set_option linter.all false
set_option autoImplicit false
set_option maxRecDepth 100000
set_option maxHeartbeats 1000000
namespace L2
open PySem PySem.Spec PyProof.Rows PySem.W
def CXx (P : Program) (w : World) : CXT := fun outer H s E e s' => ∃ (a C t : Addr) (H' : Hp) (B : Heap), e = .ref a ∧ s'.os = s.os ∧ AllBare s'.gens ∧ Un (frs outer) [] H H' s.heap s'.heap ∧ HOk P w H' B ∧
  Heap.FlyingW B outer a (.ref C) (.ref t) s'.heap ∧ (∀ b o, s.heap.get? b = some o → H b = none → b ∉ frs outer → B.get? b = some o) ∧ (∀ b o, s.heap.get? b = some o → b ∉ frs outer → ∃ o', B.get? b = some o') ∧ E (.ref a) (some C) H'
section
variable {P : Program} {w : World} {K : PySem.W.Frag} {mg : Str → Option Value} {base : Heap} {N : List Str} {qual : Str} {scope : Scope} {f : Addr} {cd : Value} {A : Around} {outer : List Env} {s₀ : Shared} {H₀ : Hp} {E : XK}
end
section
variable {P : Program} {w : World} {K : PySem.W.Frag} {mg : Str → Option Value} {base : Heap} {N : List Str} {qual : Str} {scope : Scope} {f : Addr} {cd : Value} {A : Around} {outer : List Env} {s₀ : Shared} {H₀ : Hp} {E : XK}
end
end L2
set_option Elab.async false
set_option linter.all false
set_option autoImplicit false
set_option maxRecDepth 100000
set_option maxHeartbeats 1000000
namespace L2
open PySem PySem.Spec PySem.Calls PyProof.Rows PySem.W PySem.Builtin PySem.Builtin.ObjectAttr PySem.Builtin.Getset_descriptor
section
variable {prog : Program} {w : World} {A : Around} {E : Value → Shared → Prop} {s : Shared} {K : PySem.W.Frag} {x D : Addr}
end
section
variable {X : Cx} {CX : CXT} {k : Nat} {f : Addr} {fd : FuncData} {ps : List Str} {sp : Sp} {x : Str} {p pos : Pos} {e : Expr} {es : List Expr} {t : TA}
end
end L2
set_option Elab.async false
set_option linter.all false
set_option autoImplicit false
set_option maxRecDepth 100000
set_option maxHeartbeats 1000000
namespace L2
open PySem PySem.Spec PySem.Calls PyProof.Rows PySem.W
section
variable {X : Cx} {pins : List (Addr × Obj)} {σ : St} {H : Hp} {s : Shared}
end
section
variable {X : Cx} {CX : CXT} {e : Expr} {te : XK → TE} {pos : Pos}
end
end L2
set_option Elab.async false
set_option linter.all false
set_option autoImplicit false
set_option maxRecDepth 100000
set_option maxHeartbeats 1000000
namespace L2
open PySem PySem.Spec PyProof.Rows
abbrev ASpX := List AV → Om → (AV → Om → Prop) → (Addr → Om → Prop) → Prop
def LX (F : Fs) (H : Hp) (ω : Om) (Ex : Addr → Om → Prop) (E : XK) : Prop := ∀ C ω' a H', Rep F H' ω' → Fr F H ω H' ω' → Ex C ω' → E (.ref a) (some C) H'
abbrev AXS := AEnds → (Addr → Om → Prop) → SA → Om → Prop
structure RefSX (E : XK) (t : TS) (t' : AXS) : Prop where
  run : ∀ (F : Fs) (H : Hp) (ω : Om) (σ : St) (ρ : SA) (D : Ends) (D' : AEnds) (Ex : Addr → Om → Prop), Rep F H ω → RS (cut F H ω) ρ σ → t' D' Ex ρ ω → LE F H ω D' D → LX F H ω Ex E → t D σ H
def axSeq (t u : AXS) : AXS := fun D Ex ρ ω => t { D with nx := u D Ex } Ex ρ ω
theorem axSeq_eq (t u : AXS) (D : AEnds) (Ex : Addr → Om → Prop) (ρ : SA) (ω : Om) : axSeq t u D Ex ρ ω = t { D with nx := u D Ex } Ex ρ ω := rfl
section
variable {E : XK} {t u : TS} {t' u' : AXS} {ta : TA} {ta' : AA} {tc : TT} {tc' : AT} {sp : ASpX} {C : Addr}
end
section
variable {K : PySem.W.Frag} {T : Addr} {i j : Nat} {sp : ASpX} {ta : TA} {ta' : AA}
end
end L2
set_option Elab.async false
set_option linter.all false
set_option autoImplicit false
set_option maxRecDepth 100000
set_option maxHeartbeats 1000000
namespace L2
open PySem PySem.Spec PySem.Calls PyProof.Rows PySem.W
structure CloX (P : Program) (w : World) (K : PySem.W.Frag) (mg : Str → Option Value) (base : Heap) (H₀ : Hp) (k : Nat) (f : Addr) (n : Nat) (sp : Sp) : Prop where
  fn : ∃ (oc : Value) (od : Option Addr) (fd : FuncData) (sl : Array (Option Value)) (u : HO), H₀ f = some (.frz ⟨oc, od, .func fd, sl⟩ u)
  len : ∀ vs H Q E, sp vs H Q E → vs.length = n
  run : ∀ (A : Around) (outer : List Env) (s : Shared) (H : Hp) (us : List Value) (vs : List V) (Q : VK) (E : XK), Room k A → Env0 P w K mg base A outer s H → Frz H₀ H → Vals vs us → sp vs H Q E →
    codeAny (model P w) A (.call (.ref f) ⟨us, []⟩) (CR (CXx P w) outer P w H s Q E) s
end L2
set_option Elab.async false
set_option linter.all false
set_option autoImplicit false
set_option maxRecDepth 100000
set_option maxHeartbeats 1000000
namespace L2
open PySem PySem.Spec PySem.Calls PyProof.Rows
section
variable {prog : Program} {w : World} {A : Around} {E : Value → Shared → Prop} {S : Shared} {z u o i j l p q r : Addr} {m n : Nat} {xs ys zs : Array Value} {x y v a b c : Value} {Ii Ij Il : Nat → Heap → Prop} {Sp Sq Sr : Heap → Prop}
end
section
variable {c1 c2 c3 : String} {S1 S2 S3 : PySem.W.Frag → Hp → Addr → List V → Prop} {I1 I2 I3 : Heap → Addr → Addr → Nat → Prop} {Is1 Is2 Is3 : Heap → Addr → Array Value → Prop}
end
section
variable {K : PySem.W.Frag} {sa : TA} {sa' : AA}
end
end L2
set_option Elab.async false
set_option linter.all false
set_option autoImplicit false
set_option maxRecDepth 100000
set_option maxHeartbeats 1000000
namespace L2
open PySem PySem.Spec PyProof.Rows
inductive O where
  | d (x : D) | box (b : Bool) | tup (os : List O)
section
variable {F : Fs} {H : Hp} {ω : Om}
end
end L2
set_option Elab.async false
set_option linter.all false
set_option autoImplicit false
set_option maxRecDepth 100000
set_option maxHeartbeats 1000000
namespace L2
open PySem PySem.Spec PyProof.Rows AutoSeq1
section
variable {A : Around} {s : Shared}
end
end L2
set_option Elab.async false
set_option linter.all false
set_option autoImplicit false
set_option maxRecDepth 100000
set_option maxHeartbeats 1000000
namespace L2
open PySem PySem.Spec PyProof.Rows AutoSeq1
section
variable {prog : Program} {w : World} {A : Around} {E : Value → Shared → Prop} {s : Shared}
end
section
variable {prog : Program} {w : World} {A : Around} {E : Value → Shared → Prop} {s : Shared}
end
end L2
set_option Elab.async false
set_option linter.all false
set_option autoImplicit false
set_option maxRecDepth 100000
set_option maxHeartbeats 1000000
namespace L2
open PySem PySem.Spec PyProof PyProof.Rows PySem.SeqAt
open AutoSeq1 (wpAny_loadPart')
section
variable {prog : Program} {w : World} {A : Around} {E : Value → Shared → Prop} {s : Shared}
end
section
variable {X : Cx} {e st : Expr} {te ts : TE} {pos p2 : Pos}
end
end L2
set_option Elab.async false
set_option linter.all false
set_option autoImplicit false
set_option maxRecDepth 100000
set_option maxHeartbeats 1000000
namespace L2
open PySem PySem.Spec PyProof PyProof.Rows PySem.SeqAt
open AutoSeq1 (wpAny_loadPart')
def LtA (A : Around) (s : Shared) (x y : Value) (b : Bool) : Prop := ∀ (p : Program) (w : World) (E : Value → Shared → Prop) (Q : Value → Shared → Prop), Q (.bool b) s → wpAny (model p w) A (richCompare .Lt x y) Q E s
def LexA (A : Around) (s : Shared) (fin : Bool) : List (Value × Value) → Bool → Prop
  | [], r => r = fin
  | (p, q) :: t, r => ∃ b, EqAt A s p q b ∧ (b = true → LexA A s fin t r) ∧ (b = false → LtA A s p q r)
theorem tuple_ltA (x y : Addr) (xs ys : Array Value) (n m : Nat) (dx dy : Option Addr) (sx sy : Array (Option Value)) (r : Bool) :
    Meets (Builtin.«tuple.__lt__» ⟨[.ref x, .ref y], []⟩)
      (fun A R s => s.heap.get? x = some { cls := .type "tuple", dict := dx, data := .seq xs n, slots := sx } ∧ s.heap.get? y = some { cls := .type "tuple", dict := dy, data := .seq ys m, slots := sy } ∧
        LexA A.in1 s (decide (xs.size < ys.size)) (xs.toList.zip ys.toList) r ∧ R (.ok (.ret (.bool r))) s) :=
  .of_wp fun prog w A R s h => by
    obtain ⟨hp, g, d, tk, os⟩ := s; obtain ⟨hx, hy, he, h⟩ := h
    have f2 := AutoSeq1.sub_tuple_tuple
    wp_walk using wpAny_loadPart' hx, wpAny_loadPart' hy, wpAny_forIn_list _ (fun rest b s' => b.1 = none ∧ s' = ⟨hp, g, d, tk, os⟩ ∧ LexA A.in1 ⟨hp, g, d, tk, os⟩ (decide (xs.size < ys.size)) rest r) _
    case turn =>
      rintro ⟨p, q⟩ rest b s' ⟨hb, rfl, hL⟩
      obtain ⟨k, hk, h1, h2⟩ := hL
      refine wpAny_bind (hk prog w _ _ ?_)
      cases k with
      | true =>
        wp_walk
        exact ⟨rfl, rfl, h1 rfl⟩
      | false =>
        rw [if_pos (by rfl)]
        refine wpAny_bind (wpAny_rule (wpAny_bind (h2 rfl prog w _ _ ?_)))
        wp_walk
        exact ⟨_, rfl, h⟩
    case fin =>
      rintro ⟨b1, b2⟩ s' ⟨hb, rfl, hL⟩
      simp only at hb
      subst hb
      have e : r = decide (xs.size < ys.size) := hL
      subst e
      wp_walk
      exact ⟨_, rfl, h⟩
    case h => exact ⟨rfl, rfl, he⟩
theorem LtA.tuples {A : Around} {s : Shared} {x y : Addr} {xs ys : Array Value} {r : Bool} (hx : s.heap.IsTuple x xs) (hy : s.heap.IsTuple y ys) (hu : A.units < cLine) (he : LexA A.in1 s (decide (xs.size < ys.size)) (xs.toList.zip ys.toList) r) : LtA A s (.ref x) (.ref y) r := fun p w E Q q => by
  obtain ⟨⟨c1, d1, t1, l1⟩, o1, hc1, n1, hd1⟩ := id hx
  obtain ⟨⟨c2, d2, t2, l2⟩, o2, hc2, n2, hd2⟩ := id hy
  simp only at hc1 hd1 hc2 hd2
  subst hc1 hd1 hc2 hd2
  exact richCompare_meets_room (op := .Lt) ⟨_, o1, rfl⟩ ⟨_, o2, rfl⟩ F.slot_tuple_lt F.entry_tuple_lt (F.args_tuple_lt_2 _ _) (tuple_ltA x y xs ys n1 n2 d1 d2 l1 l2 r) ⟨o1, o2, he, show Value.bool r ≠ Value.notImplemented ∧ Q (.bool r) s from ⟨fun z => (nomatch z), q⟩⟩ hu
mutual
def ltD : D → D → Bool
  | .int a, .int b => decide (a < b)
  | .str a, .str b => decide (a.cps.toList < b.cps.toList)
  | .tup xs, .tup ys => ltDs xs ys
  | _, _ => false
def ltDs : List D → List D → Bool
  | [], [] => false
  | [], _ :: _ => true
  | _ :: _, [] => false
  | x :: xs, y :: ys => if eqD x y then ltDs xs ys else ltD x y
end
mutual
def cmD : D → D → Bool
  | .int _, .int _ => true
  | .str _, .str _ => true
  | .tup xs, .tup ys => cmDs xs ys
  | _, _ => false
def cmDs : List D → List D → Bool
  | x :: xs, y :: ys => if eqD x y then cmDs xs ys else cmD x y
  | _, _ => true
end
section
variable {X : Cx} {pins : List (Addr × Obj)} {σ : St} {H : Hp} {s : Shared}
theorem lexA_D (I : Inv X pins σ H s) {A : Around} {n : Nat} (hu : A.units + n < cLine) (lt : ∀ (d e : D) (x y : V) (v u : Value), dep d ≤ n → Dat H d x → Dat H e y → RelV x v → RelV y u → cmD d e = true → LtA A s v u (ltD d e)) :
    ∀ {ds es : List D} {xs ys : List V} {vs us : List Value}, deps ds ≤ n → Dats H ds xs → Dats H es ys → Vals xs vs → Vals ys us → cmDs ds es = true → LexA A s (decide (vs.length < us.length)) (vs.zip us) (ltDs ds es)
  | [], [], xs, ys, vs, us, _, h1, h2, r1, r2, _ => by
    simp only [Dats] at h1 h2
    subst h1 h2
    cases r1; cases r2
    rfl
  | [], e :: es, xs, ys, vs, us, _, h1, h2, r1, r2, _ => by
    simp only [Dats] at h1 h2
    obtain ⟨y, yr, rfl, _, _⟩ := h2
    subst h1
    cases r1; cases r2
    simp [LexA, ltDs]
  | d :: ds, [], xs, ys, vs, us, _, h1, h2, r1, r2, _ => by
    simp only [Dats] at h1 h2
    obtain ⟨x, xr, rfl, _, _⟩ := h1
    subst h2
    cases r1; cases r2
    simp [LexA, ltDs]
  | d :: ds, e :: es, xs, ys, vs, us, hd, h1, h2, r1, r2, hc => by
    simp only [Dats] at h1 h2
    obtain ⟨x, xr, rfl, hx, hxr⟩ := h1
    obtain ⟨y, yr, rfl, hy, hyr⟩ := h2
    cases r1 with
    | @cons _ v _ vs rx rxr =>
    cases r2 with
    | @cons _ u _ us ry ryr =>
    have d1 : dep d ≤ n := Nat.le_trans (deps_mem (List.mem_cons_self ..)) hd
    have d2 : deps ds ≤ n := by simp only [deps] at hd; omega
    simp only [cmDs] at hc
    simp only [List.zip_cons_cons, LexA, ltDs]
    refine ⟨eqD d e, (eqAt_D I n d e x y v u A d1 hu hx hy rx ry).2.1, fun q => ?_, fun q => ?_⟩
    · rw [if_pos q] at hc ⊢
      have := lexA_D I hu lt d2 hxr hyr rxr ryr hc
      rw [show decide ((v :: vs).length < (u :: us).length) = decide (vs.length < us.length) from by simp]
      exact this
    · rw [if_neg (by rw [q]; decide)] at hc ⊢
      exact lt d e x y v u d1 hx hy rx ry hc
theorem ltA_D (I : Inv X pins σ H s) : ∀ (n : Nat) (A : Around) (d e : D) (x y : V) (v u : Value), A.units + n < cLine → dep d ≤ n → Dat H d x → Dat H e y → RelV x v → RelV y u → cmD d e = true → LtA A s v u (ltD d e) := fun n => by
  induction n with
  | zero =>
    intro A d e x y v u hu hd hx hy rx ry hc
    cases d with
    | int a =>
      cases e <;> simp only [cmD, Bool.false_eq_true] at hc
      simp only [Dat] at hx hy
      subst hx hy
      obtain ⟨t1, rfl⟩ := rx
      obtain ⟨t2, rfl⟩ := ry
      exact fun p w E Q q => lt_int q
    | str a =>
      cases e <;> simp only [cmD, Bool.false_eq_true] at hc
      simp only [Dat] at hx hy
      subst hx hy
      obtain ⟨t1, rfl⟩ := rx
      obtain ⟨t2, rfl⟩ := ry
      exact fun p w E Q q => lt_str q
    | tup ds => simp [dep] at hd
    | non => cases e <;> simp [cmD] at hc
    | bl b => cases e <;> simp [cmD] at hc
    | lst b => cases e <;> simp [cmD] at hc
  | succ n ih =>
    intro A d e x y v u hu hd hx hy rx ry hc
    by_cases h0 : dep d ≤ n
    · exact ih A d e x y v u (by omega) h0 hx hy rx ry hc
    have hin : A.in1.units + n < cLine := by show A.units + 1 + n < cLine; omega
    cases d with
    | tup ds =>
      cases e <;> simp only [cmD, Bool.false_eq_true] at hc
      rename_i es
      simp only [Dat] at hx hy
      obtain ⟨a, xs, rfl, ha, hxs⟩ := hx
      obtain ⟨b, ys, rfl, hb, hys⟩ := hy
      cases rx; cases ry
      obtain ⟨its, r1, p1⟩ := tup_at I ha
      obtain ⟨jts, r2, p2⟩ := tup_at I hb
      have := lexA_D I hin (fun d e x y v u q1 q2 q3 q4 q5 q6 => ih A.in1 d e x y v u hin q1 q2 q3 q4 q5 q6) (by simp only [dep] at hd; omega) hxs hys r1 r2 hc
      exact LtA.tuples p1 p2 (by omega) (by simpa [ltD] using this)
    | int a => simp only [dep] at h0; omega
    | str a => simp only [dep] at h0; omega
    | non => cases e <;> simp [cmD] at hc
    | bl b => cases e <;> simp [cmD] at hc
    | lst b => cases e <;> simp [cmD] at hc
def rLtD : R2 := fun x y H Q => ∃ d e, Dat H d x ∧ Dat H e y ∧ dep d ≤ 100 ∧ cmD d e = true ∧ Q (.bl (ltD d e)) H
theorem op_ltD (hu : X.A.units + 100 < cLine) : OpR X (compareOp .Lt) rLtD := by
  intro pins s σ H x y v u Q I rx ry h
  obtain ⟨d, e, hx, hy, hd, hc, q⟩ := h
  exact ltA_D I 100 X.A d e x y v u hu hd hx hy rx ry hc X.prog X.w _ _ ⟨.bl _, H, I, rfl, q⟩
end
def aLtD : A2 := fun x y ω Q => ∃ a b, datA ω x = some a ∧ datA ω y = some b ∧ dep a ≤ 100 ∧ cmD a b = true ∧ Q (.d (.bl (ltD a b))) ω
theorem aLtD_eq (x y : AV) (ω : Om) (Q : AV → Om → Prop) : aLtD x y ω Q = ∃ a b, datA ω x = some a ∧ datA ω y = some b ∧ dep a ≤ 100 ∧ cmD a b = true ∧ Q (.d (.bl (ltD a b))) ω := rfl
theorem o_ltD : Ref2 rLtD aLtD := ⟨fun F H ω v u x y Q Q' rp h1 h2 ⟨a, b, e1, e2, s, c, q⟩ k => ⟨a, b, dat_of rp h1 e1, dat_of rp h2 e2, s, c, k.bl rp q⟩⟩
section
variable {X : Cx} {pins : List (Addr × Obj)} {σ : St} {H : Hp} {s : Shared} {A : Around} {E : Value → Shared → Prop} {Q : Value → Shared → Prop} {b : Bool}
end
end L2
set_option Elab.async false
set_option linter.all false
set_option autoImplicit false
set_option maxRecDepth 100000
set_option maxHeartbeats 1000000
namespace L2
open PySem PySem.Spec PyProof PyProof.Rows PySem.SeqAt
end L2
set_option Elab.async false
set_option linter.all false
set_option autoImplicit false
set_option maxRecDepth 100000
set_option maxHeartbeats 1000000
namespace L2
open PySem PySem.Spec PySem.Calls PyProof PyProof.Rows PySem.SeqAt
section
variable {prog : Program} {w : World} {A : Around} {E : Value → Shared → Prop} {s : Shared}
theorem collect_seq {a : Addr} {ob : Obj} {us : List Value} {m : Nat} {C : List Value → Shared → Prop} (g : s.heap.get? a = some ob) (gc : ob.cls = .type "list" ∨ ob.cls = .type "tuple") (gd : ob.data = .seq us.toArray m) (hz : us.length ≤ sizeLine)
    (q : C us { s with heap := (s.heap.push (seqObj "list" #[] 0)).update s.heap.objs.size (Obj.mapSeq (· ++ us.toArray)) }) : wpAny (model prog w) A (collect (.ref a)) C E s := by
  rcases gc with gc | gc
  · exact collect_list ⟨ob, g, gc, m, gd⟩ q hz
  unfold collect
  refine wpAny_bind (wpAny_runValue (codeAny_builtin entry_proto_collect' ?_))
  show wpAny _ _ (do again (.builtin "list.__iadd__" ⟨[← newList [], .ref a], []⟩)) _ _ s
  refine wpAny_bind (wpAny_newList (wpAny_pure ⟨Code.quiet_builtin _ (by decide +kernel), codeAny_builtin entry_list_iadd' ?_⟩))
  have gp : (s.heap.push (seqObj "list" #[] 0)).get? a = some ob := Heap.get?_push_of_some _ g
  show wpAny _ _ (Builtin.List.listExtendWith (.ref s.heap.objs.size) (.ref a) (.ref s.heap.objs.size)) _ _ { s with heap := s.heap.push (seqObj "list" #[] 0) }
  unfold Builtin.List.listExtendWith
  refine wpAny_bind (wpAny_typeOf (T := "tuple") ⟨ob, gp, gc⟩ ?_)
  have ht : (Value.type "tuple" == Value.type "tuple") = true := by rfl
  rw [if_pos (by rw [ht]; simp)]
  refine wpAny_bind (listItems_at gp gd (wpAny_bind (listItems_at (xs := #[]) (n := 0) (Heap.get?_push_size _ rfl) rfl ?_)))
  rw [if_neg (by simp)]
  refine wpAny_bind (listUpdate_at (xs := #[]) (n := 0) (Heap.get?_push_size _ rfl) rfl (wpAny_pure ?_) (Nat.zero_le _) (by show (#[] ++ us.toArray).size ≤ sizeLine + 1; simp only [Array.size_append, List.size_toArray, List.length_nil]; omega))
  show wpAny (model prog w) A (do
      let o ← load s.heap.objs.size
      match o.data with | .seq xs _ => pure xs.toList | _ => unsupported "internal:collect") C E { s with heap := (s.heap.push (seqObj "list" #[] 0)).update s.heap.objs.size (Obj.mapSeq (· ++ us.toArray)) }
  refine wpAny_bind (wpAny_load (get?_update_seq (Heap.get?_push_size _ rfl) _) ?_)
  show wpAny _ _ (pure ((#[] : Array Value) ++ us.toArray).toList) C E _
  rw [show ((#[] : Array Value) ++ us.toArray).toList = us by simp]
  exact wpAny_pure q
def sortC (c : Nat → Nat → Bool) (n : Nat) : Array Nat := if n < 2 then (List.range n).toArray else kEnd c (PySem.W.kas_sort n)
theorem sortC_ord (c : Nat → Nat → Bool) (n : Nat) : Ord n (sortC c n) := by
  unfold sortC
  split
  · exact .refl _
  · exact KG.fin _ (kg_sort (by omega))
def outC (vs : List Value) (c : Nat → Nat → Bool) : Array Value := List.toArray ((sortC c vs.length).toList.map fun i => vs.getD i Value.none)
theorem outC_size (vs : List Value) (c : Nat → Nat → Bool) : (outC vs c).size = vs.length := by
  have a := (sortC_ord c vs.length).size_eq
  simp [outC] at a ⊢
  omega
def KeepH (h0 h : Heap) : Prop := ∀ x o, h0.get? x = some o → h.get? x = some o
structure SrtH (prog : Program) (w : World) (A : Around) (h0 : Heap) (s : Shared) (vs : List Value) (c : Nat → Nat → Bool) (b : Bool) : Prop where
  kind : ∀ h, KeepH h0 h → ∃ fs T, PySem.W.KatTups h vs fs ∧ fs.length = vs.length ∧ (∀ v ∈ fs, PySem.W.Looks (model prog w) h (typeOf v) T) ∧ (T == T) = true ∧ (T != Value.type "tuple") = b
  ask : ∀ h, KeepH h0 h → ∀ i j, i < vs.length → j < vs.length → ∀ (C : Bool → Shared → Prop) (E : Value → Shared → Prop), C (c i j) { s with heap := h } → wpAny (model prog w) A (keyLt' (tuples' b) (vs.getD i Value.none) (vs.getD j Value.none)) C E { s with heap := h }
theorem sort_gen {a : Addr} {vs : List Value} {c : Nat → Nat → Bool} {b : Bool} {k : Nat} {h0 : Heap} {P : PySem.Fin → Shared → Prop} (g : s.heap.get? a = some (seqObj "list" vs.toArray k)) (kp : ∀ x o, h0.get? x = some o → x ≠ a ∧ s.heap.get? x = some o) (S : 2 ≤ vs.length → SrtH prog w A h0 s vs c b) (hs : vs.length < 64)
    (q : P (.done (.ret .none)) { s with heap := sortedHeap s.heap a vs (outC vs c) }) : wpAny (model prog w) A (Builtin.«list.sort» ⟨[.ref a], []⟩) P E s := by
  have z64 : 64 ≤ sizeLine := by rw [sizeLine_eq]; omega
  have zv : vs.toArray.size ≤ sizeLine := by rw [List.size_toArray]; omega
  have zo := outC_size vs c
  rw [list_sort_plain]
  obtain ⟨e1, g1⟩ : ∃ e1, (s.heap.update a (Obj.mapSeq fun _ => (#[] : Array Value))).get? a = some (seqObj "list" #[] e1) := ⟨_, get?_update_seq g fun _ => #[]⟩
  refine wpAny_bind (listItems_at g rfl (wpAny_bind (listUpdate_at g rfl (wpAny_bind (seqEpoch_at g1 rfl (wpAny_bind (wpAny_newTuple (wpAny_bind (wpAny_newList (wpAny_holding ?_) (Nat.zero_le _))) ?_)))) zv (Nat.zero_le _))))
  case refine_2 => show vs.length ≤ _; omega
  have g3 : (((s.heap.update a (Obj.mapSeq fun _ => (#[] : Array Value))).push (seqObj "tuple" vs.toArray 0)).push (seqObj "list" #[] 0)).get? a = some (seqObj "list" #[] e1) := Heap.get?_push_of_some _ (Heap.get?_push_of_some _ g1)
  have k3 : KeepH h0 (((s.heap.update a (Obj.mapSeq fun _ => (#[] : Array Value))).push (seqObj "tuple" vs.toArray 0)).push (seqObj "list" #[] 0)) := fun x o e => by
    obtain ⟨nx, ex⟩ := kp x o e
    exact Heap.get?_push_of_some _ (Heap.get?_push_of_some _ ((Heap.get?_update_ne _ _ _ _ nx).trans ex))
  show wpAny (model prog w) A _ P E { s with heap := ((s.heap.update a (Obj.mapSeq fun _ => (#[] : Array Value))).push (seqObj "tuple" vs.toArray 0)).push (seqObj "list" #[] 0) }
  have fin : ∀ out : Array Value, out = outC vs c → P (.done (.ret .none)) { s with heap := (((s.heap.update a (Obj.mapSeq fun _ => (#[] : Array Value))).push (seqObj "tuple" vs.toArray 0)).push (seqObj "list" #[] 0)).update a (Obj.mapSeq fun _ => out) } := fun out e => by
    subst e
    exact q
  generalize hh : ((s.heap.update a (Obj.mapSeq fun _ => (#[] : Array Value))).push (seqObj "tuple" vs.toArray 0)).push (seqObj "list" #[] 0) = hp at g3 k3 fin ⊢
  dsimp only
  by_cases h2 : vs.toArray.size < 2
  · rw [if_pos h2, if_pos h2]
    refine wpAny_bind (wpAny_pure ?_)
    rw [StateT.run_pure]
    refine wpAny_bind (wpAny_pure ?_)
    dsimp only
    have same : (arrOf (SortSt.mk' general' (vs.toArray.zip vs.toArray) #[] 7 none)).map (·.2) = outC vs c := by
      rw [List.size_toArray] at h2
      unfold outC sortC
      rw [if_pos h2]
      exact small_out vs h2
    rw [same]
    refine wpAny_bind (seqEpoch_at g3 rfl (wpAny_bind (listUpdate_at g3 rfl ?_ (Nat.zero_le _) (by omega))))
    simp only [bne_self_eq_false, Bool.false_eq_true, if_false]
    exact wpAny_pure (fin _ rfl)
  · rw [if_neg h2, if_neg h2]
    rw [List.size_toArray] at h2
    have S := S (by omega)
    obtain ⟨fs, T, t1, t2, t3, t4, t5⟩ := S.kind hp k3
    refine wpAny_bind (PySem.W.kat_kind (T := T) t1 (by omega) t3 t4 ?_)
    rw [t5]
    refine wpAny_bind (wpAny_mono (PySem.W.kat_run (E := E) (Q := fun st' s' => failedOf st' = none ∧ (arrOf st').map (·.2) = outC vs c ∧ s' = { s with heap := hp }) (G := fun p s' => p = sortC c vs.length ∧ s' = { s with heap := hp }) rfl (by omega) hs (fun p st' s' _ b1 b2 b3 => ⟨b2, ?_, b3.2⟩) (KG.wp (c := c) (fun i j C hi hj hC => ?_) (kg_sort (by omega)) ⟨?_, rfl⟩)) ?_ fun _ _ e => e)
    · rw [PySem.W.kat_snds rfl b1, b3.1]
      rfl
    · exact S.ask hp k3 i j hi hj C _ hC
    · unfold sortC
      rw [if_neg h2]
    · rintro ⟨⟨⟩, st'⟩ s' ⟨b1, b2, rfl⟩
      dsimp only at b1 b2 ⊢
      rw [b2]
      refine wpAny_bind (seqEpoch_at g3 rfl (wpAny_bind (listUpdate_at g3 rfl ?_ (Nat.zero_le _) (by omega))))
      rw [b1]
      simp only [bne_self_eq_false, Bool.false_eq_true, if_false]
      exact wpAny_pure (fin _ rfl)
theorem sorted_gen {l : Addr} {ob : Obj} {vs : List Value} {m : Nat} {c : Nat → Nat → Bool} {b : Bool} {Q : Value → Shared → Prop} (g : s.heap.get? l = some ob) (gc : ob.cls = .type "list" ∨ ob.cls = .type "tuple") (gd : ob.data = .seq vs.toArray m) (S : 2 ≤ vs.length → ∀ A' : Around, A'.units ≤ A.units + 3 → SrtH prog w A' s.heap s vs c b) (hs : vs.length < 64)
    (q : Q (.ref (s.heap.objs.size + 1)) { s with heap := sortedAll s.heap vs (outC vs c) }) : wpAny (model prog w) A (call (.builtin "sorted") [.ref l]) Q E s := by
  have z64 : 64 ≤ sizeLine := by rw [sizeLine_eq]; omega
  refine Calls.call_function_entry kind_sorted plain_sorted entry_sorted (args_sorted1 _) ?_
  unfold Builtin.«sorted»
  have n1 : ((s.heap.push (seqObj "list" #[] 0)).update s.heap.objs.size (Obj.mapSeq (· ++ vs.toArray))).objs.size = s.heap.objs.size + 1 := by rw [Heap.size_update, size_push']
  refine wpAny_bind (m := checkCount "sorted" 1 1 _) (wpAny_pure (wpAny_bind (collect_seq g gc gd (by omega) (wpAny_bind (wpAny_newList ?_ (by omega))))))
  have g2 : (((s.heap.push (seqObj "list" #[] 0)).update s.heap.objs.size (Obj.mapSeq (· ++ vs.toArray))).push (seqObj "list" vs.toArray 0)).get? (s.heap.objs.size + 1) = some (seqObj "list" vs.toArray 0) := by
    rw [← n1]; exact Heap.get?_push_size _ rfl
  have kp : ∀ x o, s.heap.get? x = some o → x ≠ s.heap.objs.size + 1 ∧ (((s.heap.push (seqObj "list" #[] 0)).update s.heap.objs.size (Obj.mapSeq (· ++ vs.toArray))).push (seqObj "list" vs.toArray 0)).get? x = some o := fun x o e => by
    have lt := Heap.lt_size e
    exact ⟨Nat.ne_of_lt (Nat.lt_succ_of_lt lt), Heap.get?_push_of_some _ ((Heap.get?_update_ne _ _ _ _ (Nat.ne_of_lt lt)).trans (Heap.get?_push_of_some _ e))⟩
  show wpAny _ _ _ _ _ { s with heap := ((s.heap.push (seqObj "list" #[] 0)).update s.heap.objs.size (Obj.mapSeq (· ++ vs.toArray))).push (seqObj "list" vs.toArray 0) }
  rw [n1]
  refine wpAny_bind (wpAny_holding (wpAny_call_entry slot_list_sort ⟨_, g2, rfl⟩ entry_list_sort (sort_gen (c := c) (b := b) g2 kp (fun h2 => ?_) hs ⟨_, rfl, wpAny_pure ⟨_, rfl, q⟩⟩) (args_list_sort _)))
  have S1 := S h2 A.in1.in1 (by show A.units + 1 + 1 ≤ A.units + 3; omega)
  exact ⟨S1.kind, fun h kh i j hi hj C E' hC => S1.ask h kh i j hi hj C E' hC⟩
end
section
variable {X : Cx} {pins : List (Addr × Obj)} {σ : St} {H : Hp} {s : Shared} {A : Around}
def sameK : List D → List D → Bool
  | .str _ :: _, .str _ :: _ => true
  | .int _ :: _, .int _ :: _ => true
  | _, _ => false
theorem lexK_D (I : Inv X pins σ H s) {n : Nat} (hu : A.units + n < cLine) {b : Bool} {Q : Bool → Shared → Prop} :
    ∀ {ds es : List D} {xs ys : List V} {vs us : List Value} (i : Nat), deps ds ≤ n → Dats H ds xs → Dats H es ys → Vals xs vs → Vals ys us → cmDs ds es = true → ((b && i == 0) = true → sameK ds es = true) → Q (ltDs ds es) s →
      PySem.W.KatLex X.prog X.w A b (decide (vs.length < us.length)) Q (vs.zip us) i s
  | [], [], xs, ys, vs, us, i, _, h1, h2, r1, r2, _, _, q => by
    simp only [Dats] at h1 h2
    subst h1 h2
    cases r1; cases r2
    exact PySem.W.kat_nil q
  | [], e :: es, xs, ys, vs, us, i, _, h1, h2, r1, r2, _, _, q => by
    simp only [Dats] at h1 h2
    obtain ⟨y, yr, rfl, _, _⟩ := h2
    subst h1
    cases r1; cases r2
    exact PySem.W.kat_nil (by simpa [ltDs] using q)
  | d :: ds, [], xs, ys, vs, us, i, _, h1, h2, r1, r2, _, _, q => by
    simp only [Dats] at h1 h2
    obtain ⟨x, xr, rfl, _, _⟩ := h1
    subst h2
    cases r1; cases r2
    exact PySem.W.kat_nil (by simpa [ltDs] using q)
  | d :: ds, e :: es, xs, ys, vs, us, i, hd, h1, h2, r1, r2, hc, hk, q => by
    simp only [Dats] at h1 h2
    obtain ⟨x, xr, rfl, hx, hxr⟩ := h1
    obtain ⟨y, yr, rfl, hy, hyr⟩ := h2
    cases r1 with
    | @cons _ v _ vs rx rxr =>
    cases r2 with
    | @cons _ u _ us ry ryr =>
    have d1 : dep d ≤ n := Nat.le_trans (deps_mem (List.mem_cons_self ..)) hd
    have d2 : deps ds ≤ n := by simp only [deps] at hd; omega
    simp only [cmDs] at hc
    simp only [ltDs] at q
    rw [List.zip_cons_cons, show decide ((v :: vs).length < (u :: us).length) = decide (vs.length < us.length) from by simp]
    refine PySem.W.kat_cons ((eqAt_D I n d e x y v u A d1 hu hx hy rx ry).2.1 X.prog X.w _ _ ?_)
    by_cases h : eqD d e = true
    · rw [h]
      rw [if_pos h] at hc q
      exact PySem.W.kat_yes (lexK_D I hu (i + 1) d2 hxr hyr rxr ryr hc (fun z => by simp at z) q)
    · rw [show eqD d e = false from by simpa using h]
      rw [if_neg h] at hc q
      refine PySem.W.kat_no ?_
      cases hb : (b && i == 0) with
      | false => exact PySem.W.kat_one _ _ (ltA_D I n A d e x y v u hu d1 hx hy rx ry hc X.prog X.w _ _ q)
      | true =>
        have hk := hk hb
        cases d <;> cases e <;> simp only [sameK, Bool.false_eq_true] at hk
        · simp only [Dat] at hx hy
          subst hx hy
          obtain ⟨t1, rfl⟩ := rx
          obtain ⟨t2, rfl⟩ := ry
          exact oneLt_int q
        · simp only [Dat] at hx hy
          subst hx hy
          obtain ⟨t1, rfl⟩ := rx
          obtain ⟨t2, rfl⟩ := ry
          exact oneLt_str q
def RowK (k : Bool) (d : D) : Prop := ∃ r, (k = true ∧ ∃ z, d = .tup (.str z :: r)) ∨ (k = false ∧ ∃ i, d = .tup (.int i :: r))
theorem rows_tups (I : Inv X pins σ H s) {k : Bool} : ∀ {W : List D} {xs : List V} {vs : List Value}, (∀ d ∈ W, RowK k d) → Dats H W xs → Vals xs vs → ∃ fs, PySem.W.KatTups s.heap vs fs ∧ fs.length = vs.length ∧ ∀ v ∈ fs, (k = true ∧ ∃ z t, v = .str z t) ∨ (k = false ∧ ∃ n t, v = .int n t)
  | [], xs, vs, _, h, r => by
    simp only [Dats] at h
    subst h
    cases r
    exact ⟨[], trivial, rfl, by simp⟩
  | d :: W, xs, vs, hk, h, r => by
    simp only [Dats] at h
    obtain ⟨x, xr, rfl, hx, hxr⟩ := h
    cases r with
    | @cons _ v _ vs rx rxr =>
    obtain ⟨fs, g1, g2, g3⟩ := rows_tups I (fun e he => hk e (List.mem_cons_of_mem _ he)) hxr rxr
    have mk : ∀ (f : D) (rest : List D), d = .tup (f :: rest) → ∃ a o its n fv fx, v = .ref a ∧ s.heap.get? a = some o ∧ o.cls = .type "tuple" ∧ o.data = .seq its n ∧ its[0]? = some fv ∧ Dat H f fx ∧ RelV fx fv := fun f rest e => by
      subst e
      simp only [Dat] at hx
      obtain ⟨a, ys, rfl, ha, hys⟩ := hx
      simp only [Dats] at hys
      obtain ⟨fx, yr, rfl, hf, _⟩ := hys
      cases rx
      obtain ⟨_, its, e4, ⟨o, e5, e6, n, e7⟩, _⟩ := I.hok a _ ha
      cases e4 with
      | @cons _ fv _ vr rf _ => exact ⟨a, o, _, n, fv, fx, rfl, e5, e6, e7, by simp, hf, rf⟩
    obtain ⟨rest, ⟨k1, z, e⟩ | ⟨k1, z, e⟩⟩ := hk d List.mem_cons_self
    · obtain ⟨a, o, its, n, fv, fx, rfl, e5, e6, e7, e8, hf, rf⟩ := mk _ _ e
      simp only [Dat] at hf
      subst hf
      obtain ⟨t, rfl⟩ := rf
      refine ⟨_ :: fs, PySem.W.KatTups.cons e5 e6 e7 e8 g1, by simp [g2], fun v hv => ?_⟩
      rcases List.mem_cons.mp hv with rfl | hv
      · exact .inl ⟨k1, z, t, rfl⟩
      · exact g3 v hv
    · obtain ⟨a, o, its, n, fv, fx, rfl, e5, e6, e7, e8, hf, rf⟩ := mk _ _ e
      simp only [Dat] at hf
      subst hf
      obtain ⟨t, rfl⟩ := rf
      refine ⟨_ :: fs, PySem.W.KatTups.cons e5 e6 e7 e8 g1, by simp [g2], fun v hv => ?_⟩
      rcases List.mem_cons.mp hv with rfl | hv
      · exact .inr ⟨k1, z, t, rfl⟩
      · exact g3 v hv
end
section
variable {X : Cx} {pins : List (Addr × Obj)} {σ : St} {H : Hp} {s : Shared} {A : Around}
theorem RowK.same {k : Bool} {ds es : List D} (h1 : RowK k (.tup ds)) (h2 : RowK k (.tup es)) : sameK ds es = true := by
  obtain ⟨r, ⟨k1, z, e⟩ | ⟨k1, z, e⟩⟩ := h1
  · obtain ⟨r', ⟨k2, z', e'⟩ | ⟨k2, z', e'⟩⟩ := h2
    · cases e; cases e'; rfl
    · rw [k1] at k2; cases k2
  · obtain ⟨r', ⟨k2, z', e'⟩ | ⟨k2, z', e'⟩⟩ := h2
    · rw [k1] at k2; cases k2
    · cases e; cases e'; rfl
theorem RowK.tup {k : Bool} {d : D} (h : RowK k d) : ∃ ds, d = .tup ds := by
  obtain ⟨r, ⟨_, z, e⟩ | ⟨_, z, e⟩⟩ := h
  · exact ⟨_, e⟩
  · exact ⟨_, e⟩
theorem srtH_D (I : Inv X pins σ H s) {n : Nat} (hu : A.units + n < cLine) {k : Bool} {W : List D} {xs : List V} {vs : List Value} {c : Nat → Nat → Bool} (hk : ∀ d ∈ W, RowK k d) (hd : deps W ≤ n) (hx : Dats H W xs) (r : Vals xs vs) (hc : ∀ d ∈ W, ∀ e ∈ W, cmD d e = true)
    (hl : ∀ i j, i < W.length → j < W.length → c i j = ltD (W.getD i .non) (W.getD j .non)) : SrtH X.prog X.w A s.heap s vs c true := by
  have inv : ∀ h, KeepH s.heap h → Inv X pins σ H { s with heap := h } := fun h kh => I.kept (t' := s.toks) fun b o e => kh b o e
  have hlen : vs.length = W.length := by rw [← r.length, hx.length]
  refine ⟨fun h kh => ?_, fun h kh i j hi hj C E q => ?_⟩
  · obtain ⟨fs, f1, f2, f3⟩ := rows_tups (inv h kh) hk hx r
    cases k with
    | true =>
      refine ⟨fs, .type "str", f1, f2, fun v hv => ?_, rfl, rfl⟩
      rcases f3 v hv with ⟨_, z, t, rfl⟩ | ⟨k1, _⟩
      · exact PySem.W.Looks.now
      · cases k1
    | false =>
      refine ⟨fs, .type "int", f1, f2, fun v hv => ?_, rfl, rfl⟩
      rcases f3 v hv with ⟨k1, _⟩ | ⟨_, z, t, rfl⟩
      · cases k1
      · exact PySem.W.Looks.now
  · have J := inv h kh
    have at' : ∀ i, i < vs.length → ∃ a ds ys its o m, W.getD i .non = .tup ds ∧ D.tup ds ∈ W ∧ vs.getD i Value.none = .ref a ∧ Dats H ds ys ∧ Vals ys its ∧ h.get? a = some o ∧ o.data = .seq its.toArray m := fun i hi => by
      have hw : i < W.length := by omega
      have hm : W[i] ∈ W := List.getElem_mem hw
      obtain ⟨ds, e⟩ := (hk _ hm).tup
      obtain ⟨x, ex, dx⟩ := hx.get (List.getElem?_eq_getElem hw)
      obtain ⟨u, eu, ru⟩ := r.get ex
      rw [e] at dx hm
      simp only [Dat] at dx
      obtain ⟨a, ys, rfl, ha, hys⟩ := dx
      cases ru
      obtain ⟨_, its, r4, ⟨o, e5, e6, m, e7⟩, _⟩ := (show ObjOk X.prog X.w H h a (.tup ys) from J.hok a _ ha)
      exact ⟨a, ds, ys, its, o, m, by rw [List.getD_eq_getElem?_getD, List.getElem?_eq_getElem hw, e]; rfl, hm, by rw [List.getD_eq_getElem?_getD, eu]; rfl, hys, r4, e5, e7⟩
    obtain ⟨a1, ds, ys, its, o1, m1, w1, i1, v1, d1, r1, g1, b1⟩ := at' i hi
    obtain ⟨a2, es, zs, jts, o2, m2, w2, i2, v2, d2, r2, g2, b2⟩ := at' j hj
    rw [hl i j (by omega) (by omega), w1, w2] at q
    rw [v1, v2]
    refine PySem.W.kat_lt g1 b1 g2 b2 ?_
    have dd : deps ds ≤ n := by
      have := deps_mem i1
      simp only [dep] at this
      omega
    have := lexK_D (Q := C) J hu (b := true) 0 dd d1 d2 r1 r2 (hc _ i1 _ i2) (fun _ => (hk _ i1).same (hk _ i2)) q
    simpa using this
end
def srtV (xs : List V) (c : Nat → Nat → Bool) : List V := (sortC c xs.length).toList.map fun i => xs.getD i .non
def srtC (W : List D) (c : Nat → Nat → Bool) : List D := (sortC c W.length).toList.map fun i => W.getD i .non
theorem srtC_perm (W : List D) (c : Nat → Nat → Bool) : (srtC W c).Perm W := by
  have h : (sortC c W.length).toList.Perm (List.range W.length) := by simpa using (sortC_ord c W.length).toList
  refine (h.map fun i => W.getD i .non).trans (.of_eq ?_)
  apply List.ext_getElem?
  intro i
  by_cases hi : i < W.length
  · rw [List.getElem?_map, List.getElem?_range hi, List.getElem?_eq_getElem hi]
    simp [hi]
  · rw [List.getElem?_eq_none (by simpa using hi), List.getElem?_eq_none (by simpa using hi)]
theorem dats_pickD {H : Hp} {W : List D} {xs : List V} (h : Dats H W xs) : ∀ {l : List Nat}, (∀ i ∈ l, i < W.length) → Dats H (l.map fun i => W.getD i .non) (l.map fun i => xs.getD i .non)
  | [], _ => by simp [Dats]
  | i :: l, q => by
    have hi := q i (List.mem_cons_self ..)
    obtain ⟨x, e, hx⟩ := h.get (List.getElem?_eq_getElem hi)
    simp only [List.map_cons, Dats]
    refine ⟨_, _, rfl, ?_, dats_pickD h fun j hj => q j (List.mem_cons_of_mem _ hj)⟩
    rw [List.getD_eq_getElem?_getD, List.getD_eq_getElem?_getD, e, List.getElem?_eq_getElem hi]
    exact hx
theorem dats_srtC {H : Hp} {W : List D} {xs : List V} (h : Dats H W xs) (c : Nat → Nat → Bool) : Dats H (srtC W c) (srtV xs c) := by
  unfold srtC srtV
  rw [h.length]
  exact dats_pickD h fun i hi => (sortC_ord c W.length).mem hi
def rSortD (K : PySem.W.Frag) : List V → Hp → VK → Prop := fun xs H Q => ∃ (p : Addr) (ys : List V) (W : List D) (c : Nat → Nat → Bool) (k : Bool), xs = [.ref p] ∧ (SqL K H p ys ∨ SqT K H p ys) ∧ Dats H W ys ∧ (2 ≤ W.length → (∀ d ∈ W, RowK k d) ∧ ∀ d ∈ W, ∀ e ∈ W, cmD d e = true) ∧ deps W ≤ 90 ∧
  (∀ i j, i < W.length → j < W.length → c i j = ltD (W.getD i .non) (W.getD j .non)) ∧ W.length < 64 ∧ ∀ l, H l = none → Q (.ref l) (upd H l (.lst (srtV ys c)))
theorem call_sortedD {X : Cx} (K : PySem.W.Frag) (hK : X.K = K) (hu : X.A.units + 100 < cLine) : CallR X (.builtin "sorted") (rSortD K) := by
  subst hK
  intro pins s σ H xs us Q I r h
  obtain ⟨p, ys, W, c, k, rfl, hq, hd, hr, hdp, hl, hW, q⟩ := h
  obtain ⟨u, rfl, rx⟩ := vals1 r
  cases rx
  obtain ⟨its, ob, m, r', g, gc, gd⟩ : ∃ its ob m, Vals ys its ∧ s.heap.get? p = some ob ∧ (ob.cls = .type "list" ∨ ob.cls = .type "tuple") ∧ ob.data = .seq its.toArray m := by
    rcases hq with hq | hq
    · obtain ⟨its, r', pl, hz⟩ := I.list hq
      obtain ⟨ob, g, gc, m, gd⟩ := pl.isList
      exact ⟨its, ob, m, r', g, .inl gc, gd⟩
    · obtain ⟨its, r', pl, hz⟩ := I.tuple hq
      obtain ⟨ob, g, gc, m, gd⟩ := pl
      exact ⟨its, ob, m, r', g, .inr gc, gd⟩
  have e1 : its.length = W.length := by rw [← r'.length, hd.length]
  have e2 : ys.length = its.length := r'.length
  obtain ⟨e, he⟩ := sortedAll_at s.heap its (outC its c)
  have hv : Vals (srtV ys c) ((sortC c its.length).toList.map fun i => its.getD i Value.none) := by
    unfold srtV
    rw [e2]
    refine vals_map fun i hi => ?_
    have hi' := (sortC_ord c its.length).mem hi
    obtain ⟨u, hu, ru⟩ := r'.get (List.getElem?_eq_getElem (by omega : i < ys.length))
    rw [List.getD_eq_getElem?_getD, List.getD_eq_getElem?_getD, hu, List.getElem?_eq_getElem (by omega : i < ys.length)]
    exact ru
  have hl2 : (srtV ys c).length ≤ sizeLine := by
    have a := (sortC_ord c ys.length).size_eq
    have b : 64 ≤ sizeLine := by rw [sizeLine_eq]; omega
    simp [srtV] at a ⊢
    omega
  refine sorted_gen (c := c) (b := true) g gc gd (fun h2 A' hA => ?_) (by omega) ⟨.ref (s.heap.objs.size + 1), _, I.laid (t' := s.toks) (fun b o e => sortedAll_old e) (Nat.le_succ _) (show ObjOk X.prog X.w _ _ _ (.lst (srtV ys c)) from ⟨hl2, _, e, hv, he⟩), rfl, q _ (I.hok.fresh (Nat.le_succ _))⟩
  obtain ⟨hk, hc⟩ := hr (by omega)
  exact srtH_D I (n := 90) (by omega) hk hdp hd r' hc hl
def cK (key : D → List Int) (W : List D) : Nat → Nat → Bool := fun i j => lexL (key (W.getD i .non)) (key (W.getD j .non))
def srtK (key : D → List Int) (W : List D) : List D := srtC W (cK key W)
structure Srt (W : List D) (key : D → List Int) (k : Bool) : Prop where
  row : ∀ d ∈ W, RowK k d
  cmp : ∀ d ∈ W, ∀ e ∈ W, cmD d e = true
  lt : ∀ d ∈ W, ∀ e ∈ W, ltD d e = lexL (key d) (key e)
theorem Srt.at' {W : List D} {key : D → List Int} {k : Bool} (h : Srt W key k) : ∀ i j, i < W.length → j < W.length → cK key W i j = ltD (W.getD i .non) (W.getD j .non) := fun i j hi hj => by
  have g : ∀ i, i < W.length → W.getD i .non ∈ W := fun i hi => by rw [List.getD_eq_getElem?_getD, List.getElem?_eq_getElem hi]; exact List.getElem_mem hi
  exact (h.lt _ (g i hi) _ (g j hj)).symm
def aSortDO : AC := fun xs ω Q => ∃ (x : AV) (W : List D) (key : D → List Int) (k : Bool), xs = [x] ∧ datA ω x = some (.lst W) ∧ Srt W key k ∧ deps W ≤ 90 ∧ W.length < 64 ∧ ∀ l, ω l = none → Q (.r (.ref l)) (ω.put l (.own ((srtK key W).map AV.d)))
theorem aSortDO_eq (xs : List AV) (ω : Om) (Q : AV → Om → Prop) : aSortDO xs ω Q = ∃ (x : AV) (W : List D) (key : D → List Int) (k : Bool), xs = [x] ∧ datA ω x = some (.lst W) ∧ Srt W key k ∧ deps W ≤ 90 ∧ W.length < 64 ∧ ∀ l, ω l = none → Q (.r (.ref l)) (ω.put l (.own ((srtK key W).map AV.d))) := rfl
theorem c_sortDO {K : PySem.W.Frag} : RefC (rSortD K) aSortDO := ⟨fun F H ω vs xs Q Q' rp rv ⟨x, W, key, kk, e1, e2, e3, e4, e5, q⟩ k => by
  subst e1
  obtain ⟨v, rfl, r⟩ := rvs1 rv
  obtain ⟨a, us, rfl, z1, z2⟩ := dats_of rp r e2
  exact ⟨a, us, W, cK key W, kk, rfl, .inl (.inl (.inl z1)), z2.same cut_same, fun _ => ⟨e3.row, e3.cmp⟩, e4, e3.at', e5, k.own rp (RVs.dats.mpr (dats_srtC z2 _)) q⟩⟩
def aSortTW : AC := fun xs ω Q => ∃ (ws : List (List Int)), xs = [.d (.tup (ws.map wdD))] ∧ (∀ y ∈ ws, y ≠ []) ∧ ws.length < 64 ∧ Q (.d (.lst ((srtW ws).map wdD))) ω
theorem aSortTW_eq (xs : List AV) (ω : Om) (Q : AV → Om → Prop) : aSortTW xs ω Q = ∃ (ws : List (List Int)), xs = [.d (.tup (ws.map wdD))] ∧ (∀ y ∈ ws, y ≠ []) ∧ ws.length < 64 ∧ Q (.d (.lst ((srtW ws).map wdD))) ω := rfl
theorem cm_ints : ∀ a b : List Int, cmDs (a.map D.int) (b.map D.int) = true
  | [], _ => by simp [cmDs]
  | _ :: _, [] => by simp [cmDs]
  | x :: xs, y :: ys => by
    simp only [List.map_cons, cmDs]
    split
    · exact cm_ints xs ys
    · rfl
theorem lt_ints : ∀ a b : List Int, ltDs (a.map D.int) (b.map D.int) = lexL a b
  | [], [] => rfl
  | [], _ :: _ => rfl
  | _ :: _, [] => rfl
  | x :: xs, y :: ys => by
    simp only [List.map_cons, ltDs, lexL, eqD_int]
    by_cases h : x = y
    · rw [if_pos (by simpa using h), if_pos h, lt_ints xs ys]
    · rw [if_neg (by simpa using h), if_neg h]
      rfl
theorem getD_wds (ws : List (List Int)) {i : Nat} (h : i < ws.length) : (ws.map wdD).getD i .non = wdD (ws.getD i []) := by
  rw [List.getD_eq_getElem?_getD, List.getD_eq_getElem?_getD, List.getElem?_map, List.getElem?_eq_getElem h]
  rfl
theorem c_sortTW {K : PySem.W.Frag} : RefC (rSortD K) aSortTW := ⟨fun F H ω vs xs Q Q' rp rv ⟨ws, e1, e2, e3, q⟩ k => by
  subst e1
  obtain ⟨v, rfl, r⟩ := rvs1 rv
  simp only [RV, Dat] at r
  obtain ⟨a, us, rfl, z1, z2⟩ := r
  refine ⟨a, us, ws.map wdD, fun i j => ltZ (ws.getD i []) (ws.getD j []), false, rfl, .inr (.inl (.inl (cut_same _ _ z1))), z2.same cut_same, fun _ => ⟨fun d hd => ?_, fun d hd e he => ?_⟩, by have := deps_wds ws; omega, fun i j hi hj => ?_, by rw [List.length_map]; exact e3, k.lst rp ?_ q⟩
  · obtain ⟨y, hy, rfl⟩ := List.mem_map.mp hd
    obtain ⟨x, xr, rfl⟩ := List.exists_cons_of_ne_nil (e2 y hy)
    exact ⟨xr.map D.int, .inr ⟨rfl, x, rfl⟩⟩
  · obtain ⟨y, _, rfl⟩ := List.mem_map.mp hd
    obtain ⟨z, _, rfl⟩ := List.mem_map.mp he
    exact cm_ints y z
  · rw [List.length_map] at hi hj
    rw [getD_wds ws hi, getD_wds ws hj]
    exact (ltZ_lex _ _).trans (lt_ints _ _).symm
  · have hl : us.length = ws.length := by rw [z2.length, List.length_map]
    have e : srtV us (fun i j => ltZ (ws.getD i []) (ws.getD j [])) = srt us ws := by
      unfold srtV srt sortC sortP
      rw [hl]
    rw [e]
    exact dats_srt z2⟩
theorem srtK_ris (key : D → List Int) (W : List D) : (srtK key W).Pairwise fun a b => lexL (key b) (key a) = false := by
  have hs : (sortC (cK key W) W.length).size = W.length := by simpa using (sortC_ord (cK key W) W.length).size_eq
  have L : Less (cK key W) := ⟨fun i j h => lex_as _ _ h, fun i j k h1 h2 => lex_tr _ _ _ h1 h2⟩
  rw [List.pairwise_iff_getElem]
  intro i j hi hj hij
  have hl : (srtK key W).length = W.length := (srtC_perm W _).length_eq
  have at_ : ∀ k (hk : k < (srtK key W).length), (srtK key W)[k] = W.getD ((sortC (cK key W) W.length).getD k 0) .non := fun k hk => by
    have hk2 : k < (sortC (cK key W) W.length).size := by omega
    have q : (srtK key W)[k]? = some (W.getD ((sortC (cK key W) W.length).getD k 0) .non) := by
      unfold srtK srtC
      rw [List.getElem?_map, Array.getElem?_toList, Array.getElem?_eq_getElem hk2, Array.getD_eq_getD_getElem?, Array.getElem?_eq_getElem hk2]
      rfl
    exact (List.getElem?_eq_some_iff.mp q).2
  rw [at_ i hi, at_ j hj]
  by_cases h2 : W.length < 2
  · omega
  · have := sort_up L (z := W.length) (by omega) i j (by omega) (by omega)
    rw [show kEnd (cK key W) (PySem.W.kas_sort W.length) = sortC (cK key W) W.length from by unfold sortC; rw [if_neg h2]] at this
    exact this
end L2
set_option maxHeartbeats 4000000
namespace My
open PySem PySem.Spec L2
set_option linter.all false
set_option maxHeartbeats 4000000
def top (i : Nat) : Stmt := PySem.Challenge.pw_unlikeplace_k36_partings.main.body.getD i (.Pass ⟨0, 0, 0, 0⟩)
abbrev s_partings : Stmt := top 1
abbrev s_halves : Stmt := top 2
abbrev s_l_pen : Stmt := top 4
abbrev s_l_pick : Stmt := top 5
abbrev s_l_few : Stmt := top 6
abbrev s_l_is_part : Stmt := top 12
abbrev s_l_row_right : Stmt := top 13
abbrev s_law : Stmt := top 14
theorem sc_partings : FnScope ["box", "yes", "no", "by_no", "by_yes"] ["box"] (defScope s_partings) := ⟨rfl, rfl, rfl, by decide +kernel, rfl, by decide +kernel, by decide +kernel⟩
theorem sc_halves : FnScope ["words", "ways", "word", "in_first", "in_second"] ["words"] (defScope s_halves) := ⟨rfl, rfl, rfl, by decide +kernel, rfl, by decide +kernel, by decide +kernel⟩
theorem sc_l_pen : FnScope ["_law_script", "_law_at", "_law_cell", "_law_far"] ["_law_script", "_law_at"] (defScope s_l_pen) := ⟨rfl, rfl, rfl, by decide +kernel, rfl, by decide +kernel, by decide +kernel⟩
theorem sc_l_pick : FnScope ["_law_pen_here", "_law_many", "_law_digit", "_law_turn", "_law_mixed"] ["_law_pen_here", "_law_many"] (defScope s_l_pick) := ⟨rfl, rfl, rfl, by decide +kernel, rfl, by decide +kernel, by decide +kernel⟩
theorem sc_l_few : FnScope ["_law_pen_here", "_law_most", "_law_places", "_law_left", "_law_yes", "_law_no", "_law_k"] ["_law_pen_here", "_law_most"] (defScope s_l_few) := ⟨rfl, rfl, rfl, by decide +kernel, rfl, by decide +kernel, by decide +kernel⟩
theorem sc_l_is_part : FnScope ["_law_some", "_law_words"] ["_law_some", "_law_words"] (defScope s_l_is_part) := ⟨rfl, rfl, rfl, by decide +kernel, rfl, by decide +kernel, by decide +kernel⟩
theorem sc_l_row_right : FnScope ["_law_row", "_law_box", "_law_part", "_law_own", "_law_first", "_law_second"] ["_law_row", "_law_box"] (defScope s_l_row_right) := ⟨rfl, rfl, rfl, by decide +kernel, rfl, by decide +kernel, by decide +kernel⟩
theorem sc_law : FnScope ["_law_script", "_law_at", "_law_case_here", "_law_box", "_law_told", "_law_kept", "_law_k", "_law_hand", "_law_words"] ["_law_script"] (defScope s_law) := ⟨rfl, rfl, rfl, by decide +kernel, rfl, by decide +kernel, by decide +kernel⟩
structure Adr where
  a_partings : Addr
  d_partings : FuncData
  a_halves : Addr
  d_halves : FuncData
  a_l_pen : Addr
  d_l_pen : FuncData
  a_l_pick : Addr
  d_l_pick : FuncData
  a_l_few : Addr
  d_l_few : FuncData
  a_l_is_part : Addr
  d_l_is_part : FuncData
  a_l_row_right : Addr
  d_l_row_right : FuncData
  a_law : Addr
  d_law : FuncData
structure Txt (K : PySem.W.Frag) (mg : Str → Option Value) (t : Adr) : Prop where
  m_partings : mg "partings" = some (.ref t.a_partings)
  f_partings : Fun K "partings" "partings" s_partings t.a_partings t.d_partings
  k_partings : PySem.W.keepIn K (.ref t.a_partings) = true
  p_partings : Binds K t.d_partings ["box"] []
  m_halves : mg "halves" = some (.ref t.a_halves)
  f_halves : Fun K "halves" "halves" s_halves t.a_halves t.d_halves
  k_halves : PySem.W.keepIn K (.ref t.a_halves) = true
  p_halves : Binds K t.d_halves ["words"] []
  m_l_pen : mg "_law_pen" = some (.ref t.a_l_pen)
  f_l_pen : Fun K "_law_pen" "_law_pen" s_l_pen t.a_l_pen t.d_l_pen
  k_l_pen : PySem.W.keepIn K (.ref t.a_l_pen) = true
  p_l_pen : Binds K t.d_l_pen ["_law_script", "_law_at"] []
  m_l_pick : mg "_law_pick" = some (.ref t.a_l_pick)
  f_l_pick : Fun K "_law_pick" "_law_pick" s_l_pick t.a_l_pick t.d_l_pick
  k_l_pick : PySem.W.keepIn K (.ref t.a_l_pick) = true
  p_l_pick : Binds K t.d_l_pick ["_law_pen_here", "_law_many"] []
  m_l_few : mg "_law_few" = some (.ref t.a_l_few)
  f_l_few : Fun K "_law_few" "_law_few" s_l_few t.a_l_few t.d_l_few
  k_l_few : PySem.W.keepIn K (.ref t.a_l_few) = true
  p_l_few : Binds K t.d_l_few ["_law_pen_here", "_law_most"] []
  m_l_is_part : mg "_law_is_part" = some (.ref t.a_l_is_part)
  f_l_is_part : Fun K "_law_is_part" "_law_is_part" s_l_is_part t.a_l_is_part t.d_l_is_part
  k_l_is_part : PySem.W.keepIn K (.ref t.a_l_is_part) = true
  p_l_is_part : Binds K t.d_l_is_part ["_law_some", "_law_words"] []
  m_l_row_right : mg "_law_row_right" = some (.ref t.a_l_row_right)
  f_l_row_right : Fun K "_law_row_right" "_law_row_right" s_l_row_right t.a_l_row_right t.d_l_row_right
  k_l_row_right : PySem.W.keepIn K (.ref t.a_l_row_right) = true
  p_l_row_right : Binds K t.d_l_row_right ["_law_row", "_law_box"] []
  m_law : mg "law" = some (.ref t.a_law)
  f_law : Fun K "law" "law" s_law t.a_law t.d_law
  k_law : PySem.W.keepIn K (.ref t.a_law) = true
  p_law : Binds K t.d_law ["_law_script"] []
  bl_law : ∀ (s : Shared) (v : Value), BindsTo s t.d_law ⟨[v], []⟩ [("_law_script", v)]
  b_abs : mg "abs" = none
  b_int : mg "int" = none
  b_isinstance : mg "isinstance" = none
  b_len : mg "len" = none
  b_list : mg "list" = none
  b_max : mg "max" = none
  b_min : mg "min" = none
  b_range : mg "range" = none
  b_sorted : mg "sorted" = none
  b_tuple : mg "tuple" = none
local macro_rules | `(tactic| walk_at "ab") => `(tactic| simp only [aNext_eq, aSeq_eq, aDrop_eq, aRet_eq, aIfS_eq, aAsg_eq, agName_eq, agNil_eq, agCons_eq, aFor_eq, aVar_eq, aC_eq, aOp_eq, aNil_eq, aCons_eq, aTup_eq, aLst_eq, aLstO_eq, aCall_eq, aPar_eq, aIxS_eq, aLenS_eq, aTest_eq, aAnd_eq, aOr_eq, aNot_eq, aRaw_eq, aTru_eq, aI0_eq, aI_eq, aEqD_eq, aIn_eq, aIx_eq, aLen_eq, aF2_eq, aF1_eq, aInt_eq, aTupOf_eq, aListOf_eq, aiRng1_eq, agTup_eq, agSub_eq, aoNone_eq, aoSome_eq, aAppend_eq, aClear_eq, aPopAt_eq, aSorted_eq, aIsA_eq, aAndG_eq, aiSeq_eq, aComp_eq, aCompO_eq, aCB_eq, aAdd_int, aAdd_tup, sne_1_2, tupA_wd, aAdd_lst, aMul_int, aSl_eq, slA_tup, frzA_d, datA_d, datA_r, lstA_l, lstA_t, lstA_r, tupA_t, tupA_l, tupA_r, truA_b, und_cons, und_nil, und_map, lenA_t, lenA_l, lenA_r, seqD_t, seqD_l, startA, blkA, Om.put_same, Om.put_put, sz1, sz2, sz3, sz6, Int.toNat_natCast, ixN_30, ixN_32, atI_0, atI_1, atI_2, eqD_int, eqD_str, dep_int, dep_str, intD_bl, Nat.zero_le, AV.d.injEq, AV.r.injEq, D.int.injEq, D.bl.injEq, D.str.injEq, D.tup.injEq, D.lst.injEq, OC.own.injEq, V.ref.injEq, V.ty.injEq, List.map_cons, List.map_nil, List.cons_append, List.nil_append, List.length_cons, List.length_nil, List.length_map, List.length_append, List.replicate, List.getElem?_cons_zero, List.getElem?_cons_succ, List.set_cons_zero, List.set_cons_succ, Option.some.injEq, Option.map_some, Option.join_some, exists_eq', exists_eq_left', List.cons.injEq, and_true, true_and, and_assoc, exists_and_left, exists_and_right, Nat.sub_self, Nat.reduceAdd, Nat.reduceSub, Nat.reduceLeDiff, Int.reduceLT, Int.reduceSub, Int.reduceToNat, decide_eq_true_eq, Bool.not_true, Bool.not_false, if_true, if_false, Bool.false_eq_true, reduceCtorEq, false_and, and_false, or_false, false_or, beq_iff_eq, ne_eq, Bool.true_eq_false])
local macro_rules | `(tactic| walk_at "a1") => `(tactic| simp only [aNext_eq, aDrop_eq, aRet_eq, aIfS_eq, aAsg_eq, agName_eq, agNil_eq, agCons_eq, aFor_eq, aVar_eq, aC_eq, aOp_eq, aNil_eq, aCons_eq, aTup_eq, aLst_eq, aLstO_eq, aCall_eq, aPar_eq, aIxS_eq, aLenS_eq, aTest_eq, aAnd_eq, aOr_eq, aNot_eq, aRaw_eq, aTru_eq, aI0_eq, aI_eq, aEqD_eq, aIn_eq, aIx_eq, aLen_eq, aF2_eq, aF1_eq, aInt_eq, aTupOf_eq, aListOf_eq, aiRng1_eq, agTup_eq, agSub_eq, aoNone_eq, aoSome_eq, aAppend_eq, aClear_eq, aPopAt_eq, aSorted_eq, aIsA_eq, aAndG_eq, aiSeq_eq, aComp_eq, aCompO_eq, aCB_eq, aAdd_int, aAdd_tup, sne_1_2, tupA_wd, aAdd_lst, aMul_int, aSl_eq, slA_tup, frzA_d, datA_d, datA_r, lstA_l, lstA_t, lstA_r, tupA_t, tupA_l, tupA_r, truA_b, und_cons, und_nil, und_map, lenA_t, lenA_l, lenA_r, seqD_t, seqD_l, startA, blkA, Om.put_same, Om.put_put, sz1, sz2, sz3, sz6, Int.toNat_natCast, ixN_30, ixN_32, atI_0, atI_1, atI_2, eqD_int, eqD_str, dep_int, dep_str, intD_bl, Nat.zero_le, AV.d.injEq, AV.r.injEq, D.int.injEq, D.bl.injEq, D.str.injEq, D.tup.injEq, D.lst.injEq, OC.own.injEq, V.ref.injEq, V.ty.injEq, List.map_cons, List.map_nil, List.cons_append, List.nil_append, List.length_cons, List.length_nil, List.length_map, List.length_append, List.replicate, List.getElem?_cons_zero, List.getElem?_cons_succ, List.set_cons_zero, List.set_cons_succ, Option.some.injEq, Option.map_some, Option.join_some, exists_eq', exists_eq_left', List.cons.injEq, and_true, true_and, and_assoc, exists_and_left, exists_and_right, Nat.sub_self, Nat.reduceAdd, Nat.reduceSub, Nat.reduceLeDiff, Int.reduceLT, Int.reduceSub, Int.reduceToNat, decide_eq_true_eq, Bool.not_true, Bool.not_false, if_true, if_false, Bool.false_eq_true, reduceCtorEq, false_and, and_false, or_false, false_or, beq_iff_eq, ne_eq, Bool.true_eq_false])
local macro_rules | `(tactic| walk_at "s1") => `(tactic| (try walk_at "a1"); (first | rw [aSeq_eq] | rw [axSeq_eq]); walk_at "a1")
section
variable {P : Program} {w : World} {K : PySem.W.Frag} {mg : Str → Option Value} {base : Heap} {t : Adr}
def Cn (c : Pn) (b : Nat) : Prop := 0 ≤ c.i ∧ c.i ≤ b
def PnAt (ω : Om) (p : Addr) (b : Nat) : Prop := ∃ c, Cn c b ∧ ω p = some (penO c)
theorem pnAt_put {ω : Om} {p : Addr} {b : Nat} {c : Pn} (h : Cn c b) : PnAt (ω.put p (penO c)) p b := ⟨c, h, Om.put_same⟩
theorem nth_int {ns : List Int} {i : Int} (h0 : 0 ≤ i) (h1 : i < ns.length) : ∃ x, atI ns i = some x := by
  obtain ⟨x, _, hx, _⟩ := map_nth (f := fun z : Int => AV.d (.int z)) (xs := ns) h0 h1
  exact ⟨x, atI_of i.toNat (by omega) hx⟩
def sp_pen (K : PySem.W.Frag) : ASp := fun xs ω Q => ∃ (a : Addr) (ns : List Int) (i : Int), xs = [scrL K a ns, .d (.int i)] ∧ 0 ≤ i ∧ ∀ p c, Cn c 0 → ω p = none → Q (.r (.ref p)) (ω.put p (penO c))
theorem ok_pen (T : Txt K mg t) : FnOk P w K mg base CX0 1 t.a_l_pen t.d_l_pen ["_law_script", "_law_at"] (lift (sp_pen K)) := by
  refine T.f_l_pen.okA sc_l_pen (fun xs ω Q h => by obtain ⟨a, ns, i, rfl, _⟩ := h; rfl) (fun cdv A outer s H E hr => ⟨_, _, (pss_cons (ps_set (i := 2) sc_l_pen.nd rfl (Or.inl rfl) pe_int)
      (pss_cons (ps_if (pt_cmpR op_lt (pv 1) (pe_callB (call_lenK K rfl) (by rfl) T.b_len (by kernel_rfl) (pa_cons (pv 0) pa_nil)) (nomark _)) (pss_one (ps_set (i := 2) sc_l_pen.nd rfl (Or.inl rfl) (pe_ix (ix_seqK K rfl) (pv 0) (pv 1) (fun _ _ => rfl)))) pss_nil)
      (pss_cons (ps_set (i := 3) sc_l_pen.nd rfl (Or.inl rfl) (pe_callB call_abs (by rfl) T.b_abs (by kernel_rfl) (pa_cons (pv 2) pa_nil)))
      (pss_cons (ps_if (pt_cmpR op_lt (pv 3) (pe_op op_pow pe_int pe_int) (nomark _)) (pss_one (ps_set (i := 3) sc_l_pen.nd rfl (Or.inl rfl) pe_int)) pss_nil)
      (pss_one (ps_ret (pe_lst (pa_cons (pv 3) (pa_cons (pe_op op_mod (pe_op (op_alt op_add (op_alt op_cat3 op_cat)) (pe_op (op_alt op_add (op_alt op_cat3 op_cat)) (pe_op (op_alt op_mul op_rep) (pe_op op_mod (pv 2) pe_int) pe_int) (pe_op (op_alt op_mul op_rep) pe_int (pv 1))) pe_int) pe_int) (pa_consC pe_int pa_nil)))))))))), (s_seq (s_asg e_int g_name)
      (s_seq (s_if (t_test (e_op o_I0b e_var (e_cb c_lenS (a_cons e_var a_nil)))) (s_asg (e_op o_ixS e_var e_var) g_name) s_next)
      (s_seq (s_asg (e_cb c_F1 (a_cons e_var a_nil)) g_name)
      (s_seq (s_if (t_test (e_op o_I0b e_var (e_op o_Ii e_int e_int))) (s_asg e_int g_name) s_next)
      (s_ret (e_lstO (a_cons e_var (a_cons (e_op o_Ii (e_op o_add (e_op o_add (e_op o_mul (e_op o_Ii e_var e_int) e_int) (e_op o_mul e_int e_var)) e_int) e_int) (a_cons e_int a_nil))))))))), fun xs ω Q h => ?_⟩)
  obtain ⟨a, ns, i, rfl, hi, k⟩ := h
  walk_at "s1"
  refine seq_cut (fun ρ' ω' => ω' = ω ∧ ∃ x : Int, ρ' = [some (scrL K a ns), some (.d (.int i)), some (.d (.int x)), none]) (fun M kM => ?_) ?_
  · walk_at "a1"
    refine ⟨_, _, rfl, ite2 (fun h => ?_) (fun h => kM _ _ ⟨rfl, _, rfl⟩)⟩
    obtain ⟨x, ex⟩ := nth_int (ns := ns) hi (by omega)
    exact ⟨_, _, rfl, _, ex, kM _ _ ⟨rfl, _, rfl⟩⟩
  rintro ρ' ω' ⟨rfl, x, rfl⟩
  have absn : ∀ z : Int, 0 ≤ (if z < 0 then -z else z) := fun z => by split <;> omega
  walk_at "s1"
  refine seq_cut (fun ρ' ω2 => ω2 = ω' ∧ ∃ y : Int, 0 ≤ y ∧ ρ' = [some (scrL K a ns), some (.d (.int i)), some (.d (.int x)), some (.d (.int y))]) (fun M kM => ?_) ?_
  · walk_at "a1"
    exact ⟨⟨by decide, by decide, by decide⟩, ite2 (fun h => kM _ _ ⟨rfl, 0, Int.le_refl _, rfl⟩) (fun h => kM _ _ ⟨rfl, _, absn x, rfl⟩)⟩
  rintro ρ' ω2 ⟨rfl, y, hy, rfl⟩
  walk_at "a1"
  exact ⟨cmul_mod (by decide) (by decide), cmul_l (by decide), fun p hp => k p ⟨y, _, 0, hy⟩ ⟨Int.le_refl _, Int.le_refl _⟩ hp⟩
def sp_draw : ASp := fun xs ω Q => ∃ (p : Addr) (m : Int) (b : Nat), xs = [.r (.ref p), .d (.int m)] ∧ PnAt ω p b ∧ b < 1000000 ∧ 0 < m ∧ m < 1073741824 ∧ ∀ (r : Int) (c : Pn), Cn c (b + 1) → 0 ≤ r → r < m → Q (.d (.int r)) (ω.put p (penO c))
theorem ok_draw (T : Txt K mg t) : FnOk P w K mg base CX0 1 t.a_l_pick t.d_l_pick ["_law_pen_here", "_law_many"] (lift sp_draw) := by
  refine T.f_l_pick.okA sc_l_pick (fun xs ω Q h => by obtain ⟨p, m, b, rfl, _⟩ := h; rfl) (fun cdv A outer s H E hr => ⟨_, _, (pss_cons (ps_if (pt_cmpR op_gt (pe_ix (ix_seqK K rfl) (pv 0) pe_int (fun _ _ => rfl)) pe_int (nomark _)) (pss_cons (ps_set (i := 2) sc_l_pick.nd rfl (Or.inl rfl) (pe_op op_mod (pe_ix (ix_seqK K rfl) (pv 0) pe_int (fun _ _ => rfl)) (pv 1)))
      (pss_cons (ps_asg (pe_op op_fdiv (pe_ix (ix_seqK K rfl) (pv 0) pe_int (fun _ _ => rfl)) (pv 1)) (pg_sub (pv 0) pe_int set_list))
      (pss_one (ps_ret (pv 2))))) pss_nil)
      (pss_cons (ps_set (i := 3) sc_l_pick.nd rfl (Or.inl rfl) (pe_op (op_alt op_add (op_alt op_cat3 op_cat)) (pe_ix (ix_seqK K rfl) (pv 0) pe_int (fun _ _ => rfl)) pe_int))
      (pss_cons (ps_asg (pv 3) (pg_sub (pv 0) pe_int set_list))
      (pss_cons (ps_set (i := 4) sc_l_pick.nd rfl (Or.inl rfl) (pe_op op_mod (pe_op (op_alt op_add (op_alt op_cat3 op_cat)) (pe_op (op_alt op_add (op_alt op_cat3 op_cat)) (pe_ix (ix_seqK K rfl) (pv 0) pe_int (fun _ _ => rfl)) (pe_op (op_alt op_mul op_rep) (pe_op (op_alt op_mul op_rep) pe_int (pv 3)) (pv 3))) (pe_op (op_alt op_mul op_rep) pe_int (pv 3))) pe_int))
      (pss_cons (ps_set (i := 4) sc_l_pick.nd rfl (Or.inl rfl) (pe_op op_mod (pe_op (op_alt op_add (op_alt op_cat3 op_cat)) (pe_op (op_alt op_add (op_alt op_cat3 op_cat)) (pe_op (op_alt op_mul op_rep) (pv 4) (pv 4)) (pe_op (op_alt op_mul op_rep) pe_int (pv 4))) (pv 3)) pe_int))
      (pss_cons (ps_set (i := 4) sc_l_pick.nd rfl (Or.inl rfl) (pe_op op_mod (pe_op (op_alt op_add (op_alt op_cat3 op_cat)) (pe_op (op_alt op_mul op_rep) (pv 4) (pv 4)) (pe_op (op_alt op_mul op_rep) pe_int (pv 4))) pe_int))
      (pss_one (ps_ret (pe_op op_mod (pe_op op_fdiv (pv 4) pe_int) (pv 1)))))))))), (s_seq (s_if (t_test (e_op o_I0b (e_op o_ix e_var e_int) e_int)) (s_seq (s_asg (e_op o_Ii (e_op o_ix e_var e_int) e_var) g_name)
      (s_seq (s_asg (e_op o_Ii (e_op o_ix e_var e_int) e_var) (g_sub e_var e_int))
      (s_ret e_var))) s_next)
      (s_seq (s_asg (e_op o_add (e_op o_ix e_var e_int) e_int) g_name)
      (s_seq (s_asg e_var (g_sub e_var e_int))
      (s_seq (s_asg (e_op o_Ii (e_op o_add (e_op o_add (e_op o_ix e_var e_int) (e_op o_mul (e_op o_mul e_int e_var) e_var)) (e_op o_mul e_int e_var)) e_int) g_name)
      (s_seq (s_asg (e_op o_Ii (e_op o_add (e_op o_add (e_op o_mul e_var e_var) (e_op o_mul e_int e_var)) e_var) e_int) g_name)
      (s_seq (s_asg (e_op o_Ii (e_op o_add (e_op o_mul e_var e_var) (e_op o_mul e_int e_var)) e_int) g_name)
      (s_ret (e_op o_Ii (e_op o_Ii e_var e_int) e_var)))))))), fun xs ω Q h => ?_⟩)
  obtain ⟨p, m, b, rfl, ⟨c, ⟨c0, c1⟩, hp⟩, hb, hm, hm2, k⟩ := h
  have fin : ∀ (r : Int) (c : Pn), Cn c (b + 1) → Q (.d (.int (r % m))) (ω.put p (penO c)) := fun r c hc => k _ c hc (Int.emod_nonneg _ (by omega)) (Int.emod_lt_of_pos _ hm)
  unfold penO at hp
  walk_at "s1"
  simp only [hp]
  walk_at "a1"
  refine ite2 (fun h1 => ?_) (fun h1 => ?_)
  · walk_at "ab"
    simp only [hp]
    walk_at "ab"
    exact ⟨hm, ⟨hm, hm2⟩, fin _ ⟨c.f / m, c.x, c.i, Int.ediv_nonneg c.h (by omega)⟩ ⟨c0, by simp only []; omega⟩⟩
  · walk_at "s1"
    simp only [hp]
    walk_at "a1"
    walk_at "s1"
    simp only [hp]
    walk_at "s1"
    refine ⟨cmul_l (by decide), cmul_r ⟨by omega, by omega⟩, cmul_l (by decide), ?_⟩
    walk_at "ab"
    exact ⟨cmul_mod (by decide) (by decide), cmul_l (by decide), cmul_mod (by decide) (by decide), cmul_l (by decide), ⟨by decide, by decide⟩, hm, fin _ ⟨c.f, c.x, c.i + 1, c.h⟩ ⟨by simp only []; omega, by simp only []; omega⟩⟩
theorem scr_start {H : Hp} {a : Addr} {ns : List Int} (h : SqL K H a (ns.map V.int)) : RV (cut (fun _ => false) H (fun _ => none)) (scrL K a ns) (.ref a) := by
  refine ⟨rfl, fun G' s => ?_⟩
  have s2 : Same H G' := fun b o e => s b o (cut_some.mpr ⟨rfl, rfl, e⟩)
  rcases h with (h | ⟨o, h⟩) | h
  · exact .inl (.inl (s2 _ _ h))
  · exact .inl (.inr ⟨o, s2 _ _ h⟩)
  · exact .inr h
theorem rep0 {H : Hp} : Rep (fun _ => false) H (fun _ => none) := ⟨fun _ _ h => by simp at h, fun _ _ h => by simp at h, fun _ h => by simp at h, fun _ _ h => by simp at h⟩
def sp_lawA (K : PySem.W.Frag) : ASp := fun xs ω Q => ∃ (a : Addr) (ns : List Int), xs = [scrL K a ns] ∧ ns.length ≤ 63 ∧ ω = (fun _ => none) ∧ ∀ ω', Q (.d (.bl true)) ω'
def sp_law (K : PySem.W.Frag) : Sp := lift (sp_lawA K)
theorem start_law {K : PySem.W.Frag} {H : Hp} {a : Addr} {ns : List Int} (hl : ns.length ≤ 63) (hO : Only H) (hS : SqL K H a (ns.map V.int)) : sp_law K [.ref a] H (fun v _ => v = .bl true) fun _ _ _ => False :=
  ⟨fun _ => false, [scrL K a ns], fun _ => none, fun a _ => a = .d (.bl true), rep0, ⟨_, _, rfl, scr_start hS, rfl⟩, ⟨a, ns, rfl, hl, rfl, fun _ => rfl⟩, fun a ω' v H' _ _ rv q => by subst q; exact rv_bl rv⟩
end
section
variable {P : Program} {w : World} {K : PySem.W.Frag} {mg : Str → Option Value} {base : Heap} {t : Adr}
def wdAt (n m : Nat) : List Int := (List.range n).map fun k : Nat => Builtin.bitAnd ((0 + (m : Int)) / 2 ^ ((n : Int) - 1 - (0 + (k : Int))).toNat) 1
theorem wl_at : ∀ n : Fin 6, wl n.val = (List.range (2 ^ n.val)).map (wdAt n.val) := by decide +kernel
theorem pw5 (q : Nat) : (1 * 2 ^ q : Int) = ((2 ^ q : Nat) : Int) := by rw [Int.one_mul, Int.natCast_pow]; rfl
theorem pw32 {q : Nat} (h : q ≤ 5) : 2 ^ q ≤ 32 := Nat.pow_le_pow_right (by decide) h
abbrev oW (ws : List (List Int)) : OC := .own ((ws.map wdD).map AV.d)
theorem er_map {α β : Type} (f : α → β) : ∀ (L : List α) (j : Nat), (L.map f).eraseIdx j = (L.eraseIdx j).map f
  | [], _ => rfl
  | _ :: _, 0 => rfl
  | x :: L, j + 1 => by simp [er_map f L j]
theorem oW_er {L : List (List Int)} {j : Nat} : OC.own (((L.map wdD).map AV.d).eraseIdx j) = oW (L.eraseIdx j) := by
  rw [oW, er_map, er_map]
theorem er_perm {α : Type} : ∀ {L : List α} {j : Nat} {v : α}, L[j]? = some v → (v :: L.eraseIdx j).Perm L
  | [], _, _, h => by simp at h
  | x :: L, 0, v, h => by simp at h; subst h; exact .refl _
  | x :: L, j + 1, v, h => by
    have := er_perm (L := L) (j := j) (v := v) (by simpa using h)
    exact (List.Perm.swap x v _).trans (this.cons x)
theorem in_perm {α : Type} {L : List α} {j : Nat} {v : α} : (L.take j ++ v :: L.drop j).Perm (v :: L) := List.perm_middle.trans (by rw [List.take_append_drop])
structure Sx (n : Nat) (L Y Z : List (List Int)) : Prop where
  nd : (L ++ (Y ++ Z)).Nodup
  inn : ∀ v ∈ L ++ (Y ++ Z), v ∈ wl n
theorem Sx.perm {n : Nat} {L Y Z L' Y' Z' : List (List Int)} (h : Sx n L Y Z) (p : (L' ++ (Y' ++ Z')).Perm (L ++ (Y ++ Z))) : Sx n L' Y' Z' :=
  ⟨p.nodup_iff.mpr h.nd, fun v hv => h.inn v (p.mem_iff.mp hv)⟩
theorem Sx.toY {n : Nat} {L Y Z : List (List Int)} (h : Sx n L Y Z) {j r : Nat} {v : List Int} (hv : L[j]? = some v) : Sx n (L.eraseIdx j) (Y.take r ++ v :: Y.drop r) Z :=
  h.perm (((in_perm.append_right Z).append_left _).trans ((List.perm_middle (a := v) (l₁ := L.eraseIdx j) (l₂ := Y ++ Z)).trans ((er_perm hv).append_right (Y ++ Z))))
theorem Sx.toZ {n : Nat} {L Y Z : List (List Int)} (h : Sx n L Y Z) {j r : Nat} {v : List Int} (hv : L[j]? = some v) : Sx n (L.eraseIdx j) Y (Z.take r ++ v :: Z.drop r) := by
  refine h.perm (((in_perm.append_left Y).append_left _).trans ?_)
  refine ((List.perm_middle (a := v) (l₁ := Y) (l₂ := Z)).append_left _).trans ?_
  exact (List.perm_middle (a := v) (l₁ := L.eraseIdx j) (l₂ := Y ++ Z)).trans ((er_perm hv).append_right (Y ++ Z))
structure Fw (n : Nat) (ω ω' : Om) (p l y z : Addr) (c : Pn) (L Y Z : List (List Int)) : Prop where
  ex : Ex (ω.put p (penO c)) ω'
  at_p : ω' p = some (penO c)
  at_l : ω' l = some (oW L)
  at_y : ω' y = some (oW Y)
  at_z : ω' z = some (oW Z)
  l0 : ω l = none
  y0 : ω y = none
  z0 : ω z = none
  ne : Ne4 p l y z
  sx : Sx n L Y Z
  yn : Y ≠ []
  zn : Z ≠ []
theorem Fw.pen {n : Nat} {ω ω' : Om} {p l y z : Addr} {c c' : Pn} {L Y Z : List (List Int)} (h : Fw n ω ω' p l y z c L Y Z) : Fw n ω (ω'.put p (penO c')) p l y z c' L Y Z :=
  ⟨h.ex.put2, Om.put_same, by rw [Om.put_ne (Ne.symm h.ne.p1)]; exact h.at_l, by rw [Om.put_ne (Ne.symm h.ne.p2)]; exact h.at_y, by rw [Om.put_ne (Ne.symm h.ne.p3)]; exact h.at_z, h.l0, h.y0, h.z0, h.ne, h.sx, h.yn, h.zn⟩
theorem Fw.new {n : Nat} {ω ω' : Om} {p l y z q : Addr} {c : Pn} {L Y Z : List (List Int)} {o : OC} (h : Fw n ω ω' p l y z c L Y Z) (hq : ω' q = none) : Fw n ω (ω'.put q o) p l y z c L Y Z := by
  have e1 : p ≠ q := fun e => by rw [← e, h.at_p] at hq; cases hq
  have e2 : l ≠ q := fun e => by rw [← e, h.at_l] at hq; cases hq
  have e3 : y ≠ q := fun e => by rw [← e, h.at_y] at hq; cases hq
  have e4 : z ≠ q := fun e => by rw [← e, h.at_z] at hq; cases hq
  exact ⟨h.ex.new hq, by rw [Om.put_ne e1]; exact h.at_p, by rw [Om.put_ne e2]; exact h.at_l, by rw [Om.put_ne e3]; exact h.at_y, by rw [Om.put_ne e4]; exact h.at_z, h.l0, h.y0, h.z0, h.ne, h.sx, h.yn, h.zn⟩
theorem Sx.endY {n : Nat} {L Y Z : List (List Int)} (h : Sx n L Y Z) {j : Nat} {v : List Int} (hv : L[j]? = some v) : Sx n (L.eraseIdx j) (Y ++ [v]) Z := by
  have := h.toY (r := Y.length) hv
  rwa [List.take_length, List.drop_length] at this
theorem Sx.endZ {n : Nat} {L Y Z : List (List Int)} (h : Sx n L Y Z) {j : Nat} {v : List Int} (hv : L[j]? = some v) : Sx n (L.eraseIdx j) Y (Z ++ [v]) := by
  have := h.toZ (r := Z.length) hv
  rwa [List.take_length, List.drop_length] at this
theorem Fw.toY {n : Nat} {ω ω' : Om} {p l y z : Addr} {c : Pn} {L Y Z : List (List Int)} {j : Nat} {v : List Int} (h : Fw n ω ω' p l y z c L Y Z) (hv : L[j]? = some v) : Fw n ω ((ω'.put l (oW (L.eraseIdx j))).put y (oW (Y ++ [v]))) p l y z c (L.eraseIdx j) (Y ++ [v]) Z :=
  ⟨(h.ex.over (by rw [Om.put_ne (Ne.symm h.ne.p1)]; exact h.l0)).over (by rw [Om.put_ne (Ne.symm h.ne.p2)]; exact h.y0), by rw [Om.put_ne h.ne.p2, Om.put_ne h.ne.p1]; exact h.at_p, by rw [Om.put_ne h.ne.a, Om.put_same], Om.put_same, by rw [Om.put_ne (Ne.symm h.ne.c), Om.put_ne (Ne.symm h.ne.b)]; exact h.at_z, h.l0, h.y0, h.z0, h.ne, h.sx.endY hv, by simp, h.zn⟩
theorem Fw.toZ {n : Nat} {ω ω' : Om} {p l y z : Addr} {c : Pn} {L Y Z : List (List Int)} {j : Nat} {v : List Int} (h : Fw n ω ω' p l y z c L Y Z) (hv : L[j]? = some v) : Fw n ω ((ω'.put l (oW (L.eraseIdx j))).put z (oW (Z ++ [v]))) p l y z c (L.eraseIdx j) Y (Z ++ [v]) :=
  ⟨(h.ex.over (by rw [Om.put_ne (Ne.symm h.ne.p1)]; exact h.l0)).over (by rw [Om.put_ne (Ne.symm h.ne.p3)]; exact h.z0), by rw [Om.put_ne h.ne.p3, Om.put_ne h.ne.p1]; exact h.at_p, by rw [Om.put_ne h.ne.b, Om.put_same], by rw [Om.put_ne h.ne.c, Om.put_ne (Ne.symm h.ne.a)]; exact h.at_y, Om.put_same, h.l0, h.y0, h.z0, h.ne, h.sx.endZ hv, h.yn, by simp⟩
structure Few (n : Nat) (ys zs : List (List Int)) : Prop where
  wy : Wds n ys
  wz : Wds n zs
  ry : Ris ys
  rz : Ris zs
  yn : ys ≠ []
  zn : zs ≠ []
  few : ys.length + zs.length ≤ 8
def sp_few : ASp := fun xs ω Q => ∃ (p : Addr), xs = [.r (.ref p), .d (.int 8)] ∧ PnAt ω p 0 ∧ ∀ (n : Nat) (ys zs : List (List Int)) (c : Pn), 1 ≤ n → n ≤ 5 → Few n ys zs → Q (.d (csD n ys zs)) (ω.put p (penO c))
theorem ok_few (T : Txt K mg t) : FnOk P w K mg base CX0 2 t.a_l_few t.d_l_few ["_law_pen_here", "_law_most"] (lift sp_few) := by
  have G_l_pick : FnOk P w K mg base CX0 1 t.a_l_pick t.d_l_pick ["_law_pen_here", "_law_many"] (lift sp_draw) := ok_draw T
  refine T.f_l_few.okD sc_l_few (fun xs ω Q h => by obtain ⟨p, rfl, _⟩ := h; rfl) (fun cdv A outer s H E hr => ⟨_, _, (pss_cons (ps_set (i := 2) sc_l_few.nd rfl (Or.inr rfl) (pe_ix (ix_seqK K rfl) (pe_lst (pa_consC pe_int (pa_consC pe_int (pa_consC pe_int (pa_consC pe_int (pa_consC pe_int (pa_consC pe_int pa_nil))))))) (pe_call G_l_pick (hr.mono (by omega)) (by rfl) T.m_l_pick T.k_l_pick T.p_l_pick .nil pass0 (pa_cons (pv 0) (pa_consC pe_int pa_nil))) (fun _ _ => rfl)))
      (pss_cons (ps_setC (i := 3) sc_l_few.nd rfl (Or.inl rfl) (N := (["_law_number", "_law_places"] : List Str)) (src := [none, some 2]) rfl (by show blkOk _ (defScope s_l_few) _ _ (["_law_pen_here", "_law_most", "_law_places", "_law_left", "_law_yes", "_law_no", "_law_k"] : List Str) = true; decide +kernel) (by intro g' h; cases h) (pi_range1 rfl T.b_range (pa_cons (pe_op op_shl pe_int (pv 2)) pa_nil)) (fun _ _ _ _ _ _ => (pg_name (i := 0) (show (["_law_number", "_law_places"] : List Str).Nodup by decide +kernel) rfl (Or.inr rfl))) (fun _ _ _ _ _ _ => pts_nil) (fun _ _ _ _ _ _ => (pl_last rfl rfl (pe_callTy (call_tuple_ofK K rfl) (by rfl) T.b_tuple (by kernel_rfl) (pa_cons (pe_comp (N := (["_law_k", "_law_number", "_law_places"] : List Str)) (src := [none, some 0, some 1]) rfl (by with_unfolding_all rfl) (by intro g' h; cases h) (pi_range1 rfl T.b_range (pa_cons (pv 1) pa_nil)) (fun _ _ _ _ _ _ => (pg_name (i := 0) (show (["_law_k", "_law_number", "_law_places"] : List Str).Nodup by decide +kernel) rfl (Or.inl rfl))) (fun _ _ _ _ _ _ => pts_nil) (fun _ _ _ _ _ _ => (pl_last rfl rfl (pe_op op_and (pe_op op_shr (pv 1) (pe_op op_sub (pe_op op_sub (pv 2) pe_int) (pv 0))) pe_int)))) pa_nil)))))
      (pss_cons (ps_set (i := 4) sc_l_few.nd rfl (Or.inl rfl) (pe_lst (pa_cons (pe_bm PySem.F.plainAttrs_list PySem.F.slot_list_pop PySem.F.type_list_pop mt_popAt (pv 3) (pa_cons (pe_call G_l_pick (hr.mono (by omega)) (by rfl) T.m_l_pick T.k_l_pick T.p_l_pick .nil pass0 (pa_cons (pv 0) (pa_cons (pe_callB (call_lenK K rfl) (by rfl) T.b_len (by kernel_rfl) (pa_cons (pv 3) pa_nil)) pa_nil))) pa_nil)) pa_nil)))
      (pss_cons (ps_set (i := 5) sc_l_few.nd rfl (Or.inl rfl) (pe_lst (pa_cons (pe_bm PySem.F.plainAttrs_list PySem.F.slot_list_pop PySem.F.type_list_pop mt_popAt (pv 3) (pa_cons (pe_call G_l_pick (hr.mono (by omega)) (by rfl) T.m_l_pick T.k_l_pick T.p_l_pick .nil pass0 (pa_cons (pv 0) (pa_cons (pe_callB (call_lenK K rfl) (by rfl) T.b_len (by kernel_rfl) (pa_cons (pv 3) pa_nil)) pa_nil))) pa_nil)) pa_nil)))
      (pss_cons (ps_for PassesOwn.never rfl (pi_range1 rfl T.b_range (pa_cons (pe_call G_l_pick (hr.mono (by omega)) (by rfl) T.m_l_pick T.k_l_pick T.p_l_pick .nil pass0 (pa_cons (pv 0) (pa_cons (pe_callB (call_min2 rfl) (by rfl) T.b_min (by kernel_rfl) (pa_cons (pe_op op_sub (pv 1) pe_int) (pa_cons (pe_op (op_alt op_add (op_alt op_cat3 op_cat)) (pe_callB (call_lenK K rfl) (by rfl) T.b_len (by kernel_rfl) (pa_cons (pv 3) pa_nil)) pe_int) pa_nil))) pa_nil))) pa_nil)) (pg_name (i := 6) sc_l_few.nd rfl (Or.inl rfl)) (pss_one (ps_expr (pe_bm PySem.F.plainAttrs_list PySem.F.slot_list_append PySem.F.type_list_append mt_append (pe_ix (ix_seqK K rfl) (pe_lst (pa_cons (pv 4) (pa_cons (pv 5) pa_nil))) (pe_call G_l_pick (hr.mono (by omega)) (by rfl) T.m_l_pick T.k_l_pick T.p_l_pick .nil pass0 (pa_cons (pv 0) (pa_consC pe_int pa_nil))) (fun _ _ => rfl)) (pa_cons (pe_bm PySem.F.plainAttrs_list PySem.F.slot_list_pop PySem.F.type_list_pop mt_popAt (pv 3) (pa_cons (pe_call G_l_pick (hr.mono (by omega)) (by rfl) T.m_l_pick T.k_l_pick T.p_l_pick .nil pass0 (pa_cons (pv 0) (pa_cons (pe_callB (call_lenK K rfl) (by rfl) T.b_len (by kernel_rfl) (pa_cons (pv 3) pa_nil)) pa_nil))) pa_nil)) pa_nil)))))
      (pss_one (ps_ret (pe_tup (pa_cons (pv 2) (pa_cons (pe_callTy (call_tuple_ofK K rfl) (by rfl) T.b_tuple (by kernel_rfl) (pa_cons (pe_callB call_sorted (by rfl) T.b_sorted (by kernel_rfl) (pa_cons (pv 4) pa_nil)) pa_nil)) (pa_cons (pe_callTy (call_tuple_ofK K rfl) (by rfl) T.b_tuple (by kernel_rfl) (pa_cons (pe_callB call_sorted (by rfl) T.b_sorted (by kernel_rfl) (pa_cons (pv 5) pa_nil)) pa_nil)) pa_nil))))))))))), (s_seq (s_asg (e_op o_ix (e_lst (a_cons e_int (a_cons e_int (a_cons e_int (a_cons e_int (a_cons e_int (a_cons e_int a_nil))))))) (e_call (a_cons e_var (a_cons e_int a_nil)))) g_name)
      (s_seq (s_asg (e_compO (i_rng1 (a_cons (e_op o_Ii e_int e_var) a_nil)) g_name t_no (l_last (e_cb c_tuple (a_cons (e_comp (i_rng1 (a_cons e_var a_nil)) g_name t_no (l_last (e_op o_I0i (e_op o_Ii e_var (e_op o_I0i (e_op o_I0i e_var e_int) e_var)) e_int))) a_nil)))) g_name)
      (s_seq (s_asg (e_lstO (a_cons (e_popAt e_var (a_cons (e_call (a_cons e_var (a_cons (e_cb c_len (a_cons e_var a_nil)) a_nil))) a_nil)) a_nil)) g_name)
      (s_seq (s_asg (e_lstO (a_cons (e_popAt e_var (a_cons (e_call (a_cons e_var (a_cons (e_cb c_len (a_cons e_var a_nil)) a_nil))) a_nil)) a_nil)) g_name)
      (s_seq (s_for (i_rng1 (a_cons (e_call (a_cons e_var (a_cons (e_cb c_F2 (a_cons (e_op o_I0i e_var e_int) (a_cons (e_op o_add (e_cb c_len (a_cons e_var a_nil)) e_int) a_nil))) a_nil))) a_nil)) g_name (s_drop (e_append (e_op o_ix (e_lstO (a_cons e_var (a_cons e_var a_nil))) (e_call (a_cons e_var (a_cons e_int a_nil)))) (a_cons (e_popAt e_var (a_cons (e_call (a_cons e_var (a_cons (e_cb c_len (a_cons e_var a_nil)) a_nil))) a_nil)) a_nil))))
      (s_ret (e_tup (a_cons e_var (a_cons (e_cb c_tuple (a_cons (e_cb c_sorted (a_cons e_var a_nil)) a_nil)) (a_cons (e_cb c_tuple (a_cons (e_cb c_sorted (a_cons e_var a_nil)) a_nil)) a_nil)))))))))), fun xs ω Q h => ?_⟩)
  obtain ⟨p, rfl, ⟨c0, hc0, hp⟩, k⟩ := h
  walk_at "s1"
  refine ⟨p, 6, 0, rfl, ⟨c0, hc0, hp⟩, by decide, by decide, by decide, fun r c1 hc1 r0 r1 => ⟨r, rfl, ?_⟩⟩
  obtain ⟨n, en, hn1, hn⟩ : ∃ n : Nat, atI [AV.d (D.int 1), AV.d (D.int 2), AV.d (D.int 3), AV.d (D.int 3), AV.d (D.int 4), AV.d (D.int 5)] r = some (.d (.int n)) ∧ 1 ≤ n ∧ n ≤ 5 := by
    rcases (by omega : r = 0 ∨ r = 1 ∨ r = 2 ∨ r = 3 ∨ r = 4 ∨ r = 5) with rfl | rfl | rfl | rfl | rfl | rfl
    · exact ⟨1, rfl, by decide, by decide⟩
    · exact ⟨2, rfl, by decide, by decide⟩
    · exact ⟨3, rfl, by decide, by decide⟩
    · exact ⟨3, rfl, by decide, by decide⟩
    · exact ⟨4, rfl, by decide, by decide⟩
    · exact ⟨5, rfl, by decide, by decide⟩
  refine ⟨_, en, ?_⟩
  clear en r0 r1
  have h32 := pw32 hn
  have hwa := wl_at ⟨n, by omega⟩
  dsimp only at hwa
  have hL0 : (wl n).length = 2 ^ n := wl_len n
  have hL2 : 2 ≤ (wl n).length := by rw [hL0]; exact Nat.pow_le_pow_right (n := 2) (by decide) hn1
  have hnd := (Wds.sub (List.Sublist.refl (wl n)) hn).1
  have hwl := wl_le hn
  walk_at "s1"
  rw [pw5]
  generalize hz : 2 ^ n = z at h32 hwa ⊢
  refine ⟨⟨by omega, by omega, by decide⟩, by omega, by omega, ?_⟩
  rw [Int.toNat_natCast]
  refine comp_ix (rs := (wl n).map wdD) (by rw [hwa]; simp [rngA]) (Nat.le_of_lt (small1000 (by simp [rngA]; omega))) (fun i a r ha hr' Q q => ?_) (fun ρ l hl => ?_)
  · rw [hwa] at hr'
    simp only [rngA, List.getElem?_map, Option.map_eq_some_iff] at ha hr'
    obtain ⟨i', h1, rfl⟩ := ha
    obtain ⟨v, ⟨i2, h2, rfl⟩, rfl⟩ := hr'
    rw [h1] at h2
    cases h2
    walk_at "a1"
    refine ⟨by omega, by omega, ?_⟩
    refine comp_ix (rs := (wdAt n i').map D.int) (by simp [rngA, wdAt]) (Nat.le_of_lt (small1000 (by simp [rngA]; omega))) (fun j a r ha hr' Q q => ?_) (fun ρ => ⟨_, und_map _, ?_⟩)
    · simp only [rngA, wdAt, List.getElem?_map, Option.map_eq_some_iff] at ha hr'
      obtain ⟨k', h1, rfl⟩ := ha
      obtain ⟨v, ⟨k2, h2, rfl⟩, rfl⟩ := hr'
      rw [h1] at h2
      cases h2
      have hk : k' < n := by
        have := List.mem_range.mp (List.mem_of_getElem? h1)
        simpa using this
      walk_at "a1"
      exact ⟨by omega, q⟩
    · exact q
  clear hwa h32 hz
  have hpl : p ≠ l := fun e => by subst e; rw [Om.put_same] at hl; cases hl
  rw [Om.put_ne (Ne.symm hpl)] at hl
  walk_at "s1"
  refine ⟨p, _, 1, rfl, ⟨c1, hc1, by rw [Om.put_ne hpl, Om.put_same]⟩, by decide, by omega, by omega, fun r c2 hc2 r0 r1 => ?_⟩
  obtain ⟨j, rfl⟩ := Int.eq_ofNat_of_zero_le r0
  rw [Om.put_comm hpl, Om.put_put]
  have hj : j < (wl n).length := by omega
  refine ⟨_, j, rfl, Om.put_same, by simp; omega, AV.d (wdD (wl n)[j]), by simp [hj], fun y hy => ?_⟩
  rw [oW_er, Om.put_put] at hy ⊢
  have vj : (wl n)[j]? = some (wl n)[j] := List.getElem?_eq_getElem hj
  have S1 : Sx n ((wl n).eraseIdx j) [(wl n)[j]] [] := (⟨by simpa using hnd, fun v hv => by simpa using hv⟩ : Sx n (wl n) [] []).toY (r := 0) vj
  have hl1 : ((wl n).eraseIdx j).length = (wl n).length - 1 := by rw [List.length_eraseIdx, if_pos hj]
  generalize (wl n).eraseIdx j = L1 at *
  generalize (wl n)[j] = v1 at *
  have hyl : y ≠ l := fun e => by subst e; rw [Om.put_same] at hy; cases hy
  rw [Om.put_ne hyl] at hy
  have hyp : p ≠ y := fun e => by subst e; rw [Om.put_same] at hy; cases hy
  rw [Om.put_ne (Ne.symm hyp)] at hy
  have o3 : ((ω.put p (penO c2)).put l (oW L1)).put y (OC.own [AV.d (wdD v1)]) = om3 ω p l y (penO c2) (oW L1) (oW [v1]) := rfl
  rw [o3]
  walk_at "s1"
  rw [om3_1 (Ne.symm hyl)]
  refine ⟨⟨_, rfl⟩, _, rfl, p, _, 2, rfl, ⟨c2, hc2, om3_p hpl hyp⟩, by omega, by simp; omega, by simp; omega, fun r c3 hc3 r0 r1 => ?_⟩
  obtain ⟨j2, rfl⟩ := Int.eq_ofNat_of_zero_le r0
  rw [om3_pp hpl hyp]
  have hj2 : j2 < L1.length := by simp at r1; omega
  refine ⟨_, j2, rfl, om3_1 (Ne.symm hyl), by simp; omega, AV.d (wdD L1[j2]), by simp [hj2], fun z hz => ?_⟩
  rw [oW_er, om3_p1 (Ne.symm hyl)] at hz ⊢
  have vj2 : L1[j2]? = some L1[j2] := List.getElem?_eq_getElem hj2
  have S2 : Sx n (L1.eraseIdx j2) [v1] [L1[j2]] := S1.toZ (r := 0) vj2
  have hl2 : (L1.eraseIdx j2).length = L1.length - 1 := by rw [List.length_eraseIdx, if_pos hj2]
  generalize L1.eraseIdx j2 = L2' at *
  generalize L1[j2] = v2 at *
  have hzy : z ≠ y := fun e => by subst e; rw [om3_2] at hz; cases hz
  have hzl : z ≠ l := fun e => by subst e; rw [om3_1 (Ne.symm hyl)] at hz; cases hz
  have hzp : z ≠ p := fun e => by subst e; rw [om3_p hpl hyp] at hz; cases hz
  have hz0 : ω z = none := by rw [om3, Om.put_ne hzy, Om.put_ne hzl, Om.put_ne hzp] at hz; exact hz
  have h4 : Ne4 p l y z := ⟨hpl, hyp, Ne.symm hzp, Ne.symm hyl, Ne.symm hzl, Ne.symm hzy⟩
  have F0 : Fw n ω (om4 ω p l y z (penO c3) (oW L2') (oW [v1]) (oW [v2])) p l y z c3 L2' [v1] [v2] :=
    ⟨(((Ex.refl _).new (by rw [Om.put_ne (Ne.symm hpl)]; exact hl)).new (by rw [Om.put_ne hyl, Om.put_ne (Ne.symm hyp)]; exact hy)).new (by rw [Om.put_ne hzy, Om.put_ne hzl, Om.put_ne hzp]; exact hz0), om4_p h4, om4_1 h4, om4_2 h4, om4_3 h4, hl, hy, hz0, h4, S2, by simp, by simp⟩
  have o4 : (om3 ω p l y (penO c3) (oW L2') (oW [v1])).put z (OC.own [AV.d (wdD v2)]) = om4 ω p l y z (penO c3) (oW L2') (oW [v1]) (oW [v2]) := rfl
  rw [o4]
  generalize om4 ω p l y z (penO c3) (oW L2') (oW [v1]) (oW [v2]) = ω1 at *
  have hL2l : L2'.length ≤ 30 := by omega
  walk_at "s1"
  rw [F0.at_l]
  refine ⟨_, rfl, p, _, 3, rfl, ⟨c3, hc3, F0.at_p⟩, by decide, ?_, ?_, fun r c4 hc4 r0 r1 => ?_⟩
  · simp only [List.length_map]
    split <;> omega
  · simp only [List.length_map]
    split <;> omega
  have hr1 : r ≤ 6 ∧ r ≤ L2'.length := by
    simp only [List.length_map] at r1
    split at r1 <;> omega
  clear r1
  obtain ⟨m, rfl⟩ := Int.eq_ofNat_of_zero_le r0
  refine ⟨m, rfl, by omega, by omega, ?_⟩
  rw [Int.toNat_natCast]
  refine for_rng (fun i ρ ω' => ∃ (c : Pn) (L Y Z : List (List Int)) (v6 : Option AV), Cn c (4 + 2 * i) ∧ L.length + i = L2'.length ∧ Y.length + Z.length = 2 + i ∧ Fw n ω ω' p l y z c L Y Z ∧ ρ = [some (AV.r (V.ref p)), some (AV.d (D.int 8)), some (AV.d (D.int n)), some (AV.r (V.ref l)), some (AV.r (V.ref y)), some (AV.r (V.ref z)), v6]) ⟨c4, L2', [v1], [v2], _, hc4, rfl, rfl, F0.pen, rfl⟩ ?_ ?_
  · rintro i ρ ω' N hi ⟨c, L, Y, Z, v6, hc, hLi, hYZ, hF, rfl⟩ kN
    walk_at "a1"
    intro q hq
    have F1 := hF.new (o := .own [AV.r (V.ref y), AV.r (V.ref z)]) hq
    have hqp : q ≠ p := fun e => by subst e; rw [hF.at_p] at hq; cases hq
    refine ⟨p, 2, 4 + 2 * i, rfl, ⟨c, hc, F1.at_p⟩, by omega, by decide, by decide, fun r c5 hc5 r0 r1 => ?_⟩
    have F2 := F1.pen (c' := c5)
    have atq : ((ω'.put q (.own [AV.r (V.ref y), AV.r (V.ref z)])).put p (penO c5)) q = some (.own [AV.r (V.ref y), AV.r (V.ref z)]) := by rw [Om.put_ne hqp, Om.put_same]
    generalize (ω'.put q (.own [AV.r (V.ref y), AV.r (V.ref z)])).put p (penO c5) = ω2 at *
    have hLp : 0 < L.length := by omega
    have rest : ∀ c6 j v, Cn c6 (4 + 2 * i + 2) → L[j]? = some v → (N [some (AV.r (V.ref p)), some (AV.d (D.int 8)), some (AV.d (D.int n)), some (AV.r (V.ref l)), some (AV.r (V.ref y)), some (AV.r (V.ref z)), some (AV.d (D.int (0 + (i : Int))))] (((ω2.put p (penO c6)).put l (oW (L.eraseIdx j))).put y (oW (Y ++ [v])))) ∧
        (N [some (AV.r (V.ref p)), some (AV.d (D.int 8)), some (AV.d (D.int n)), some (AV.r (V.ref l)), some (AV.r (V.ref y)), some (AV.r (V.ref z)), some (AV.d (D.int (0 + (i : Int))))] (((ω2.put p (penO c6)).put l (oW (L.eraseIdx j))).put z (oW (Z ++ [v])))) := fun c6 j v hc6 hv => by
      have hj := (List.getElem?_eq_some_iff.mp hv).1
      have el : (L.eraseIdx j).length = L.length - 1 := by rw [List.length_eraseIdx, if_pos hj]
      exact ⟨kN _ _ ⟨c6, _, _, _, _, ⟨hc6.1, by have := hc6.2; omega⟩, by omega, by simp; omega, F2.pen.toY hv, rfl⟩, kN _ _ ⟨c6, _, _, _, _, ⟨hc6.1, by have := hc6.2; omega⟩, by omega, by simp; omega, F2.pen.toZ hv, rfl⟩⟩
    have ap : ∀ W : List (List Int), ∀ v, OC.own ((W.map wdD).map AV.d ++ [AV.d (wdD v)]) = oW (W ++ [v]) := fun W v => by simp [oW]
    dsimp only
    rw [atq]
    rcases (by omega : r = 0 ∨ r = 1) with rfl | rfl
    · refine ⟨_, rfl, 0, rfl, _, rfl, y, rfl, ⟨_, F2.at_y⟩, ⟨_, F2.at_l⟩, _, by rw [F2.at_l]; rfl, p, _, 4 + 2 * i + 1, rfl, ⟨c5, hc5, F2.at_p⟩, by omega, by simp; omega, by simp; omega, fun r c6 hc6 r0 r1 => ?_⟩
      obtain ⟨j, rfl⟩ := Int.eq_ofNat_of_zero_le r0
      have hj : j < L.length := by simp at r1; omega
      refine ⟨_, j, rfl, F2.pen.at_l, by simp; omega, AV.d (wdD L[j]), by simp [hj], _, by rw [Om.put_ne (Ne.symm h4.a)]; exact F2.pen.at_y, small1000 (by simp; omega), ?_⟩
      rw [oW_er, ap]
      exact (rest c6 j _ hc6 (List.getElem?_eq_getElem hj)).1
    · refine ⟨_, rfl, 1, rfl, _, rfl, z, rfl, ⟨_, F2.at_z⟩, ⟨_, F2.at_l⟩, _, by rw [F2.at_l]; rfl, p, _, 4 + 2 * i + 1, rfl, ⟨c5, hc5, F2.at_p⟩, by omega, by simp; omega, by simp; omega, fun r c6 hc6 r0 r1 => ?_⟩
      obtain ⟨j, rfl⟩ := Int.eq_ofNat_of_zero_le r0
      have hj : j < L.length := by simp at r1; omega
      refine ⟨_, j, rfl, F2.pen.at_l, by simp; omega, AV.d (wdD L[j]), by simp [hj], _, by rw [Om.put_ne (Ne.symm h4.b)]; exact F2.pen.at_z, small1000 (by simp; omega), ?_⟩
      rw [oW_er, ap]
      exact (rest c6 j _ hc6 (List.getElem?_eq_getElem hj)).2
  · rintro ρ ω' ⟨c, L, Y, Z, v6, hc, hLi, hYZ, hF, rfl⟩
    have hYW : Wds n Y := ⟨(List.nodup_append.mp (List.nodup_append.mp hF.sx.nd).2.1).1, fun v hv => hF.sx.inn v (List.mem_append_right _ (List.mem_append_left _ hv))⟩
    have hZW : Wds n Z := ⟨(List.nodup_append.mp (List.nodup_append.mp hF.sx.nd).2.1).2.1, fun v hv => hF.sx.inn v (List.mem_append_right _ (List.mem_append_right _ hv))⟩
    have ne0 : ∀ W : List (List Int), Wds n W → ∀ v ∈ W, ¬v = [] := fun W hW v hv e => by
      have := (wl_mem (hW.2 v hv)).1
      rw [e] at this
      simp at this
      omega
    walk_at "a1"
    rw [hF.at_y, hF.at_z]
    refine ⟨Y, by simp only [und_map]; rfl, ne0 Y hYW, by omega, Z, by simp only [und_map]; rfl, ne0 Z hZW, by omega, ?_⟩
    rw [only_put hF.ex (by rw [hp]; rfl)]
    refine k n (srtW Y) (srtW Z) c hn1 hn ⟨hYW.perm (srtW_perm Y), hZW.perm (srtW_perm Z), srtW_ris Y, srtW_ris Z, fun e => ?_, fun e => ?_, ?_⟩
    · have := srtW_len Y
      rw [e] at this
      exact hF.yn (List.length_eq_zero_iff.mp this.symm)
    · have := srtW_len Z
      rw [e] at this
      exact hF.zn (List.length_eq_zero_iff.mp this.symm)
    · rw [srtW_len, srtW_len]
      omega
end
section
variable {P : Program} {w : World} {K : PySem.W.Frag} {mg : Str → Option Value} {base : Heap} {t : Adr}
abbrev Wo := List (List Int)
def wsD (ws : Wo) : D := .tup (ws.map wdD)
def pD (p : Wo × Wo) : D := .tup [wsD p.1, wsD p.2]
def stW (acc : List (Wo × Wo)) (v : List Int) : List (Wo × Wo) := (acc.map fun p => (p.1 ++ [v], p.2)) ++ acc.map fun p => (p.1, p.2 ++ [v])
def wys (ws : Wo) : List (Wo × Wo) := (ws.drop 1).foldl stW [(ws.take 1, [])]
def hvs (ws : Wo) : List (Wo × Wo) := (wys ws).filter fun p => !p.2.isEmpty
structure WI (dn : Wo) (acc : List (Wo × Wo)) : Prop where
  s1 : ∀ p ∈ acc, p.1.Sublist dn
  s2 : ∀ p ∈ acc, p.2.Sublist dn
  pm : ∀ p ∈ acc, (p.1 ++ p.2).Perm dn
  hd : ∀ p ∈ acc, p.1 ≠ [] ∧ p.1.head? = dn.head?
  nd : acc.Nodup
  cn : acc.countP (fun p => p.2.isEmpty) = 1
  ln : acc.length = 2 ^ (dn.length - 1)
  d0 : dn ≠ []
theorem WI.step {dn : Wo} {acc : List (Wo × Wo)} (h : WI dn acc) {v : List Int} (hv : v ∉ dn) : WI (dn ++ [v]) (stW acc v) := by
  have hp : 0 < dn.length := List.length_pos_iff.mpr h.d0
  have hh : (dn ++ [v]).head? = dn.head? := by
    obtain ⟨x, r, rfl⟩ := List.exists_cons_of_ne_nil h.d0
    rfl
  have key : ∀ p ∈ stW acc v, (∃ q ∈ acc, p = (q.1 ++ [v], q.2)) ∨ ∃ q ∈ acc, p = (q.1, q.2 ++ [v]) := fun p hp => by
    simp only [stW, List.mem_append, List.mem_map] at hp
    rcases hp with ⟨q, hq, rfl⟩ | ⟨q, hq, rfl⟩
    · exact .inl ⟨q, hq, rfl⟩
    · exact .inr ⟨q, hq, rfl⟩
  refine ⟨fun p hp => ?_, fun p hp => ?_, fun p hp => ?_, fun p hp => ?_, ?_, ?_, ?_, by simp⟩
  · rcases key p hp with ⟨q, hq, rfl⟩ | ⟨q, hq, rfl⟩
    · exact (h.s1 q hq).append (List.Sublist.refl _)
    · exact (h.s1 q hq).trans (List.sublist_append_left _ _)
  · rcases key p hp with ⟨q, hq, rfl⟩ | ⟨q, hq, rfl⟩
    · exact (h.s2 q hq).trans (List.sublist_append_left _ _)
    · exact (h.s2 q hq).append (List.Sublist.refl _)
  · rcases key p hp with ⟨q, hq, rfl⟩ | ⟨q, hq, rfl⟩
    · show ((q.1 ++ [v]) ++ q.2).Perm _
      rw [List.append_assoc]
      refine (List.perm_append_comm.append_left q.1).trans ?_
      rw [← List.append_assoc]
      exact (h.pm q hq).append_right [v]
    · show (q.1 ++ (q.2 ++ [v])).Perm _
      rw [← List.append_assoc]
      exact (h.pm q hq).append_right [v]
  · rcases key p hp with ⟨q, hq, rfl⟩ | ⟨q, hq, rfl⟩
    · obtain ⟨h1, h2⟩ := h.hd q hq
      refine ⟨by simp, ?_⟩
      rw [hh, ← h2]
      obtain ⟨x, r, e⟩ := List.exists_cons_of_ne_nil h1
      show (q.1 ++ [v]).head? = _
      rw [e]
      rfl
    · obtain ⟨h1, h2⟩ := h.hd q hq
      exact ⟨h1, by rw [hh]; exact h2⟩
  · refine List.nodup_append.mpr ⟨?_, ?_, fun a ha b hb e => ?_⟩
    · refine List.pairwise_map.mpr (h.nd.imp fun {a b} hne e => hne ?_)
      have e1 := congrArg Prod.fst e
      have e2 := congrArg Prod.snd e
      exact Prod.ext (List.append_cancel_right e1) e2
    · refine List.pairwise_map.mpr (h.nd.imp fun {a b} hne e => hne ?_)
      have e1 := congrArg Prod.fst e
      have e2 := congrArg Prod.snd e
      exact Prod.ext e1 (List.append_cancel_right e2)
    · obtain ⟨q, hq, rfl⟩ := List.mem_map.mp ha
      obtain ⟨q', hq', rfl⟩ := List.mem_map.mp hb
      have e1 : q.1 ++ [v] = q'.1 := congrArg Prod.fst e
      have : v ∈ q'.1 := by rw [← e1]; simp
      exact hv ((h.s1 q' hq').mem this)
  · rw [stW, List.countP_append, List.countP_map, List.countP_map]
    have e1 : (List.countP ((fun p : Wo × Wo => p.2.isEmpty) ∘ fun p : Wo × Wo => (p.1 ++ [v], p.2)) acc) = 1 := h.cn
    have e2 : (List.countP ((fun p : Wo × Wo => p.2.isEmpty) ∘ fun p : Wo × Wo => (p.1, p.2 ++ [v])) acc) = 0 := List.countP_eq_zero.mpr fun p _ => by simp
    rw [e1, e2]
  · rw [stW, List.length_append, List.length_map, List.length_map, h.ln, List.length_append, List.length_singleton]
    rw [show dn.length + 1 - 1 = (dn.length - 1) + 1 from by omega, Nat.pow_succ]
    omega
theorem WI.all : ∀ {rest dn : Wo} {acc : List (Wo × Wo)}, WI dn acc → (dn ++ rest).Nodup → WI (dn ++ rest) (rest.foldl stW acc)
  | [], dn, acc, h, _ => by simpa using h
  | v :: rest, dn, acc, h, hn => by
    have e : dn ++ v :: rest = (dn ++ [v]) ++ rest := by simp
    rw [e] at hn ⊢
    have hv : v ∉ dn := fun hm => (List.nodup_append.mp (List.nodup_append.mp hn).1).2.2 v hm v (by simp) rfl
    exact WI.all (h.step hv) hn
theorem wys_ok {ws : Wo} (h0 : ws ≠ []) (hn : ws.Nodup) : WI ws (wys ws) := by
  obtain ⟨x, r, rfl⟩ := List.exists_cons_of_ne_nil h0
  have b : WI [x] [([x], [])] := ⟨fun p hp => by simp at hp; subst hp; exact List.Sublist.refl _, fun p hp => by simp at hp; subst hp; exact List.nil_sublist _, fun p hp => by simp at hp; subst hp; exact .refl _, fun p hp => by simp at hp; subst hp; exact ⟨by simp, rfl⟩, by simp, rfl, rfl, by simp⟩
  exact b.all (rest := r) hn
theorem hvs_len {ws : Wo} (h0 : ws ≠ []) (hn : ws.Nodup) : (hvs ws).length = 2 ^ (ws.length - 1) - 1 := by
  have h := wys_ok h0 hn
  have := List.length_eq_countP_add_countP (l := wys ws) fun p => p.2.isEmpty
  rw [h.cn, h.ln] at this
  have e : (hvs ws).length = List.countP (fun p : Wo × Wo => decide ¬p.2.isEmpty = true) (wys ws) := by
    rw [hvs, List.countP_eq_length_filter]
    congr 1
    exact List.filter_congr fun p _ => by cases p.2 <;> simp
  rw [e]
  omega
theorem comp_pr {te : AE} {acc : List (Wo × Wo)} {f : Wo × Wo → D} {v0 v1 : Option AV} {rest : SA} {ω : Om} {K : List AV → SA → Om → Prop} (hz : acc.length ≤ sizeLine) (he : ∀ p ∈ acc, ∀ Q : AV → Om → Prop, Q (.d (f p)) ω → te (some (.d (wsD p.1)) :: some (.d (wsD p.2)) :: rest) ω Q)
    (hk : ∀ ρ, K ((acc.map f).map AV.d) ρ ω) : aLoop (agTup 2 (agCons (agName 0) (agCons (agName 1) agNil))) aNoTest (aLast te) ((acc.map pD).map AV.d) [] (v0 :: v1 :: rest) ω K := by
  refine comp_gix (rs := acc.map f) (fun ρ => ∃ v v', ρ = v :: v' :: rest) ⟨_, _, rfl⟩ (by simp) (by simpa using hz) (fun i a r ρ N ha hr ⟨v, v', e⟩ k => ?_) (fun ρ _ => hk ρ)
  subst e
  simp only [List.getElem?_map, Option.map_eq_some_iff] at ha hr
  obtain ⟨_, ⟨p, hp, rfl⟩, rfl⟩ := ha
  obtain ⟨p', hp', rfl⟩ := hr
  rw [hp] at hp'
  cases hp'
  exact ⟨_, rfl, rfl, _, _, rfl, _, _, rfl, rfl, k _ ⟨_, _, rfl⟩ fun Q q => he p (List.mem_of_getElem? hp) Q q⟩
theorem fold_len : ∀ (r : Wo) (acc : List (Wo × Wo)) (b : Nat), (∀ p ∈ acc, p.1.length + p.2.length ≤ b) → ∀ p ∈ r.foldl stW acc, p.1.length + p.2.length ≤ b + r.length
  | [], acc, b, h => by simpa using h
  | v :: r, acc, b, h => fun p hp => by
    have := fold_len r (stW acc v) (b + 1) (fun q hq => by
      simp only [stW, List.mem_append, List.mem_map] at hq
      rcases hq with ⟨q', h1, rfl⟩ | ⟨q', h1, rfl⟩
      · have := h q' h1; simp; omega
      · have := h q' h1; simp; omega) p hp
    simp only [List.length_cons]
    omega
def sp_halves : ASp := fun xs ω Q => ∃ ws : Wo, xs = [.d (wsD ws)] ∧ ws ≠ [] ∧ ws.length ≤ 7 ∧ ws.Nodup ∧ Q (.d (.lst ((hvs ws).map pD))) ω
theorem ok_halves (T : Txt K mg t) : FnOk P w K mg base CX0 1 t.a_halves t.d_halves ["words"] (lift sp_halves) := by
  refine T.f_halves.okD sc_halves (fun xs ω Q h => by obtain ⟨ws, rfl, _⟩ := h; rfl) (fun cdv A outer s H E hr => ⟨_, _, (pss_cons (ps_set (i := 1) sc_halves.nd rfl (Or.inl rfl) (pe_lst (pa_consT (pe_tup (pa_cons (pe_slice (sl_any K rfl) (pv 0) po_none (po_some pe_int)) (pa_consT (pe_tup pa_nil) pa_nil))) pa_nil)))
      (pss_cons (ps_for PassesOwn.never rfl (pi_seq K rfl (pe_slice (sl_any K rfl) (pv 0) (po_some pe_int) po_none)) (pg_name (i := 2) sc_halves.nd rfl (Or.inr rfl)) (pss_cons (ps_setC (i := 3) sc_halves.nd rfl (Or.inl rfl) (N := (["first", "second", "word"] : List Str)) (src := [none, none, some 2]) rfl (by show blkOk _ (defScope s_halves) _ _ (["words", "ways", "word", "in_first", "in_second"] : List Str) = true; decide +kernel) (by intro g' h; cases h) (pi_seq K rfl (pv 1)) (fun _ _ _ _ _ _ => (pg_tupK K rfl (n := 2) rfl (pgs_cons (pg_name (i := 0) (show (["first", "second", "word"] : List Str).Nodup by decide +kernel) rfl (Or.inl rfl)) (pgs_cons (pg_name (i := 1) (show (["first", "second", "word"] : List Str).Nodup by decide +kernel) rfl (Or.inl rfl)) pgs_nil)))) (fun _ _ _ _ _ _ => pts_nil) (fun _ _ _ _ _ _ => (pl_last rfl rfl (pe_tup (pa_cons (pe_op (op_alt op_add (op_alt op_cat3 op_cat)) (pv 0) (pe_tup (pa_cons (pv 2) pa_nil))) (pa_cons (pv 1) pa_nil))))))
      (pss_cons (ps_setC (i := 4) sc_halves.nd rfl (Or.inl rfl) (N := (["first", "second", "word"] : List Str)) (src := [none, none, some 2]) rfl (by show blkOk _ (defScope s_halves) _ _ (["words", "ways", "word", "in_first", "in_second"] : List Str) = true; decide +kernel) (by intro g' h; cases h) (pi_seq K rfl (pv 1)) (fun _ _ _ _ _ _ => (pg_tupK K rfl (n := 2) rfl (pgs_cons (pg_name (i := 0) (show (["first", "second", "word"] : List Str).Nodup by decide +kernel) rfl (Or.inl rfl)) (pgs_cons (pg_name (i := 1) (show (["first", "second", "word"] : List Str).Nodup by decide +kernel) rfl (Or.inl rfl)) pgs_nil)))) (fun _ _ _ _ _ _ => pts_nil) (fun _ _ _ _ _ _ => (pl_last rfl rfl (pe_tup (pa_cons (pv 0) (pa_cons (pe_op (op_alt op_add (op_alt op_cat3 op_cat)) (pv 1) (pe_tup (pa_cons (pv 2) pa_nil))) pa_nil))))))
      (pss_one (ps_set (i := 1) sc_halves.nd rfl (Or.inl rfl) (pe_op (op_alt op_add (op_alt op_cat3 op_cat)) (pv 3) (pv 4)))))))
      (pss_one (ps_ret (pe_comp (N := (["way"] : List Str)) (src := [none]) rfl (by show blkOk _ (defScope s_halves) _ _ (["words", "ways", "word", "in_first", "in_second"] : List Str) = true; decide +kernel) (by intro g' h; cases h) (pi_seq K rfl (pv 1)) (fun _ _ _ _ _ _ => (pg_name (i := 0) (show (["way"] : List Str).Nodup by decide +kernel) rfl (Or.inl rfl))) (fun _ _ _ _ _ _ => (pts_one (pt_cmpR op_gt (pe_callB (call_lenK K rfl) (by rfl) T.b_len (by kernel_rfl) (pa_cons (pe_ix (ix_seqK K rfl) (pv 0) pe_int (fun _ _ => rfl)) pa_nil)) pe_int (nomark _)))) (fun _ _ _ _ _ _ => (pl_last rfl rfl (pv 0)))))))), (s_seq (s_asg (e_lst (a_cons (e_tup (a_cons (e_sl e_var n_none (n_some e_int)) (a_cons (e_tup a_nil) a_nil))) a_nil)) g_name)
      (s_seq (s_for (i_seq (e_sl e_var (n_some e_int) n_none)) g_name (s_seq (s_asg (e_comp (i_seq e_var) (g_tup (g_cons g_name (g_cons g_name g_nil))) t_no (l_last (e_tup (a_cons (e_op o_add e_var (e_tup (a_cons e_var a_nil))) (a_cons e_var a_nil))))) g_name)
      (s_seq (s_asg (e_comp (i_seq e_var) (g_tup (g_cons g_name (g_cons g_name g_nil))) t_no (l_last (e_tup (a_cons e_var (a_cons (e_op o_add e_var (e_tup (a_cons e_var a_nil))) a_nil))))) g_name)
      (s_asg (e_op o_add e_var e_var) g_name))))
      (s_ret (e_comp (i_seq e_var) g_name (t_test (e_op o_I0b (e_cb c_len (a_cons (e_op o_ix e_var e_int) a_nil)) e_int)) (l_last e_var))))), fun xs ω Q h => ?_⟩)
  obtain ⟨ws, rfl, h0, h7, hn, k⟩ := h
  have hpos : 0 < ws.length := List.length_pos_iff.mpr h0
  have e1 : cutL (ws.map wdD) none (some 1) = (ws.take 1).map wdD := by
    rw [cutL_map]
    congr 1
    unfold cutL
    rw [HT.sIx_none, show (1 : Int) = ((1 : Nat) : Int) from rfl, HT.sIx_nat, List.drop_zero, Nat.sub_zero, Nat.min_eq_left hpos]
  have e2 : cutL (ws.map wdD) (some 1) none = (ws.drop 1).map wdD := by
    rw [cutL_map]
    congr 1
    unfold cutL
    rw [HT.sIx_none, show (1 : Int) = ((1 : Nat) : Int) from rfl, HT.sIx_nat, Nat.min_eq_left hpos, List.take_of_length_le (by simp)]
  simp only [wsD]
  walk_at "s1"
  rw [e1]
  walk_at "s1"
  rw [e2]
  refine for_D (fun i ρ ω' => ω' = ω ∧ ∃ v2 v3 v4, ρ = [some (AV.d (D.tup (List.map wdD ws))), some (AV.d (D.lst ((((ws.drop 1).take i).foldl stW [(ws.take 1, [])]).map pD))), v2, v3, v4]) ⟨rfl, _, _, _, rfl⟩ ?_ ?_
  · rintro i d ρ ω' N hd ⟨rfl, v2, v3, v4, rfl⟩ kN
    obtain ⟨v, hv, rfl⟩ := map_get hd
    have hi := (List.getElem?_eq_some_iff.mp hv).1
    have ef : ((ws.drop 1).take (i + 1)).foldl stW [(ws.take 1, [])] = stW (((ws.drop 1).take i).foldl stW [(ws.take 1, [])]) v := by
      rw [show (ws.drop 1).take (i + 1) = (ws.drop 1).take i ++ [v] from by rw [List.take_succ, hv]; rfl, List.foldl_append]
      rfl
    have hacc : (((ws.drop 1).take i).foldl stW [(ws.take 1, [])]).length ≤ 64 := by
      have : ∀ (r : Wo) (acc : List (Wo × Wo)), (r.foldl stW acc).length = acc.length * 2 ^ r.length := fun r => by
        induction r with
        | nil => intro acc; simp
        | cons x r ih =>
          intro acc
          rw [List.foldl_cons, ih, stW, List.length_append, List.length_map, List.length_map, List.length_cons, Nat.pow_succ]
          rw [show acc.length + acc.length = acc.length * 2 from by omega, Nat.mul_assoc, Nat.mul_comm 2]
      rw [this]
      have h6 : ((ws.drop 1).take i).length ≤ 6 := by simp; omega
      have := Nat.pow_le_pow_right (n := 2) (by decide) h6
      simp only [List.length_singleton, Nat.one_mul]
      exact this
    have hb : ∀ p ∈ ((ws.drop 1).take i).foldl stW [(ws.take 1, [])], p.1.length + p.2.length ≤ 10 := fun p hp => by
      have := fold_len _ _ 1 (fun q hq => by simp at hq; subst hq; simp; omega) p hp
      have h6 : ((ws.drop 1).take i).length ≤ 6 := by simp; omega
      omega
    generalize ((ws.drop 1).take i).foldl stW [(ws.take 1, [])] = acc at *
    walk_at "s1"
    refine comp_pr (f := fun p => pD (p.1 ++ [v], p.2)) (Nat.le_of_lt (small1000 (by omega))) (fun p hp Q q => ?_) (fun ρ => ⟨_, und_map _, ?_⟩)
    · simp only [pD, wsD] at q ⊢
      walk_at "a1"
      have := hb p hp
      exact ⟨Nat.le_of_lt (small1000 (by omega)), by simpa using q⟩
    walk_at "s1"
    refine comp_pr (f := fun p => pD (p.1, p.2 ++ [v])) (Nat.le_of_lt (small1000 (by omega))) (fun p hp Q q => ?_) (fun ρ => ⟨_, und_map _, ?_⟩)
    · simp only [pD, wsD] at q ⊢
      walk_at "a1"
      have := hb p hp
      exact ⟨Nat.le_of_lt (small1000 (by omega)), by simpa using q⟩
    walk_at "a1"
    have e5 : (List.map (fun p => pD (p.1 ++ [v], p.2)) acc ++ List.map (fun p => pD (p.1, p.2 ++ [v])) acc) = (((ws.drop 1).take (i + 1)).foldl stW [(ws.take 1, [])]).map pD := by
      rw [ef, stW]
      simp [Function.comp_def]
    refine ⟨Nat.le_of_lt (small1000 (by omega)), ?_⟩
    rw [e5]
    exact kN _ _ ⟨rfl, _, _, _, rfl⟩
  · rintro ρ ω' ⟨rfl, v2, v3, v4, rfl⟩
    rw [List.length_map, List.take_length]
    walk_at "a1"
    have hWI := wys_ok h0 hn
    have hlen : (wys ws).length ≤ 64 := by
      rw [hWI.ln]
      exact Nat.pow_le_pow_right (n := 2) (j := 6) (by decide) (by omega)
    show aLoop _ _ _ (((wys ws).map pD).map AV.d) [] _ _ _
    refine comp_ft pD (fun p => !p.2.isEmpty) pD (Nat.le_of_lt (small1000 (by omega))) (fun p hp Q q => ?_) (fun p hp _ Q q => ?_) (fun ρ => ⟨_, und_map _, ?_⟩)
    · simp only [pD, wsD]
      walk_at "a1"
      rw [show decide (0 < ((List.length p.snd : Nat) : Int)) = !p.2.isEmpty from by cases p.2 <;> simp <;> omega]
      exact q
    · walk_at "a1"
      exact q
    · rw [only_self]
      exact k
mutual
def okE : D → Bool
  | .int _ => true
  | .str z => z == "no" || z == "yes"
  | .tup ds => okEs ds
  | _ => false
def okEs : List D → Bool
  | [] => true
  | d :: ds => okE d && okEs ds
end
mutual
def enc : D → List Int
  | .int i => [i]
  | .str z => [if z = "no" then 0 else 1]
  | .tup ds => encs ds
  | _ => []
def encs : List D → List Int
  | [] => [0]
  | d :: ds => 1 :: (enc d ++ encs ds)
end
mutual
theorem eqE : ∀ {d e : D}, okE d = true → okE e = true → eqD d e = true → d = e
  | .int a, .int b, _, _, h => by simp only [eqD_int] at h; rw [show a = b from by simpa using h]
  | .str a, .str b, _, _, h => by simp only [eqD_str] at h; rw [show a = b from by simpa using h]
  | .tup a, .tup b, h1, h2, h => by simp only [okE] at h1 h2; simp only [eqD] at h; rw [eqEs h1 h2 h]
  | .int _, .bl _, _, h, _ => by simp [okE] at h
  | .int _, .non, _, h, _ => by simp [okE] at h
  | .int _, .lst _, _, h, _ => by simp [okE] at h
  | .int _, .str _, _, _, h => by simp [eqD] at h
  | .int _, .tup _, _, _, h => by simp [eqD] at h
  | .str _, .int _, _, _, h => by simp [eqD] at h
  | .str _, .tup _, _, _, h => by simp [eqD] at h
  | .str _, .bl _, _, h, _ => by simp [okE] at h
  | .str _, .non, _, h, _ => by simp [okE] at h
  | .str _, .lst _, _, h, _ => by simp [okE] at h
  | .tup _, .int _, _, _, h => by simp [eqD] at h
  | .tup _, .str _, _, _, h => by simp [eqD] at h
  | .tup _, .bl _, _, h, _ => by simp [okE] at h
  | .tup _, .non, _, h, _ => by simp [okE] at h
  | .tup _, .lst _, _, h, _ => by simp [okE] at h
  | .bl _, _, h, _, _ => by simp [okE] at h
  | .non, _, h, _, _ => by simp [okE] at h
  | .lst _, _, h, _, _ => by simp [okE] at h
theorem eqEs : ∀ {ds es : List D}, okEs ds = true → okEs es = true → eqDs ds es = true → ds = es
  | [], [], _, _, _ => rfl
  | [], _ :: _, _, _, h => by simp [eqDs] at h
  | _ :: _, [], _, _, h => by simp [eqDs] at h
  | d :: ds, e :: es, h1, h2, h => by
    simp only [okEs, Bool.and_eq_true] at h1 h2
    simp only [eqDs, Bool.and_eq_true] at h
    rw [eqE h1.1 h2.1 h.1, eqEs h1.2 h2.2 h.2]
end
theorem lex_pre : ∀ (p r r' : List Int), lexL (p ++ r) (p ++ r') = lexL r r'
  | [], _, _ => rfl
  | x :: p, r, r' => by simp only [List.cons_append, lexL, if_true]; exact lex_pre p r r'
theorem noyes : decide ((Str.ofString "no").cps.toList < (Str.ofString "yes").cps.toList) = true ∧ decide ((Str.ofString "yes").cps.toList < (Str.ofString "no").cps.toList) = false := by decide +kernel
mutual
theorem enc_lex : ∀ (d e : D) (r r' : List Int), okE d = true → okE e = true → eqD d e = false → cmD d e = true → lexL (enc d ++ r) (enc e ++ r') = ltD d e
  | .int a, .int b, r, r', _, _, h, _ => by
    have hne : a ≠ b := by simpa [eqD_int] using h
    simp only [enc, List.cons_append, List.nil_append, lexL, ltD]
    rw [if_neg hne]
  | .str a, .str b, r, r', h1, h2, h, _ => by
    simp only [okE, Bool.or_eq_true, beq_iff_eq] at h1 h2
    simp only [enc, List.cons_append, List.nil_append, lexL, ltD]
    rcases h1 with rfl | rfl <;> rcases h2 with rfl | rfl
    · simp [eqD_str] at h
    · rw [if_pos rfl, if_neg (by decide), if_neg (by decide)]; exact noyes.1.symm
    · rw [if_neg (by decide), if_pos rfl, if_neg (by decide)]; exact noyes.2.symm
    · simp [eqD_str] at h
  | .tup a, .tup b, r, r', h1, h2, h, hc => by
    simp only [okE] at h1 h2
    simp only [eqD] at h
    simp only [cmD] at hc
    simp only [enc, ltD]
    exact encs_lex a b r r' h1 h2 h hc
  | .int _, .bl _, _, _, _, _, _, h => by simp [cmD] at h
  | .int _, .non, _, _, _, _, _, h => by simp [cmD] at h
  | .int _, .lst _, _, _, _, _, _, h => by simp [cmD] at h
  | .int _, .str _, _, _, _, _, _, h => by simp [cmD] at h
  | .int _, .tup _, _, _, _, _, _, h => by simp [cmD] at h
  | .str _, .int _, _, _, _, _, _, h => by simp [cmD] at h
  | .str _, .tup _, _, _, _, _, _, h => by simp [cmD] at h
  | .str _, .bl _, _, _, _, _, _, h => by simp [cmD] at h
  | .str _, .non, _, _, _, _, _, h => by simp [cmD] at h
  | .str _, .lst _, _, _, _, _, _, h => by simp [cmD] at h
  | .tup _, .int _, _, _, _, _, _, h => by simp [cmD] at h
  | .tup _, .str _, _, _, _, _, _, h => by simp [cmD] at h
  | .tup _, .bl _, _, _, _, _, _, h => by simp [cmD] at h
  | .tup _, .non, _, _, _, _, _, h => by simp [cmD] at h
  | .tup _, .lst _, _, _, _, _, _, h => by simp [cmD] at h
  | .bl _, _, _, _, h, _, _, _ => by simp [okE] at h
  | .non, _, _, _, h, _, _, _ => by simp [okE] at h
  | .lst _, _, _, _, h, _, _, _ => by simp [okE] at h
theorem encs_lex : ∀ (ds es : List D) (r r' : List Int), okEs ds = true → okEs es = true → eqDs ds es = false → cmDs ds es = true → lexL (encs ds ++ r) (encs es ++ r') = ltDs ds es
  | [], [], _, _, _, _, h, _ => by simp [eqDs] at h
  | [], e :: es, r, r', _, _, _, _ => by simp [encs, lexL, ltDs]
  | d :: ds, [], r, r', _, _, _, _ => by simp [encs, lexL, ltDs]
  | d :: ds, e :: es, r, r', h1, h2, h, hc => by
    simp only [okEs, Bool.and_eq_true] at h1 h2
    simp only [cmDs] at hc
    simp only [encs, List.cons_append, lexL, if_true, ltDs, List.append_assoc]
    by_cases hq : eqD d e = true
    · rw [if_pos hq] at hc ⊢
      have := eqE h1.1 h2.1 hq
      subst this
      rw [lex_pre]
      exact encs_lex ds es r r' h1.2 h2.2 (by simpa [eqDs, hq] using h) hc
    · rw [if_neg hq] at hc ⊢
      exact enc_lex d e _ _ h1.1 h2.1 (by simpa using hq) hc
end
mutual
theorem enc_inj : ∀ (d e : D) (r r' : List Int), okE d = true → okE e = true → cmD d e = true → enc d ++ r = enc e ++ r' → d = e ∧ r = r'
  | .int a, .int b, r, r', _, _, _, h => by
    simp only [enc, List.cons_append, List.nil_append, List.cons.injEq] at h
    exact ⟨by rw [h.1], h.2⟩
  | .str a, .str b, r, r', h1, h2, _, h => by
    simp only [okE, Bool.or_eq_true, beq_iff_eq] at h1 h2
    simp only [enc, List.cons_append, List.nil_append, List.cons.injEq] at h
    rcases h1 with rfl | rfl <;> rcases h2 with rfl | rfl
    · exact ⟨rfl, h.2⟩
    · exact absurd h.1 (by decide)
    · exact absurd h.1 (by decide)
    · exact ⟨rfl, h.2⟩
  | .tup a, .tup b, r, r', h1, h2, hc, h => by
    simp only [okE] at h1 h2
    simp only [cmD] at hc
    simp only [enc] at h
    obtain ⟨e1, e2⟩ := encs_inj a b r r' h1 h2 hc h
    exact ⟨by rw [e1], e2⟩
  | .int _, .bl _, _, _, _, _, h, _ => by simp [cmD] at h
  | .int _, .non, _, _, _, _, h, _ => by simp [cmD] at h
  | .int _, .lst _, _, _, _, _, h, _ => by simp [cmD] at h
  | .int _, .str _, _, _, _, _, h, _ => by simp [cmD] at h
  | .int _, .tup _, _, _, _, _, h, _ => by simp [cmD] at h
  | .str _, .int _, _, _, _, _, h, _ => by simp [cmD] at h
  | .str _, .tup _, _, _, _, _, h, _ => by simp [cmD] at h
  | .str _, .bl _, _, _, _, _, h, _ => by simp [cmD] at h
  | .str _, .non, _, _, _, _, h, _ => by simp [cmD] at h
  | .str _, .lst _, _, _, _, _, h, _ => by simp [cmD] at h
  | .tup _, .int _, _, _, _, _, h, _ => by simp [cmD] at h
  | .tup _, .str _, _, _, _, _, h, _ => by simp [cmD] at h
  | .tup _, .bl _, _, _, _, _, h, _ => by simp [cmD] at h
  | .tup _, .non, _, _, _, _, h, _ => by simp [cmD] at h
  | .tup _, .lst _, _, _, _, _, h, _ => by simp [cmD] at h
  | .bl _, _, _, _, h, _, _, _ => by simp [okE] at h
  | .non, _, _, _, h, _, _, _ => by simp [okE] at h
  | .lst _, _, _, _, h, _, _, _ => by simp [okE] at h
theorem encs_inj : ∀ (ds es : List D) (r r' : List Int), okEs ds = true → okEs es = true → cmDs ds es = true → encs ds ++ r = encs es ++ r' → ds = es ∧ r = r'
  | [], [], _, _, _, _, _, h => by simpa [encs] using h
  | [], e :: es, r, r', _, _, _, h => by simp [encs] at h
  | d :: ds, [], r, r', _, _, _, h => by simp [encs] at h
  | d :: ds, e :: es, r, r', h1, h2, hc, h => by
    simp only [okEs, Bool.and_eq_true] at h1 h2
    simp only [cmDs] at hc
    simp only [encs, List.cons_append, List.append_assoc, List.cons.injEq, true_and] at h
    by_cases hq : eqD d e = true
    · rw [if_pos hq] at hc
      have := eqE h1.1 h2.1 hq
      subst this
      obtain ⟨e1, e2⟩ := encs_inj ds es r r' h1.2 h2.2 hc (List.append_cancel_left h)
      exact ⟨by rw [e1], e2⟩
    · rw [if_neg hq] at hc
      obtain ⟨e1, e2⟩ := enc_inj d e _ _ h1.1 h2.1 hc h
      exact absurd (by rw [e1]; exact eqD_refl _) hq
end
theorem ltD_self : ∀ d : D, okE d = true → ltD d d = false
  | .int a, _ => by simp [ltD]
  | .str a, h => by
    simp only [okE, Bool.or_eq_true, beq_iff_eq] at h
    simp only [ltD]
    rcases h with rfl | rfl <;> decide +kernel
  | .tup ds, _ => by
    simp only [ltD]
    exact go ds
  | .bl _, h => by simp [okE] at h
  | .non, h => by simp [okE] at h
  | .lst _, h => by simp [okE] at h
where go : ∀ ds : List D, ltDs ds ds = false
  | [] => rfl
  | d :: ds => by simp only [ltDs]; rw [if_pos (eqD_refl d)]; exact go ds
theorem lex_self : ∀ x : List Int, lexL x x = false
  | [] => rfl
  | x :: xs => by simp only [lexL, if_true]; exact lex_self xs
theorem enc_lt {d e : D} (h1 : okE d = true) (h2 : okE e = true) (hc : cmD d e = true) : ltD d e = lexL (enc d) (enc e) := by
  by_cases hq : eqD d e = true
  · have := eqE h1 h2 hq
    subst this
    rw [lex_self, ltD_self d h1]
  · have := enc_lex d e [] [] h1 h2 (by simpa using hq) hc
    rw [List.append_nil, List.append_nil] at this
    exact this.symm
def rowN (ys : Wo) (p : Wo × Wo) : D := .tup [.str "no", .tup [wsD ys, wsD p.1], .tup [wsD ys, wsD p.2]]
def rowY (zs : Wo) (p : Wo × Wo) : D := .tup [.str "yes", .tup [wsD p.1, wsD zs], .tup [wsD p.2, wsD zs]]
def rws (ys zs : Wo) : List D := (hvs zs).map (rowN ys) ++ (hvs ys).map (rowY zs)
def IsRow (d : D) : Prop := ∃ (z : Str) (a b c e : Wo), (z = "no" ∨ z = "yes") ∧ d = .tup [.str z, .tup [wsD a, wsD b], .tup [wsD c, wsD e]]
theorem rws_row {ys zs : Wo} {d : D} (h : d ∈ rws ys zs) : IsRow d := by
  simp only [rws, List.mem_append, List.mem_map] at h
  rcases h with ⟨p, _, rfl⟩ | ⟨p, _, rfl⟩
  · exact ⟨"no", _, _, _, _, .inl rfl, rfl⟩
  · exact ⟨"yes", _, _, _, _, .inr rfl, rfl⟩
theorem okE_ints : ∀ v : List Int, okEs (v.map D.int) = true
  | [] => rfl
  | x :: v => by simp [okEs, okE, okE_ints v]
theorem okE_wds : ∀ ws : Wo, okEs (ws.map wdD) = true
  | [] => rfl
  | x :: ws => by simp [okEs, okE, wdD, okE_ints x, okE_wds ws]
theorem IsRow.ok {d : D} (h : IsRow d) : okE d = true := by
  obtain ⟨z, a, b, c, e, hz, rfl⟩ := h
  have hz' : okE (.str z) = true := by rcases hz with rfl | rfl <;> decide
  simp only [okE, okEs, wsD, okE_wds, Bool.and_true, Bool.true_and] at hz' ⊢
  exact hz'
theorem cm_wss : ∀ a b : Wo, cmDs (a.map wdD) (b.map wdD) = true
  | [], _ => by simp [cmDs]
  | _ :: _, [] => by simp [cmDs]
  | x :: xs, y :: ys => by
    simp only [List.map_cons, cmDs]
    split
    · exact cm_wss xs ys
    · exact cm_ints x y
theorem cm_two (a b a' b' : Wo) : cmD (.tup [wsD a, wsD b]) (.tup [wsD a', wsD b']) = true := by
  simp only [cmD, cmDs]
  split
  · split
    · rfl
    · exact cm_wss b b'
  · exact cm_wss a a'
theorem IsRow.cm {d d' : D} (h : IsRow d) (h' : IsRow d') : cmD d d' = true := by
  obtain ⟨z, a, b, c, e, _, rfl⟩ := h
  obtain ⟨z', a', b', c', e', _, rfl⟩ := h'
  simp only [cmD, cmDs]
  split
  · split
    · split
      · rfl
      · exact cm_two c e c' e'
    · exact cm_two a b a' b'
  · rfl
theorem rows_srt {W : List D} (h : ∀ d ∈ W, IsRow d) : Srt W enc true :=
  ⟨fun d hd => by obtain ⟨z, a, b, c, e, _, rfl⟩ := h d hd; exact ⟨_, .inl ⟨rfl, z, rfl⟩⟩, fun d hd e he => (h d hd).cm (h e he), fun d hd e he => enc_lt (h d hd).ok (h e he).ok ((h d hd).cm (h e he))⟩
theorem IsRow.dep {d : D} (h : IsRow d) : dep d ≤ 5 := by
  obtain ⟨z, a, b, c, e, _, rfl⟩ := h
  have h1 := deps_wds a
  have h2 := deps_wds b
  have h3 := deps_wds c
  have h4 := deps_wds e
  simp only [L2.dep, deps, wsD]
  omega
theorem deps_le : ∀ {W : List D} {n : Nat}, (∀ d ∈ W, dep d ≤ n) → deps W ≤ n
  | [], _, _ => by simp [deps]
  | d :: W, n, h => by
    have h1 := h d List.mem_cons_self
    have h2 := deps_le (W := W) fun e he => h e (List.mem_cons_of_mem _ he)
    simp only [deps]
    omega
theorem pow63' : ∀ a b : Fin 9, 1 ≤ a.val → 1 ≤ b.val → a.val + b.val ≤ 8 → (2 ^ (a.val - 1) - 1) + (2 ^ (b.val - 1) - 1) < 64 := by decide +kernel
theorem rws_len {n : Nat} {ys zs : Wo} (h : Few n ys zs) : (rws ys zs).length < 64 := by
  rw [rws, List.length_append, List.length_map, List.length_map, hvs_len h.zn h.wz.1, hvs_len h.yn h.wy.1]
  have h1 := List.length_pos_iff.mpr h.yn
  have h2 := List.length_pos_iff.mpr h.zn
  have h3 := h.few
  exact pow63' ⟨zs.length, by omega⟩ ⟨ys.length, by omega⟩ h2 h1 (by show zs.length + ys.length ≤ 8; omega)
def parts (ys zs : Wo) : List D := srtK enc (rws ys zs)
def sp_parts : ASp := fun xs ω Q => ∃ (n : Nat) (ys zs : Wo), xs = [.d (.tup [wsD ys, wsD zs])] ∧ Few n ys zs ∧ ∀ l, ω l = none → Q (.r (.ref l)) (ω.put l (.own ((parts ys zs).map AV.d)))
theorem ok_parts (T : Txt K mg t) : FnOk P w K mg base CX0 2 t.a_partings t.d_partings ["box"] (lift sp_parts) := by
  have G_halves : FnOk P w K mg base CX0 1 t.a_halves t.d_halves ["words"] (lift sp_halves) := ok_halves T
  refine T.f_partings.okA sc_partings (fun xs ω Q h => by obtain ⟨n, ys, zs, rfl, _⟩ := h; rfl) (fun cdv A outer s H E hr => ⟨_, _, (pss_cons (ps_asg (pv 0) (pg_tupK K rfl (n := 2) rfl (pgs_cons (pg_name (i := 1) sc_partings.nd rfl (Or.inr rfl)) (pgs_cons (pg_name (i := 2) sc_partings.nd rfl (Or.inr rfl)) pgs_nil))))
      (pss_cons (ps_setC (i := 3) sc_partings.nd rfl (Or.inl rfl) (N := (["first", "second", "yes"] : List Str)) (src := [none, none, some 1]) rfl (by show blkOk _ (defScope s_partings) _ _ (["box", "yes", "no", "by_no", "by_yes"] : List Str) = true; decide +kernel) (by intro g' h; cases h) (pi_seq K rfl (pe_call G_halves (hr.mono (by omega)) (by rfl) T.m_halves T.k_halves T.p_halves .nil pass0 (pa_cons (pv 2) pa_nil))) (fun _ _ _ _ _ _ => (pg_tupK K rfl (n := 2) rfl (pgs_cons (pg_name (i := 0) (show (["first", "second", "yes"] : List Str).Nodup by decide +kernel) rfl (Or.inl rfl)) (pgs_cons (pg_name (i := 1) (show (["first", "second", "yes"] : List Str).Nodup by decide +kernel) rfl (Or.inl rfl)) pgs_nil)))) (fun _ _ _ _ _ _ => pts_nil) (fun _ _ _ _ _ _ => (pl_last rfl rfl (pe_tup (pa_consC pe_str (pa_consT (pe_tup (pa_cons (pv 2) (pa_cons (pv 0) pa_nil))) (pa_consT (pe_tup (pa_cons (pv 2) (pa_cons (pv 1) pa_nil))) pa_nil)))))))
      (pss_cons (ps_setC (i := 4) sc_partings.nd rfl (Or.inl rfl) (N := (["first", "second", "no"] : List Str)) (src := [none, none, some 2]) rfl (by show blkOk _ (defScope s_partings) _ _ (["box", "yes", "no", "by_no", "by_yes"] : List Str) = true; decide +kernel) (by intro g' h; cases h) (pi_seq K rfl (pe_call G_halves (hr.mono (by omega)) (by rfl) T.m_halves T.k_halves T.p_halves .nil pass0 (pa_cons (pv 1) pa_nil))) (fun _ _ _ _ _ _ => (pg_tupK K rfl (n := 2) rfl (pgs_cons (pg_name (i := 0) (show (["first", "second", "no"] : List Str).Nodup by decide +kernel) rfl (Or.inl rfl)) (pgs_cons (pg_name (i := 1) (show (["first", "second", "no"] : List Str).Nodup by decide +kernel) rfl (Or.inl rfl)) pgs_nil)))) (fun _ _ _ _ _ _ => pts_nil) (fun _ _ _ _ _ _ => (pl_last rfl rfl (pe_tup (pa_consC pe_str (pa_consT (pe_tup (pa_cons (pv 0) (pa_cons (pv 2) pa_nil))) (pa_consT (pe_tup (pa_cons (pv 1) (pa_cons (pv 2) pa_nil))) pa_nil)))))))
      (pss_one (ps_ret (pe_callB (call_sortedD K rfl hr.u100) (by rfl) T.b_sorted (by kernel_rfl) (pa_cons (pe_op (op_alt op_add (op_alt op_cat3 op_cat)) (pv 3) (pv 4)) pa_nil))))))), (s_seq (s_asg e_var (g_tup (g_cons g_name (g_cons g_name g_nil))))
      (s_seq (s_asg (e_comp (i_seq (e_call (a_cons e_var a_nil))) (g_tup (g_cons g_name (g_cons g_name g_nil))) t_no (l_last (e_tup (a_cons e_str (a_cons (e_tup (a_cons e_var (a_cons e_var a_nil))) (a_cons (e_tup (a_cons e_var (a_cons e_var a_nil))) a_nil)))))) g_name)
      (s_seq (s_asg (e_comp (i_seq (e_call (a_cons e_var a_nil))) (g_tup (g_cons g_name (g_cons g_name g_nil))) t_no (l_last (e_tup (a_cons e_str (a_cons (e_tup (a_cons e_var (a_cons e_var a_nil))) (a_cons (e_tup (a_cons e_var (a_cons e_var a_nil))) a_nil)))))) g_name)
      (s_ret (e_cb c_sortDO (a_cons (e_op o_add e_var e_var) a_nil)))))), fun xs ω Q h => ?_⟩)
  obtain ⟨n, ys, zs, rfl, hF, k⟩ := h
  have h1 := List.length_pos_iff.mpr hF.yn
  have h2 := List.length_pos_iff.mpr hF.zn
  have h3 := hF.few
  have hlen := rws_len hF
  walk_at "s1"
  walk_at "s1"
  refine ⟨zs, rfl, hF.zn, by omega, hF.wz.1, _, rfl, ?_⟩
  have ln : (hvs zs).length + (hvs ys).length < 64 := by
    rw [rws, List.length_append, List.length_map, List.length_map] at hlen
    exact hlen
  refine comp_pr (f := rowN ys) (Nat.le_of_lt (small1000 (by omega))) (fun p hp Q q => ?_) (fun ρ => ⟨_, und_map _, ?_⟩)
  · walk_at "a1"
    exact q
  walk_at "s1"
  refine ⟨ys, rfl, hF.yn, by omega, hF.wy.1, _, rfl, ?_⟩
  refine comp_pr (f := rowY zs) (Nat.le_of_lt (small1000 (by omega))) (fun p hp Q q => ?_) (fun ρ => ⟨_, und_map _, ?_⟩)
  · walk_at "a1"
    exact q
  walk_at "a1"
  refine ⟨Nat.le_of_lt (small1000 (by omega)), ?_⟩
  rw [aSortDO_eq]
  exact ⟨_, rws ys zs, enc, true, rfl, rfl, rows_srt fun d hd => rws_row hd, Nat.le_trans (deps_le fun d hd => (rws_row hd).dep) (by decide), hlen, k⟩
end
section
variable {P : Program} {w : World} {K : PySem.W.Frag} {mg : Str → Option Value} {base : Heap} {t : Adr}
theorem sub_filter : ∀ {a ws : Wo}, a.Sublist ws → ws.Nodup → (ws.filter fun v => decide (v ∈ a)) = a
  | _, [], h, _ => by rw [List.sublist_nil.mp h]; rfl
  | a, x :: ws, h, hn => by
    have hx : x ∉ ws := (List.nodup_cons.mp hn).1
    have hn' := (List.nodup_cons.mp hn).2
    cases h with
    | cons _ h =>
      rw [List.filter_cons, if_neg (by simp; exact fun m => hx (h.mem m))]
      exact sub_filter h hn'
    | cons_cons _ h =>
      rw [List.filter_cons, if_pos (by simp)]
      congr 1
      conv => rhs; rw [← sub_filter h hn']
      refine List.filter_congr fun v hv => ?_
      have : v ≠ x := fun e => hx (e ▸ hv)
      simp [this]
def sp_ispart : ASp := fun xs ω Q => ∃ (n : Nat) (a ws : Wo), xs = [.d (wsD a), .d (wsD ws)] ∧ a.Sublist ws ∧ ws.Nodup ∧ a ≠ [] ∧ ws.length ≤ 8 ∧ Q (.d (.bl true)) ω
theorem ok_ispart (T : Txt K mg t) : FnOk P w K mg base CX0 1 t.a_l_is_part t.d_l_is_part ["_law_some", "_law_words"] (lift sp_ispart) := by
  refine T.f_l_is_part.okD sc_l_is_part (fun xs ω Q h => by obtain ⟨n, a, ws, rfl, _⟩ := h; rfl) (fun cdv A outer s H E hr => ⟨_, _, (pss_one (ps_ret (pe_andG K rfl (pe_callB call_isA (by rfl) T.b_isinstance (by kernel_rfl) (pa_cons (pv 0) (pa_cons (pe_bltn (v := .ty "tuple") (by rfl) T.b_tuple (by kernel_rfl) (by rfl)) pa_nil))) (pe_andG K rfl (pe_cmpR (op_eqD hr.u100) (pv 0) (pe_callTy (call_tuple_ofK K rfl) (by rfl) T.b_tuple (by kernel_rfl) (pa_cons (pe_comp (N := (["_law_word", "_law_some"] : List Str)) (src := [none, some 0]) rfl (by show blkOk _ (defScope s_l_is_part) _ _ (["_law_some", "_law_words"] : List Str) = true; decide +kernel) (by intro g' h; cases h) (pi_seq K rfl (pv 1)) (fun _ _ _ _ _ _ => (pg_name (i := 0) (show (["_law_word", "_law_some"] : List Str).Nodup by decide +kernel) rfl (Or.inl rfl))) (fun _ _ _ _ _ _ => (pts_one (pt_cmpR (op_inD hr.u100) (pv 0) (pv 1) (by with_unfolding_all rfl)))) (fun _ _ _ _ _ _ => (pl_last rfl rfl (pv 0)))) pa_nil)) (nomark _)) (pe_one (pe_cmpR op_gt (pe_callB (call_lenK K rfl) (by rfl) T.b_len (by kernel_rfl) (pa_cons (pv 0) pa_nil)) pe_int (nomark _))))))), (s_ret (e_andG (e_cb c_isA (a_cons e_var (a_cons e_raw a_nil))) (e_andG (e_op o_eqD e_var (e_cb c_tuple (a_cons (e_comp (i_seq e_var) g_name (t_test (e_op o_in e_var e_var)) (l_last e_var)) a_nil))) (e_op o_I0b (e_cb c_len (a_cons e_var a_nil)) e_int)))), fun xs ω Q h => ?_⟩)
  obtain ⟨n, a, ws, rfl, hs, hn, h0, h8, k⟩ := h
  have hpos := List.length_pos_iff.mpr h0
  simp only [wsD]
  walk_at "a1"
  refine ⟨by decide, ?_⟩
  rw [if_pos (show isD "tuple" (D.tup (List.map wdD a)) = true from rfl)]
  have hal := hs.length_le
  refine comp_ft wdD (fun v => decide (v ∈ a)) wdD (Nat.le_of_lt (small1000 (by omega))) (fun v hv Q q => ?_) (fun v hv _ Q q => ?_) (fun ρ => ⟨_, und_map _, ?_⟩)
  · walk_at "a1"
    refine ⟨by have := deps_wds a; omega, ?_⟩
    rw [inD_wd]
    exact q
  · walk_at "a1"
    exact q
  rw [sub_filter hs hn]
  refine ⟨by have := deps_wds a; simp only [dep]; omega, ?_⟩
  rw [if_pos (eqD_refl _), only_self, decide_eq_true (by omega)]
  exact k
def Rgt (ys zs : Wo) (d : D) : Prop := (∃ p : Wo × Wo, d = rowN ys p ∧ p.1.Sublist zs ∧ p.2.Sublist zs ∧ p.1 ≠ [] ∧ p.2 ≠ [] ∧ p.1.head? = zs.head? ∧ (p.1 ++ p.2).Perm zs) ∨ ∃ p : Wo × Wo, d = rowY zs p ∧ p.1.Sublist ys ∧ p.2.Sublist ys ∧ p.1 ≠ [] ∧ p.2 ≠ [] ∧ p.1.head? = ys.head? ∧ (p.1 ++ p.2).Perm ys
theorem rws_rgt {n : Nat} {ys zs : Wo} (h : Few n ys zs) {d : D} (hd : d ∈ rws ys zs) : Rgt ys zs d := by
  have key : ∀ {ws : Wo}, ws ≠ [] → ws.Nodup → ∀ p ∈ hvs ws, p.1.Sublist ws ∧ p.2.Sublist ws ∧ p.1 ≠ [] ∧ p.2 ≠ [] ∧ p.1.head? = ws.head? ∧ (p.1 ++ p.2).Perm ws := fun {ws} h0 hn p hp => by
    have hW := wys_ok h0 hn
    obtain ⟨hm, hq⟩ := List.mem_filter.mp hp
    exact ⟨hW.s1 p hm, hW.s2 p hm, (hW.hd p hm).1, fun e => by rw [e] at hq; simp at hq, (hW.hd p hm).2, hW.pm p hm⟩
  simp only [rws, List.mem_append, List.mem_map] at hd
  rcases hd with ⟨p, hp, rfl⟩ | ⟨p, hp, rfl⟩
  · exact .inl ⟨p, rfl, key h.zn h.wz.1 p hp⟩
  · exact .inr ⟨p, rfl, key h.yn h.wy.1 p hp⟩
theorem row_end {n : Nat} {p : Wo × Wo} {ws : Wo} {ω : Om} {Q : AV → Om → Prop} (hn1 : 1 ≤ n) (hw : Wds n ws) (hl : ws.length ≤ 8) (hr : Ris ws) (n1 : p.1 ≠ []) (hh : p.1.head? = ws.head?) (hp : (p.1 ++ p.2).Perm ws) (k : Q (.d (.bl true)) ω) :
    ∃ xs, (lstA ω (AV.d (wsD p.1)) = some xs ∨ tupA (AV.d (wsD p.1)) = some xs) ∧ ∃ x, atI xs 0 = some x ∧ ∃ xs, (lstA ω (AV.d (wsD ws)) = some xs ∨ tupA (AV.d (wsD ws)) = some xs) ∧ ∃ x_1, atI xs 0 = some x_1 ∧ ∃ a, datA ω x = some a ∧ ∃ x, datA ω x_1 = some x ∧ dep a ≤ 100 ∧
      if eqD a x = true then aAdd (AV.d (wsD p.1)) (AV.d (wsD p.2)) ω fun x ω1 => aSortTW [x] ω1 fun x ω1 => ∃ x_2, (datA ω1 x = some (D.lst x_2) ∨ x = AV.d (D.tup x_2)) ∧ dep (D.tup x_2) ≤ 100 ∧ Q (AV.d (D.bl (eqD (D.tup x_2) (wsD ws)))) (ω1.only ω)
      else Q (AV.d (D.bl (eqD a x))) (ω.only ω) := by
  obtain ⟨x, r, e⟩ := List.exists_cons_of_ne_nil n1
  have h0 : p.1[0]? = some x := by rw [e]; rfl
  have h1 : ws[0]? = some x := by rw [← List.head?_eq_getElem?, ← hh, e]; rfl
  have a1 : atI ((p.1.map wdD).map AV.d) 0 = some (.d (wdD x)) := atI_of 0 rfl (by simp [h0])
  have a2 : atI ((ws.map wdD).map AV.d) 0 = some (.d (wdD x)) := atI_of 0 rfl (by simp [h1])
  refine ⟨_, .inr rfl, _, a1, _, .inr rfl, _, a2, _, rfl, _, rfl, by rw [dep_wd]; decide, ?_⟩
  rw [if_pos (eqD_refl _)]
  have hlen : p.1.length + p.2.length = ws.length := by rw [← List.length_append]; exact hp.length_eq
  show aAdd (AV.d (D.tup (p.1.map wdD))) (AV.d (D.tup (p.2.map wdD))) _ _
  rw [aAdd_tup]
  refine ⟨_, rfl, Nat.le_of_lt (small1000 (by simp; omega)), ?_⟩
  rw [aSortTW_eq]
  have hm : ∀ y ∈ p.1 ++ p.2, y ≠ [] := fun y hy e => by
    have := (wl_mem (hw.2 y (hp.mem_iff.mp hy))).1
    rw [e] at this
    simp at this
    omega
  refine ⟨p.1 ++ p.2, by simp, hm, by rw [List.length_append]; omega, _, .inl rfl, ?_, ?_⟩
  · have := deps_wds (srtW (p.1 ++ p.2))
    simp only [dep]
    omega
  · rw [srtW_of hp hr, only_self, show eqD (D.tup (ws.map wdD)) (wsD ws) = true from eqD_refl _]
    exact k
theorem dep_ws (ws : Wo) : dep (wsD ws) ≤ 100 := by
  have := deps_wds ws
  simp only [wsD, dep]
  omega
def sp_rowr : ASp := fun xs ω Q => ∃ (n : Nat) (ys zs : Wo) (d : D), xs = [.d d, .d (.tup [wsD ys, wsD zs])] ∧ 1 ≤ n ∧ n ≤ 5 ∧ Few n ys zs ∧ Rgt ys zs d ∧ Q (.d (.bl true)) ω
theorem ok_rowr (T : Txt K mg t) : FnOk P w K mg base CX0 2 t.a_l_row_right t.d_l_row_right ["_law_row", "_law_box"] (lift sp_rowr) := by
  have G_l_is_part : FnOk P w K mg base CX0 1 t.a_l_is_part t.d_l_is_part ["_law_some", "_law_words"] (lift sp_ispart) := ok_ispart T
  refine T.f_l_row_right.okD sc_l_row_right (fun xs ω Q h => by obtain ⟨n, ys, zs, d, rfl, _⟩ := h; rfl) (fun cdv A outer s H E hr => ⟨_, _, (pss_cons (ps_if (PW.pt (pw_or (pt_not (pt_truthK K rfl (pe_callB call_isA (by rfl) T.b_isinstance (by kernel_rfl) (pa_cons (pv 0) (pa_cons (pe_bltn (v := .ty "tuple") (by rfl) T.b_tuple (by kernel_rfl) (by rfl)) pa_nil))) (fun _ => rfl))) (pw_or (pt_cmpR (op_neD hr.u100) (pe_callB (call_lenK K rfl) (by rfl) T.b_len (by kernel_rfl) (pa_cons (pv 0) pa_nil)) pe_int (nomark _)) (pw_or1 (pt_cmpR (op_notInD hr.u100) (pe_ix (ix_seqK K rfl) (pv 0) pe_int (fun _ _ => rfl)) (pe_tup (pa_consC pe_str (pa_consC pe_str pa_nil))) (by with_unfolding_all rfl)))))) (pss_one (ps_ret pe_bl)) pss_nil)
      (pss_cons (ps_for PassesOwn.never rfl (pi_seq K rfl (pe_slice (sl_any K rfl) (pv 0) (po_some pe_int) po_none)) (pg_name (i := 2) sc_l_row_right.nd rfl (Or.inl rfl)) (pss_cons (ps_if (PW.pt (pw_or (pt_not (pt_truthK K rfl (pe_callB call_isA (by rfl) T.b_isinstance (by kernel_rfl) (pa_cons (pv 2) (pa_cons (pe_bltn (v := .ty "tuple") (by rfl) T.b_tuple (by kernel_rfl) (by rfl)) pa_nil))) (fun _ => rfl))) (pw_or1 (pt_cmpR (op_neD hr.u100) (pe_callB (call_lenK K rfl) (by rfl) T.b_len (by kernel_rfl) (pa_cons (pv 2) pa_nil)) pe_int (nomark _))))) (pss_one (ps_ret pe_bl)) pss_nil)
      (pss_one (ps_if (PW.pt (pw_or (pt_not (pt_truthK K rfl (pe_call G_l_is_part (hr.mono (by omega)) (by rfl) T.m_l_is_part T.k_l_is_part T.p_l_is_part .nil pass0 (pa_cons (pe_ix (ix_seqK K rfl) (pv 2) pe_int (fun _ _ => rfl)) (pa_cons (pe_ix (ix_seqK K rfl) (pv 1) pe_int (fun _ _ => rfl)) pa_nil))) (fun _ => rfl))) (pw_or1 (pt_not (pt_truthK K rfl (pe_call G_l_is_part (hr.mono (by omega)) (by rfl) T.m_l_is_part T.k_l_is_part T.p_l_is_part .nil pass0 (pa_cons (pe_ix (ix_seqK K rfl) (pv 2) pe_int (fun _ _ => rfl)) (pa_cons (pe_ix (ix_seqK K rfl) (pv 1) pe_int (fun _ _ => rfl)) pa_nil))) (fun _ => rfl)))))) (pss_one (ps_ret pe_bl)) pss_nil))))
      (pss_cons (ps_set (i := 3) sc_l_row_right.nd rfl (Or.inl rfl) (pe_callTy call_int1 (by rfl) T.b_int (by kernel_rfl) (pa_cons (pe_cmpR (op_eqD hr.u100) (pe_ix (ix_seqK K rfl) (pv 0) pe_int (fun _ _ => rfl)) pe_str (nomark _)) pa_nil)))
      (pss_cons (ps_par (i := 4) (j := 5) rfl sc_l_row_right.nd rfl rfl (by decide) rfl rfl (pa_cons (pe_ix (ix_seqK K rfl) (pe_ix (ix_seqK K rfl) (pv 0) pe_int (fun _ _ => rfl)) (pv 3) (fun _ _ => rfl)) (pa_cons (pe_ix (ix_seqK K rfl) (pe_ix (ix_seqK K rfl) (pv 0) pe_int (fun _ _ => rfl)) (pv 3) (fun _ _ => rfl)) pa_nil)) (by rfl))
      (pss_cons (ps_if (PW.pt (pw_or (pt_cmpR (op_neD hr.u100) (pe_ix (ix_seqK K rfl) (pe_ix (ix_seqK K rfl) (pv 0) pe_int (fun _ _ => rfl)) (pe_op op_sub pe_int (pv 3)) (fun _ _ => rfl)) (pe_ix (ix_seqK K rfl) (pv 1) (pe_op op_sub pe_int (pv 3)) (fun _ _ => rfl)) (nomark _)) (pw_or1 (pt_cmpR (op_neD hr.u100) (pe_ix (ix_seqK K rfl) (pe_ix (ix_seqK K rfl) (pv 0) pe_int (fun _ _ => rfl)) (pe_op op_sub pe_int (pv 3)) (fun _ _ => rfl)) (pe_ix (ix_seqK K rfl) (pv 1) (pe_op op_sub pe_int (pv 3)) (fun _ _ => rfl)) (nomark _))))) (pss_one (ps_ret pe_bl)) pss_nil)
      (pss_one (ps_ret (pe_andG K rfl (pe_cmpR (op_eqD hr.u100) (pe_ix (ix_seqK K rfl) (pv 4) pe_int (fun _ _ => rfl)) (pe_ix (ix_seqK K rfl) (pe_ix (ix_seqK K rfl) (pv 1) (pv 3) (fun _ _ => rfl)) pe_int (fun _ _ => rfl)) (nomark _)) (pe_one (pe_cmpR (op_eqD hr.u100) (pe_callTy (call_tuple_ofK K rfl) (by rfl) T.b_tuple (by kernel_rfl) (pa_cons (pe_callB (call_sortedD K rfl hr.u100) (by rfl) T.b_sorted (by kernel_rfl) (pa_cons (pe_op (op_alt op_add (op_alt op_cat3 op_cat)) (pv 4) (pv 5)) pa_nil)) pa_nil)) (pe_ix (ix_seqK K rfl) (pv 1) (pv 3) (fun _ _ => rfl)) (nomark _))))))))))), (s_seq (s_if (t_or (t_not (t_tru (e_cb c_isA (a_cons e_var (a_cons e_raw a_nil))))) (t_or (t_test (e_op o_eqD (e_cb c_len (a_cons e_var a_nil)) e_int)) (t_test (e_op o_in (e_op o_ix e_var e_int) (e_tup (a_cons e_str (a_cons e_str a_nil))))))) (s_ret e_bl) s_next)
      (s_seq (s_for (i_seq (e_sl e_var (n_some e_int) n_none)) g_name (s_seq (s_if (t_or (t_not (t_tru (e_cb c_isA (a_cons e_var (a_cons e_raw a_nil))))) (t_test (e_op o_eqD (e_cb c_len (a_cons e_var a_nil)) e_int))) (s_ret e_bl) s_next)
      (s_if (t_or (t_not (t_tru (e_call (a_cons (e_op o_ix e_var e_int) (a_cons (e_op o_ix e_var e_int) a_nil))))) (t_not (t_tru (e_call (a_cons (e_op o_ix e_var e_int) (a_cons (e_op o_ix e_var e_int) a_nil)))))) (s_ret e_bl) s_next)))
      (s_seq (s_asg (e_cb c_int (a_cons (e_op o_eqD (e_op o_ix e_var e_int) e_str) a_nil)) g_name)
      (s_seq (s_par (a_cons (e_op o_ix (e_op o_ix e_var e_int) e_var) (a_cons (e_op o_ix (e_op o_ix e_var e_int) e_var) a_nil)))
      (s_seq (s_if (t_or (t_test (e_op o_eqD (e_op o_ix (e_op o_ix e_var e_int) (e_op o_I0i e_int e_var)) (e_op o_ix e_var (e_op o_I0i e_int e_var)))) (t_test (e_op o_eqD (e_op o_ix (e_op o_ix e_var e_int) (e_op o_I0i e_int e_var)) (e_op o_ix e_var (e_op o_I0i e_int e_var))))) (s_ret e_bl) s_next)
      (s_ret (e_andG (e_op o_eqD (e_op o_ix e_var e_int) (e_op o_ix (e_op o_ix e_var e_var) e_int)) (e_op o_eqD (e_cb c_tuple (a_cons (e_cb c_sortTW (a_cons (e_op o_add e_var e_var) a_nil)) a_nil)) (e_op o_ix e_var e_var))))))))), fun xs ω Q h => ?_⟩)
  obtain ⟨n, ys, zs, d, rfl, hn1, hn, hF, hR, k⟩ := h
  have h8 := hF.few
  rcases hR with ⟨p, rfl, s1, s2, n1, n2, hh, hp⟩ | ⟨p, rfl, s1, s2, n1, n2, hh, hp⟩
  · simp only [rowN]
    walk_at "s1"
    refine ⟨by decide, ?_⟩
    rw [if_neg (by rw [show isD "tuple" (D.tup [D.str (Str.ofString "no"), D.tup [wsD ys, wsD p.fst], D.tup [wsD ys, wsD p.snd]]) = true from rfl]; decide), if_neg (by decide)]
    refine ⟨by decide, ?_⟩
    rw [if_neg (by decide)]
    have e1 : cutL [D.str (Str.ofString "no"), D.tup [wsD ys, wsD p.fst], D.tup [wsD ys, wsD p.snd]] (some 1) none = [D.tup [wsD ys, wsD p.fst], D.tup [wsD ys, wsD p.snd]] := rfl
    walk_at "s1"
    rw [e1]
    refine for_D (fun i ρ ω' => ω' = ω ∧ ∃ v2, ρ = [some (AV.d (D.tup [D.str (Str.ofString "no"), D.tup [wsD ys, wsD p.fst], D.tup [wsD ys, wsD p.snd]])), some (AV.d (D.tup [wsD ys, wsD zs])), v2, none, none, none]) ⟨rfl, _, rfl⟩ ?_ ?_
    · rintro i d ρ ω' N hd ⟨rfl, v2, rfl⟩ kN
      obtain ⟨q, rfl, q1, q2⟩ : ∃ q : Wo, d = D.tup [wsD ys, wsD q] ∧ q.Sublist zs ∧ q ≠ [] := by
        have hi : i < 2 := (List.getElem?_eq_some_iff.mp hd).1
        rcases (by omega : i = 0 ∨ i = 1) with rfl | rfl
        · cases hd; exact ⟨_, rfl, s1, n1⟩
        · cases hd; exact ⟨_, rfl, s2, n2⟩
      walk_at "a1"
      walk_at "s1"
      refine ⟨by decide, ?_⟩
      rw [if_neg (by rw [show isD "tuple" (D.tup [wsD ys, wsD q]) = true from rfl]; decide), if_neg (by decide)]
      refine ⟨n, ys, ys, rfl, List.Sublist.refl _, hF.wy.1, hF.yn, by omega, true, rfl, ?_⟩
      rw [if_neg (by decide)]
      refine ⟨n, q, zs, rfl, q1, hF.wz.1, q2, by omega, true, rfl, ?_⟩
      rw [if_neg (by decide)]
      exact kN _ _ ⟨rfl, _, rfl⟩
    rintro ρ ω' ⟨rfl, v2, rfl⟩
    walk_at "s1"
    walk_at "s1"
    walk_at "s1"
    refine ⟨dep_ws _, ?_⟩
    rw [if_neg (by rw [eqD_refl]; decide)]
    refine ⟨dep_ws _, ?_⟩
    rw [if_neg (by rw [eqD_refl]; decide)]
    exact row_end hn1 hF.wz (by omega) hF.rz n1 hh hp k
  · simp only [rowY]
    walk_at "s1"
    refine ⟨by decide, ?_⟩
    rw [if_neg (by rw [show isD "tuple" (D.tup [D.str (Str.ofString "yes"), D.tup [wsD p.fst, wsD zs], D.tup [wsD p.snd, wsD zs]]) = true from rfl]; decide), if_neg (by decide)]
    refine ⟨by decide, ?_⟩
    rw [if_neg (by decide)]
    have e1 : cutL [D.str (Str.ofString "yes"), D.tup [wsD p.fst, wsD zs], D.tup [wsD p.snd, wsD zs]] (some 1) none = [D.tup [wsD p.fst, wsD zs], D.tup [wsD p.snd, wsD zs]] := rfl
    walk_at "s1"
    rw [e1]
    refine for_D (fun i ρ ω' => ω' = ω ∧ ∃ v2, ρ = [some (AV.d (D.tup [D.str (Str.ofString "yes"), D.tup [wsD p.fst, wsD zs], D.tup [wsD p.snd, wsD zs]])), some (AV.d (D.tup [wsD ys, wsD zs])), v2, none, none, none]) ⟨rfl, _, rfl⟩ ?_ ?_
    · rintro i d ρ ω' N hd ⟨rfl, v2, rfl⟩ kN
      obtain ⟨q, rfl, q1, q2⟩ : ∃ q : Wo, d = D.tup [wsD q, wsD zs] ∧ q.Sublist ys ∧ q ≠ [] := by
        have hi : i < 2 := (List.getElem?_eq_some_iff.mp hd).1
        rcases (by omega : i = 0 ∨ i = 1) with rfl | rfl
        · cases hd; exact ⟨_, rfl, s1, n1⟩
        · cases hd; exact ⟨_, rfl, s2, n2⟩
      walk_at "a1"
      walk_at "s1"
      refine ⟨by decide, ?_⟩
      rw [if_neg (by rw [show isD "tuple" (D.tup [wsD q, wsD zs]) = true from rfl]; decide), if_neg (by decide)]
      refine ⟨n, q, ys, rfl, q1, hF.wy.1, q2, by omega, true, rfl, ?_⟩
      rw [if_neg (by decide)]
      refine ⟨n, zs, zs, rfl, List.Sublist.refl _, hF.wz.1, hF.zn, by omega, true, rfl, ?_⟩
      rw [if_neg (by decide)]
      exact kN _ _ ⟨rfl, _, rfl⟩
    rintro ρ ω' ⟨rfl, v2, rfl⟩
    walk_at "s1"
    walk_at "s1"
    walk_at "s1"
    refine ⟨dep_ws _, ?_⟩
    rw [if_neg (by rw [eqD_refl]; decide)]
    refine ⟨dep_ws _, ?_⟩
    rw [if_neg (by rw [eqD_refl]; decide)]
    exact row_end hn1 hF.wy (by omega) hF.ry n1 hh hp k
end
section
variable {P : Program} {w : World} {K : PySem.W.Frag} {mg : Str → Option Value} {base : Heap} {t : Adr}
theorem parts_mem {ys zs : Wo} {d : D} : d ∈ parts ys zs ↔ d ∈ rws ys zs := (srtC_perm _ _).mem_iff
theorem parts_len (ys zs : Wo) : (parts ys zs).length = (rws ys zs).length := (srtC_perm _ _).length_eq
theorem wdD_inj {a b : List Int} (h : wdD a = wdD b) : a = b := by
  have := eqD_wd a b
  rw [h, eqD_refl] at this
  simpa using this.symm
theorem wsD_inj {a b : Wo} (h : wsD a = wsD b) : a = b := by
  simp only [wsD, D.tup.injEq] at h
  exact List.map_inj_right (fun _ _ e => wdD_inj e) |>.mp h
theorem rws_nd {n : Nat} {ys zs : Wo} (h : Few n ys zs) : (rws ys zs).Nodup := by
  have hd : ∀ {ws : Wo}, ws ≠ [] → ws.Nodup → (hvs ws).Nodup := fun h0 hn => (wys_ok h0 hn).nd.sublist List.filter_sublist
  have A1 : ((hvs zs).map (rowN ys)).Nodup := List.pairwise_map.mpr ((hd h.zn h.wz.1).imp fun {a b} hne e => hne (by
    have e' : rowN ys a = rowN ys b := e
    simp only [rowN, D.tup.injEq, List.cons.injEq, and_true, true_and] at e'
    exact Prod.ext (wsD_inj e'.1) (wsD_inj e'.2)))
  have A2 : ((hvs ys).map (rowY zs)).Nodup := List.pairwise_map.mpr ((hd h.yn h.wy.1).imp fun {a b} hne e => hne (by
    have e' : rowY zs a = rowY zs b := e
    simp only [rowY, D.tup.injEq, List.cons.injEq, and_true, true_and] at e'
    exact Prod.ext (wsD_inj e'.1) (wsD_inj e'.2)))
  unfold rws
  refine List.nodup_append.mpr ⟨A1, A2, fun x hx y hy e => ?_⟩
  obtain ⟨p, _, rfl⟩ := List.mem_map.mp hx
  obtain ⟨q, _, rfl⟩ := List.mem_map.mp hy
  simp only [rowN, rowY, D.tup.injEq, List.cons.injEq, D.str.injEq] at e
  exact absurd e.1 (by decide)
theorem parts_up {n : Nat} {ys zs : Wo} (h : Few n ys zs) {j : Nat} (hj : j + 1 < (parts ys zs).length) : ltD (parts ys zs)[j] (parts ys zs)[j + 1] = true := by
  have r1 : IsRow (parts ys zs)[j] := rws_row (parts_mem.mp (List.getElem_mem _))
  have r2 : IsRow (parts ys zs)[j + 1] := rws_row (parts_mem.mp (List.getElem_mem _))
  have hn : (parts ys zs).Nodup := (srtC_perm _ _).nodup_iff.mpr (rws_nd h)
  have hne := List.pairwise_iff_getElem.mp hn j (j + 1) (by omega) hj (by omega)
  have hup := List.pairwise_iff_getElem.mp (srtK_ris enc (rws ys zs)) j (j + 1) (by show j < (parts ys zs).length; omega) hj (by omega)
  rw [enc_lt r1.ok r2.ok (r1.cm r2)]
  cases e : lexL (enc (parts ys zs)[j]) (enc (parts ys zs)[j + 1]) with
  | true => rfl
  | false =>
    have := lex_an _ _ hup e
    exact absurd (enc_inj _ _ [] [] r1.ok r2.ok (r1.cm r2) (by rw [List.append_nil, List.append_nil]; exact this)).1 hne
def hd1 : D → D
  | .tup (x :: _) => x
  | _ => .non
theorem cnt_yes (ys zs : Wo) : ((parts ys zs).filter fun d => eqD (hd1 d) (.str "yes")).length = (hvs ys).length := by
  unfold parts srtK
  rw [((srtC_perm (rws ys zs) _).filter _).length_eq, rws, List.filter_append, List.length_append]
  rw [List.filter_eq_nil_iff.mpr fun d hd => by obtain ⟨p, _, rfl⟩ := List.mem_map.mp hd; simp only [rowN, hd1, eqD_str]; decide]
  rw [List.filter_eq_self.mpr fun d hd => by obtain ⟨p, _, rfl⟩ := List.mem_map.mp hd; simp only [rowY, hd1, eqD_str]; decide]
  simp
theorem cnt_no (ys zs : Wo) : ((parts ys zs).filter fun d => eqD (hd1 d) (.str "no")).length = (hvs zs).length := by
  unfold parts srtK
  rw [((srtC_perm (rws ys zs) _).filter _).length_eq, rws, List.filter_append, List.length_append]
  rw [List.filter_eq_self.mpr fun d hd => by obtain ⟨p, _, rfl⟩ := List.mem_map.mp hd; simp only [rowN, hd1, eqD_str]; decide]
  rw [List.filter_eq_nil_iff.mpr fun d hd => by obtain ⟨p, _, rfl⟩ := List.mem_map.mp hd; simp only [rowY, hd1, eqD_str]; decide]
  simp
theorem ok_law (T : Txt K mg t) : FnOk P w K mg base CX0 30 t.a_law t.d_law ["_law_script"] (sp_law K) := by
  have G_l_pen : FnOk P w K mg base CX0 1 t.a_l_pen t.d_l_pen ["_law_script", "_law_at"] (lift (sp_pen K)) := ok_pen T
  have G_l_few : FnOk P w K mg base CX0 2 t.a_l_few t.d_l_few ["_law_pen_here", "_law_most"] (lift sp_few) := ok_few T
  have G_partings : FnOk P w K mg base CX0 2 t.a_partings t.d_partings ["box"] (lift sp_parts) := ok_parts T
  have G_l_row_right : FnOk P w K mg base CX0 2 t.a_l_row_right t.d_l_row_right ["_law_row", "_law_box"] (lift sp_rowr) := ok_rowr T
  refine T.f_law.okA sc_law (fun xs ω Q h => by obtain ⟨a, ns, rfl, _⟩ := h; rfl) (fun cdv A outer s H E hr => ⟨_, _, (pss_cons (ps_for PassesOwn.never rfl (pi_range1 rfl T.b_range (pa_cons (pe_callB (call_max2 rfl) (by rfl) T.b_max (by kernel_rfl) (pa_consC pe_int (pa_cons (pe_callB (call_min2 rfl) (by rfl) T.b_min (by kernel_rfl) (pa_consC pe_int (pa_cons (pe_callB (call_lenK K rfl) (by rfl) T.b_len (by kernel_rfl) (pa_cons (pv 0) pa_nil)) pa_nil))) pa_nil))) pa_nil)) (pg_name (i := 1) sc_law.nd rfl (Or.inl rfl)) (pss_cons (ps_set (i := 2) sc_law.nd rfl (Or.inl rfl) (pe_call G_l_few (hr.mono (by omega)) (by rfl) T.m_l_few T.k_l_few T.p_l_few .nil pass0 (pa_cons (pe_call G_l_pen (hr.mono (by omega)) (by rfl) T.m_l_pen T.k_l_pen T.p_l_pen .nil pass0 (pa_cons (pv 0) (pa_cons (pv 1) pa_nil))) (pa_consC pe_int pa_nil))))
      (pss_cons (ps_set (i := 3) sc_law.nd rfl (Or.inl rfl) (pe_tup (pa_cons (pe_ix (ix_seqK K rfl) (pv 2) pe_int (fun _ _ => rfl)) (pa_cons (pe_ix (ix_seqK K rfl) (pv 2) pe_int (fun _ _ => rfl)) pa_nil))))
      (pss_cons (ps_set (i := 4) sc_law.nd rfl (Or.inl rfl) (pe_call G_partings (hr.mono (by omega)) (by rfl) T.m_partings T.k_partings T.p_partings .nil pass0 (pa_cons (pv 3) pa_nil)))
      (pss_cons (ps_if (pt_not (pt_truthK K rfl (pe_callB call_isA (by rfl) T.b_isinstance (by kernel_rfl) (pa_cons (pv 4) (pa_cons (pe_bltn (v := .ty "list") (by rfl) T.b_list (by kernel_rfl) (by rfl)) pa_nil))) (fun _ => rfl))) (pss_one (ps_ret pe_bl)) pss_nil)
      (pss_cons (ps_set (i := 5) sc_law.nd rfl (Or.inl rfl) (pe_callTy (call_list_ofK K rfl) (by rfl) T.b_list (by kernel_rfl) (pa_cons (pv 4) pa_nil)))
      (pss_cons (ps_for PassesOwn.never rfl (pi_range1 rfl T.b_range (pa_cons (pe_callB (call_lenK K rfl) (by rfl) T.b_len (by kernel_rfl) (pa_cons (pv 5) pa_nil)) pa_nil)) (pg_name (i := 6) sc_law.nd rfl (Or.inl rfl)) (pss_one (ps_if (PW.pt (pw_or (pt_not (pt_truthK K rfl (pe_call G_l_row_right (hr.mono (by omega)) (by rfl) T.m_l_row_right T.k_l_row_right T.p_l_row_right .nil pass0 (pa_cons (pe_ix (ix_seqK K rfl) (pv 5) (pv 6) (fun _ _ => rfl)) (pa_cons (pv 3) pa_nil))) (fun _ => rfl))) (pw_or1 (PW.pt (pw_and (pt_cmpR op_gt (pv 6) pe_int (nomark _)) (pw_and1 (pt_not (pt_cmpR (op_ltD hr.u100) (pe_ix (ix_seqK K rfl) (pv 5) (pe_op op_sub (pv 6) pe_int) (fun _ _ => rfl)) (pe_ix (ix_seqK K rfl) (pv 5) (pv 6) (fun _ _ => rfl)) (nomark _))))))))) (pss_one (ps_ret pe_bl)) pss_nil)))
      (pss_cons (ps_for PassesOwn.never rfl (pi_seq K rfl (pe_lst (pa_consT (pe_tup (pa_consC pe_str (pa_cons (pe_ix (ix_seqK K rfl) (pv 3) pe_int (fun _ _ => rfl)) pa_nil))) (pa_consT (pe_tup (pa_consC pe_str (pa_cons (pe_ix (ix_seqK K rfl) (pv 3) pe_int (fun _ _ => rfl)) pa_nil))) pa_nil)))) (pg_tupK K rfl (n := 2) rfl (pgs_cons (pg_name (i := 7) sc_law.nd rfl (Or.inr rfl)) (pgs_cons (pg_name (i := 8) sc_law.nd rfl (Or.inl rfl)) pgs_nil))) (pss_one (ps_if (pt_cmpR (op_neD hr.u100) (pe_callB (call_lenK K rfl) (by rfl) T.b_len (by kernel_rfl) (pa_cons (pe_comp (N := (["_law_row", "_law_hand"] : List Str)) (src := [none, some 7]) rfl (by show blkOk _ (defScope s_law) _ _ (["_law_script", "_law_at", "_law_case_here", "_law_box", "_law_told", "_law_kept", "_law_k", "_law_hand", "_law_words"] : List Str) = true; decide +kernel) (by intro g' h; cases h) (pi_seq K rfl (pv 5)) (fun _ _ _ _ _ _ => (pg_name (i := 0) (show (["_law_row", "_law_hand"] : List Str).Nodup by decide +kernel) rfl (Or.inl rfl))) (fun _ _ _ _ _ _ => (pts_one (pt_cmpR (op_eqD hr.u100) (pe_ix (ix_seqK K rfl) (pv 0) pe_int (fun _ _ => rfl)) (pv 1) (nomark _)))) (fun _ _ _ _ _ _ => (pl_last rfl rfl (pv 0)))) pa_nil)) (pe_op op_sub (pe_op op_shl pe_int (pe_op op_sub (pe_callB (call_lenK K rfl) (by rfl) T.b_len (by kernel_rfl) (pa_cons (pv 8) pa_nil)) pe_int)) pe_int) (nomark _)) (pss_one (ps_ret pe_bl)) pss_nil)))
      (pss_cons (ps_expr (pe_bm0 PySem.F.plainAttrs_list PySem.F.slot_list_clear PySem.F.type_list_clear mt_clear (pv 4)))
      (pss_one (ps_if (pt_cmpR (op_neD hr.u100) (pe_call G_partings (hr.mono (by omega)) (by rfl) T.m_partings T.k_partings T.p_partings .nil pass0 (pa_cons (pv 3) pa_nil)) (pv 5) (nomark _)) (pss_one (ps_ret pe_bl)) pss_nil)))))))))))
      (pss_one (ps_ret pe_bl))), (s_seq (s_for (i_rng1 (a_cons (e_cb c_F2 (a_cons e_int (a_cons (e_cb c_F2 (a_cons e_int (a_cons (e_cb c_lenS (a_cons e_var a_nil)) a_nil))) a_nil))) a_nil)) g_name (s_seq (s_asg (e_call (a_cons (e_call (a_cons e_var (a_cons e_var a_nil))) (a_cons e_int a_nil))) g_name)
      (s_seq (s_asg (e_tup (a_cons (e_op o_ix e_var e_int) (a_cons (e_op o_ix e_var e_int) a_nil))) g_name)
      (s_seq (s_asg (e_call (a_cons e_var a_nil)) g_name)
      (s_seq (s_if (t_not (t_tru (e_cb c_isA (a_cons e_var (a_cons e_raw a_nil))))) (s_ret e_bl) s_next)
      (s_seq (s_asg (e_cb c_list (a_cons e_var a_nil)) g_name)
      (s_seq (s_for (i_rng1 (a_cons (e_cb c_len (a_cons e_var a_nil)) a_nil)) g_name (s_if (t_or (t_not (t_tru (e_call (a_cons (e_op o_ix e_var e_var) (a_cons e_var a_nil))))) (t_and (t_test (e_op o_I0b e_var e_int)) (t_not (t_test (e_op o_ltD (e_op o_ix e_var (e_op o_I0i e_var e_int)) (e_op o_ix e_var e_var)))))) (s_ret e_bl) s_next))
      (s_seq (s_for (i_seq (e_lst (a_cons (e_tup (a_cons e_str (a_cons (e_op o_ix e_var e_int) a_nil))) (a_cons (e_tup (a_cons e_str (a_cons (e_op o_ix e_var e_int) a_nil))) a_nil)))) (g_tup (g_cons g_name (g_cons g_name g_nil))) (s_if (t_test (e_op o_eqD (e_cb c_len (a_cons (e_comp (i_seq e_var) g_name (t_test (e_op o_eqD (e_op o_ix e_var e_int) e_var)) (l_last e_var)) a_nil)) (e_op o_I0i (e_op o_Ii e_int (e_op o_I0i (e_cb c_len (a_cons e_var a_nil)) e_int)) e_int))) (s_ret e_bl) s_next))
      (s_seq (s_drop (e_clear e_var))
      (s_if (t_test (e_op o_eqD (e_call (a_cons e_var a_nil)) e_var)) (s_ret e_bl) s_next))))))))))
      (s_ret e_bl)), fun xs ω Q h => ?_⟩)
  obtain ⟨a, ns, rfl, hl, rfl, k⟩ := h
  walk_at "s1"
  refine ⟨a, ns, rfl, ?_⟩
  generalize hM : (if (if (ns.length : Int) < 12 then (ns.length : Int) else 12) > 1 then (if (ns.length : Int) < 12 then (ns.length : Int) else 12) else 1) = M
  have hM1 : 1 ≤ M ∧ M ≤ 12 := by subst hM; split <;> (try split) <;> omega
  clear hM
  obtain ⟨m, rfl⟩ := Int.eq_ofNat_of_zero_le (by omega : 0 ≤ M)
  refine ⟨by omega, by omega, for_rng (fun i ρ ω' => ∃ v1 v2 v3 v4 v5 v6 v7 v8, ρ = [some (scrL K a ns), v1, v2, v3, v4, v5, v6, v7, v8]) ⟨_, _, _, _, _, _, _, _, rfl⟩ ?_ ?_⟩
  · rintro i ρ ω N hi ⟨v1, v2, v3, v4, v5, v6, v7, v8, rfl⟩ kN
    walk_at "s1"
    refine ⟨a, ns, _, rfl, by omega, fun p c hc hp0 => ?_⟩
    refine ⟨p, rfl, pnAt_put hc, fun n ys zs c hn1 hn5 hF => ?_⟩
    rw [Om.put_put]
    generalize ω.put p (penO c) = ω1
    simp only [csD]
    walk_at "s1"
    have eB : (AV.d (D.tup [D.tup (List.map wdD ys), D.tup (List.map wdD zs)])) = .d (.tup [wsD ys, wsD zs]) := rfl
    walk_at "s1"
    refine ⟨n, ys, zs, rfl, hF, fun l hl => ?_⟩
    walk_at "s1"
    refine ⟨by decide, ?_⟩
    rw [if_neg (by rw [show isD "list" (D.lst (parts ys zs)) = true from rfl]; decide)]
    have hpl : (parts ys zs).length < 64 := by rw [parts_len]; exact rws_len hF
    walk_at "s1"
    walk_at "s1"
    have up : ∀ j, j + 1 < (parts ys zs).length → ∃ x y, (parts ys zs)[j]? = some x ∧ (parts ys zs)[j + 1]? = some y ∧ ltD x y = true ∧ IsRow x ∧ IsRow y := fun j hj => ⟨_, _, List.getElem?_eq_getElem (by omega), List.getElem?_eq_getElem hj, parts_up hF hj, rws_row (parts_mem.mp (List.getElem_mem _)), rws_row (parts_mem.mp (List.getElem_mem _))⟩
    have row : ∀ d ∈ parts ys zs, Rgt ys zs d ∧ IsRow d := fun d hd => ⟨rws_rgt hF (parts_mem.mp hd), rws_row (parts_mem.mp hd)⟩
    have cy := cnt_yes ys zs
    have cn := cnt_no ys zs
    rw [hvs_len hF.yn hF.wy.1] at cy
    rw [hvs_len hF.zn hF.wz.1] at cn
    have pz : ∀ ω' : Om, sp_parts [.d (.tup [wsD ys, wsD zs])] ω' = fun Q => sp_parts [.d (.tup [wsD ys, wsD zs])] ω' Q := fun _ => rfl
    have eP : ∀ j, j < (parts ys zs).length → ∃ d, (parts ys zs)[j]? = some d ∧ d ∈ parts ys zs := fun j hj => ⟨_, List.getElem?_eq_getElem hj, List.getElem_mem hj⟩
    refine ⟨by omega, by omega, for_rng (fun j ρ' ω' => ω' = ω1.put l (OC.own (List.map AV.d (parts ys zs))) ∧ ∃ v6 v7 v8, ρ' = [some (scrL K a ns), some (AV.d (D.int (0 + (i : Int)))), some (AV.d (D.tup [D.int n, D.tup (List.map wdD ys), D.tup (List.map wdD zs)])), some (AV.d (D.tup [wsD ys, wsD zs])), some (AV.r (V.ref l)), some (AV.d (D.lst (parts ys zs))), v6, v7, v8]) ⟨rfl, _, _, _, rfl⟩ ?_ ?_⟩
    · rintro j ρ' ω' M hj ⟨rfl, v6, v7, v8, rfl⟩ kM
      obtain ⟨d, ed, hd⟩ := eP j hj
      have a1 : atI ((parts ys zs).map AV.d) (0 + (j : Int)) = some (.d d) := atI_of j (by omega) (by simp [ed])
      walk_at "a1"
      refine ⟨_, a1, n, ys, zs, d, rfl, hn1, hn5, hF, (row d hd).1, true, rfl, ?_⟩
      rw [if_neg (by decide)]
      refine ite2 (fun h0 => ?_) (fun _ => kM _ _ ⟨rfl, _, _, _, rfl⟩)
      obtain ⟨j', rfl⟩ : ∃ j', j = j' + 1 := ⟨j - 1, by omega⟩
      obtain ⟨x, y, ex, ey, hlt, rx, ry⟩ := up j' hj
      rw [ed] at ey
      cases ey
      have a0 : atI ((parts ys zs).map AV.d) (0 + ((j' + 1 : Nat) : Int) - 1) = some (.d x) := atI_of j' (by omega) (by simp [ex])
      refine ⟨_, a0, _, a1, ?_⟩
      rw [aLtD_eq]
      refine ⟨_, _, rfl, rfl, Nat.le_trans rx.dep (by decide), rx.cm ry, true, by rw [hlt], ?_⟩
      rw [if_neg (by decide)]
      exact kM _ _ ⟨rfl, _, _, _, rfl⟩
    · rintro ρ' ω' ⟨rfl, v6, v7, v8, rfl⟩
      walk_at "a1"
      walk_at "s1"
      refine for_ix (fun _ ρ' ω' => ω' = ω1.put l (OC.own (List.map AV.d (parts ys zs))) ∧ ∃ v6 v7 v8, ρ' = [some (scrL K a ns), some (AV.d (D.int (0 + (i : Int)))), some (AV.d (D.tup [D.int n, D.tup (List.map wdD ys), D.tup (List.map wdD zs)])), some (AV.d (D.tup [wsD ys, wsD zs])), some (AV.r (V.ref l)), some (AV.d (D.lst (parts ys zs))), v6, v7, v8]) ⟨rfl, _, _, _, rfl⟩ ?_ ?_
      · rintro j e ρ' ω' M he ⟨rfl, v6, v7, v8, rfl⟩ kM
        have hy1 := List.length_pos_iff.mpr hF.yn
        have hz1 := List.length_pos_iff.mpr hF.zn
        have hfw := hF.few
        obtain ⟨h, ws, rfl, hc, hw1, hw7⟩ : ∃ (h : Str) (ws : Wo), e = .d (.tup [.str h, wsD ws]) ∧ ((parts ys zs).filter fun d => eqD (hd1 d) (.str h)).length = 2 ^ (ws.length - 1) - 1 ∧ 1 ≤ ws.length ∧ ws.length ≤ 7 := by
          have hj : j < 2 := (List.getElem?_eq_some_iff.mp he).1
          rcases (by omega : j = 0 ∨ j = 1) with rfl | rfl
          · cases he; exact ⟨_, _, rfl, cy, hy1, by omega⟩
          · cases he; exact ⟨_, _, rfl, cn, hz1, by omega⟩
        simp only [wsD]
        walk_at "a1"
        refine comp_fm (fun d => eqD (hd1 d) (.str h)) (fun d => d) (fun d hd Q q => ?_) (fun d hd _ Q q => ?_) (Nat.le_of_lt (small1000 (by omega))) (fun ρ => ⟨_, und_map _, ⟨by omega, by omega, by decide⟩, ?_⟩)
        · obtain ⟨z, b1, b2, b3, b4, _, rfl⟩ := (row d hd).2
          simp only [hd1] at q
          walk_at "a1"
          exact q
        · walk_at "a1"
          exact q
        rw [List.map_id', hc, pw5, show ((List.length ws : Nat) : Int) - 1 = ((ws.length - 1 : Nat) : Int) from by omega, Int.toNat_natCast]
        have hp1 : 1 ≤ 2 ^ (ws.length - 1) := Nat.one_le_two_pow
        generalize 2 ^ (ws.length - 1) = g at hp1 ⊢
        rw [show (((g - 1 : Nat) : Int) == (g : Int) - 1) = true from by simp; omega, if_neg (by decide)]
        exact kM _ _ ⟨rfl, _, _, _, rfl⟩
      · rintro ρ' ω' ⟨rfl, v6, v7, v8, rfl⟩
        walk_at "a1"
        walk_at "s1"
        refine ⟨n, ys, zs, rfl, hF, fun q hq => ?_⟩
        refine ⟨.lst (parts ys zs), by rw [datA, Om.put_same]; simp only [und_map]; rfl, ?_, ?_⟩
        · have := deps_le (W := parts ys zs) (n := 5) fun d hd => (row d hd).2.dep
          simp only [dep]
          omega
        rw [eqD_refl, if_neg (by decide)]
        exact kN _ _ ⟨_, _, _, _, _, _, _, _, rfl⟩
  · rintro ρ ω' ⟨v1, v2, v3, v4, v5, v6, v7, v8, rfl⟩
    walk_at "a1"
    exact k _
end
theorem txt_mk {K : PySem.W.Frag} {h : Heap} {mg : Str → Option Value} (X : K.In h) (G : h.Ns mainGlobals mg)
    {a_partings : Addr} {od_partings an_partings : Option Addr} {sl_partings : Array (Option Value)} {oc_partings kV_partings dc_partings pm_partings cd_partings ct_partings : Value}
    {a_halves : Addr} {od_halves an_halves : Option Addr} {sl_halves : Array (Option Value)} {oc_halves kV_halves dc_halves pm_halves cd_halves ct_halves : Value}
    {a_l_pen : Addr} {od_l_pen an_l_pen : Option Addr} {sl_l_pen : Array (Option Value)} {oc_l_pen kV_l_pen dc_l_pen pm_l_pen cd_l_pen ct_l_pen : Value}
    {a_l_pick : Addr} {od_l_pick an_l_pick : Option Addr} {sl_l_pick : Array (Option Value)} {oc_l_pick kV_l_pick dc_l_pick pm_l_pick cd_l_pick ct_l_pick : Value}
    {a_l_few : Addr} {od_l_few an_l_few : Option Addr} {sl_l_few : Array (Option Value)} {oc_l_few kV_l_few dc_l_few pm_l_few cd_l_few ct_l_few : Value}
    {a_l_is_part : Addr} {od_l_is_part an_l_is_part : Option Addr} {sl_l_is_part : Array (Option Value)} {oc_l_is_part kV_l_is_part dc_l_is_part pm_l_is_part cd_l_is_part ct_l_is_part : Value}
    {a_l_row_right : Addr} {od_l_row_right an_l_row_right : Option Addr} {sl_l_row_right : Array (Option Value)} {oc_l_row_right kV_l_row_right dc_l_row_right pm_l_row_right cd_l_row_right ct_l_row_right : Value}
    {a_law : Addr} {od_law an_law : Option Addr} {sl_law : Array (Option Value)} {oc_law kV_law dc_law pm_law cd_law ct_law : Value}
    (g_partings : PySem.W.nsIn K mainGlobals "partings" = some (some (.ref a_partings))) (l_partings : K.lookup a_partings = some ⟨oc_partings, od_partings, .func (PySem.W.fnOf "partings" "partings" (defArgs s_partings) (defBody s_partings) (defScope s_partings) .none kV_partings dc_partings pm_partings an_partings cd_partings ct_partings), sl_partings⟩) (c_partings : PySem.W.codeIn K cd_partings "partings" = true) (e_partings : PySem.W.keepIn K (.ref a_partings) = true)
    (g_halves : PySem.W.nsIn K mainGlobals "halves" = some (some (.ref a_halves))) (l_halves : K.lookup a_halves = some ⟨oc_halves, od_halves, .func (PySem.W.fnOf "halves" "halves" (defArgs s_halves) (defBody s_halves) (defScope s_halves) .none kV_halves dc_halves pm_halves an_halves cd_halves ct_halves), sl_halves⟩) (c_halves : PySem.W.codeIn K cd_halves "halves" = true) (e_halves : PySem.W.keepIn K (.ref a_halves) = true)
    (g_l_pen : PySem.W.nsIn K mainGlobals "_law_pen" = some (some (.ref a_l_pen))) (l_l_pen : K.lookup a_l_pen = some ⟨oc_l_pen, od_l_pen, .func (PySem.W.fnOf "_law_pen" "_law_pen" (defArgs s_l_pen) (defBody s_l_pen) (defScope s_l_pen) .none kV_l_pen dc_l_pen pm_l_pen an_l_pen cd_l_pen ct_l_pen), sl_l_pen⟩) (c_l_pen : PySem.W.codeIn K cd_l_pen "_law_pen" = true) (e_l_pen : PySem.W.keepIn K (.ref a_l_pen) = true)
    (g_l_pick : PySem.W.nsIn K mainGlobals "_law_pick" = some (some (.ref a_l_pick))) (l_l_pick : K.lookup a_l_pick = some ⟨oc_l_pick, od_l_pick, .func (PySem.W.fnOf "_law_pick" "_law_pick" (defArgs s_l_pick) (defBody s_l_pick) (defScope s_l_pick) .none kV_l_pick dc_l_pick pm_l_pick an_l_pick cd_l_pick ct_l_pick), sl_l_pick⟩) (c_l_pick : PySem.W.codeIn K cd_l_pick "_law_pick" = true) (e_l_pick : PySem.W.keepIn K (.ref a_l_pick) = true)
    (g_l_few : PySem.W.nsIn K mainGlobals "_law_few" = some (some (.ref a_l_few))) (l_l_few : K.lookup a_l_few = some ⟨oc_l_few, od_l_few, .func (PySem.W.fnOf "_law_few" "_law_few" (defArgs s_l_few) (defBody s_l_few) (defScope s_l_few) .none kV_l_few dc_l_few pm_l_few an_l_few cd_l_few ct_l_few), sl_l_few⟩) (c_l_few : PySem.W.codeIn K cd_l_few "_law_few" = true) (e_l_few : PySem.W.keepIn K (.ref a_l_few) = true)
    (g_l_is_part : PySem.W.nsIn K mainGlobals "_law_is_part" = some (some (.ref a_l_is_part))) (l_l_is_part : K.lookup a_l_is_part = some ⟨oc_l_is_part, od_l_is_part, .func (PySem.W.fnOf "_law_is_part" "_law_is_part" (defArgs s_l_is_part) (defBody s_l_is_part) (defScope s_l_is_part) .none kV_l_is_part dc_l_is_part pm_l_is_part an_l_is_part cd_l_is_part ct_l_is_part), sl_l_is_part⟩) (c_l_is_part : PySem.W.codeIn K cd_l_is_part "_law_is_part" = true) (e_l_is_part : PySem.W.keepIn K (.ref a_l_is_part) = true)
    (g_l_row_right : PySem.W.nsIn K mainGlobals "_law_row_right" = some (some (.ref a_l_row_right))) (l_l_row_right : K.lookup a_l_row_right = some ⟨oc_l_row_right, od_l_row_right, .func (PySem.W.fnOf "_law_row_right" "_law_row_right" (defArgs s_l_row_right) (defBody s_l_row_right) (defScope s_l_row_right) .none kV_l_row_right dc_l_row_right pm_l_row_right an_l_row_right cd_l_row_right ct_l_row_right), sl_l_row_right⟩) (c_l_row_right : PySem.W.codeIn K cd_l_row_right "_law_row_right" = true) (e_l_row_right : PySem.W.keepIn K (.ref a_l_row_right) = true)
    (g_law : PySem.W.nsIn K mainGlobals "law" = some (some (.ref a_law))) (l_law : K.lookup a_law = some ⟨oc_law, od_law, .func (PySem.W.fnOf "law" "law" (defArgs s_law) (defBody s_law) (defScope s_law) .none kV_law dc_law pm_law an_law cd_law ct_law), sl_law⟩) (c_law : PySem.W.codeIn K cd_law "law" = true) (e_law : PySem.W.keepIn K (.ref a_law) = true)
    (z_abs : PySem.W.nsIn K mainGlobals "abs" = some none)
    (z_int : PySem.W.nsIn K mainGlobals "int" = some none)
    (z_isinstance : PySem.W.nsIn K mainGlobals "isinstance" = some none)
    (z_len : PySem.W.nsIn K mainGlobals "len" = some none)
    (z_list : PySem.W.nsIn K mainGlobals "list" = some none)
    (z_max : PySem.W.nsIn K mainGlobals "max" = some none)
    (z_min : PySem.W.nsIn K mainGlobals "min" = some none)
    (z_range : PySem.W.nsIn K mainGlobals "range" = some none)
    (z_sorted : PySem.W.nsIn K mainGlobals "sorted" = some none)
    (z_tuple : PySem.W.nsIn K mainGlobals "tuple" = some none) : ∃ t, Txt K mg t := by
  have F_partings := fun_mk (st := s_partings) l_partings c_partings e_partings
  have F_halves := fun_mk (st := s_halves) l_halves c_halves e_halves
  have F_l_pen := fun_mk (st := s_l_pen) l_l_pen c_l_pen e_l_pen
  have F_l_pick := fun_mk (st := s_l_pick) l_l_pick c_l_pick e_l_pick
  have F_l_few := fun_mk (st := s_l_few) l_l_few c_l_few e_l_few
  have F_l_is_part := fun_mk (st := s_l_is_part) l_l_is_part c_l_is_part e_l_is_part
  have F_l_row_right := fun_mk (st := s_l_row_right) l_l_row_right c_l_row_right e_l_row_right
  have F_law := fun_mk (st := s_law) l_law c_law e_law
  exact ⟨⟨a_partings, _, a_halves, _, a_l_pen, _, a_l_pick, _, a_l_few, _, a_l_is_part, _, a_l_row_right, _, a_law, _⟩, ⟨PySem.W.mg_of X G g_partings, F_partings, e_partings, F_partings.binds (ps := ["box"]) fun _ _ _ _ _ _ us hl => match us, hl with | [_], _ => rfl,
    PySem.W.mg_of X G g_halves, F_halves, e_halves, F_halves.binds (ps := ["words"]) fun _ _ _ _ _ _ us hl => match us, hl with | [_], _ => rfl,
    PySem.W.mg_of X G g_l_pen, F_l_pen, e_l_pen, F_l_pen.binds (ps := ["_law_script", "_law_at"]) fun _ _ _ _ _ _ us hl => match us, hl with | [_, _], _ => rfl,
    PySem.W.mg_of X G g_l_pick, F_l_pick, e_l_pick, F_l_pick.binds (ps := ["_law_pen_here", "_law_many"]) fun _ _ _ _ _ _ us hl => match us, hl with | [_, _], _ => rfl,
    PySem.W.mg_of X G g_l_few, F_l_few, e_l_few, F_l_few.binds (ps := ["_law_pen_here", "_law_most"]) fun _ _ _ _ _ _ us hl => match us, hl with | [_, _], _ => rfl,
    PySem.W.mg_of X G g_l_is_part, F_l_is_part, e_l_is_part, F_l_is_part.binds (ps := ["_law_some", "_law_words"]) fun _ _ _ _ _ _ us hl => match us, hl with | [_, _], _ => rfl,
    PySem.W.mg_of X G g_l_row_right, F_l_row_right, e_l_row_right, F_l_row_right.binds (ps := ["_law_row", "_law_box"]) fun _ _ _ _ _ _ us hl => match us, hl with | [_, _], _ => rfl,
    PySem.W.mg_of X G g_law, F_law, e_law, F_law.binds (ps := ["_law_script"]) fun _ _ _ _ _ _ us hl => match us, hl with | [_], _ => rfl,
    fun s v => .of_eq rfl,
    PySem.W.mg_none_of X G z_abs,
    PySem.W.mg_none_of X G z_int,
    PySem.W.mg_none_of X G z_isinstance,
    PySem.W.mg_none_of X G z_len,
    PySem.W.mg_none_of X G z_list,
    PySem.W.mg_none_of X G z_max,
    PySem.W.mg_none_of X G z_min,
    PySem.W.mg_none_of X G z_range,
    PySem.W.mg_none_of X G z_sorted,
    PySem.W.mg_none_of X G z_tuple⟩⟩
end My
open PySem PySem.W PyProof.Rows
set_option maxRecDepth 100000 in
set_option maxHeartbeats 0 in
theorem PySem.Challenge.cw_unlikeplace_k36_partings_holds : PySem.Challenge.rw_unlikeplace_k36_partings.Holds := by
  w_on; o_law; k_head; (case hw => w_witness2)
  k_fill
  refine L2.walk_ofT (l := PySem.Challenge.rw_unlikeplace_k36_partings) (n := 63) (k := 30) (x := "_law_script") (CX := L2.CX0) (sp := My.sp_law) rfl (by decide) rfl ⟨rfl, by decide, by decide, rfl⟩ (fun w h Y => by first | exact PySem.W.kIn_of Y | exact PySem.W.km_in_of Y) (fun w => by kernel_rfl) ?F ?S ?C
  case F =>
    intro w mg fa h KX G hmg
    have T : ∃ t, My.Txt (L2.KOf KX) mg t := by
      dsimp only [L2.KOf]
      refine' My.txt_mk KX G ?g_partings ?l_partings ?c_partings ?e_partings ?g_halves ?l_halves ?c_halves ?e_halves ?g_l_pen ?l_l_pen ?c_l_pen ?e_l_pen ?g_l_pick ?l_l_pick ?c_l_pick ?e_l_pick ?g_l_few ?l_l_few ?c_l_few ?e_l_few ?g_l_is_part ?l_l_is_part ?c_l_is_part ?e_l_is_part ?g_l_row_right ?l_l_row_right ?c_l_row_right ?e_l_row_right ?g_law ?l_law ?c_law ?e_law ?z_abs ?z_int ?z_isinstance ?z_len ?z_list ?z_max ?z_min ?z_range ?z_sorted ?z_tuple
      (case g_partings => k_is)
      (case l_partings => k_is)
      (case c_partings => k_is)
      (case e_partings => k_is)
      (case g_halves => k_is)
      (case l_halves => k_is)
      (case c_halves => k_is)
      (case e_halves => k_is)
      (case g_l_pen => k_is)
      (case l_l_pen => k_is)
      (case c_l_pen => k_is)
      (case e_l_pen => k_is)
      (case g_l_pick => k_is)
      (case l_l_pick => k_is)
      (case c_l_pick => k_is)
      (case e_l_pick => k_is)
      (case g_l_few => k_is)
      (case l_l_few => k_is)
      (case c_l_few => k_is)
      (case e_l_few => k_is)
      (case g_l_is_part => k_is)
      (case l_l_is_part => k_is)
      (case c_l_is_part => k_is)
      (case e_l_is_part => k_is)
      (case g_l_row_right => k_is)
      (case l_l_row_right => k_is)
      (case c_l_row_right => k_is)
      (case e_l_row_right => k_is)
      (case g_law => k_is)
      (case l_law => k_is)
      (case c_law => k_is)
      (case e_law => k_is)
      (case z_abs => k_is)
      (case z_int => k_is)
      (case z_isinstance => k_is)
      (case z_len => k_is)
      (case z_list => k_is)
      (case z_max => k_is)
      (case z_min => k_is)
      (case z_range => k_is)
      (case z_sorted => k_is)
      (case z_tuple => k_is)
    obtain ⟨t, T⟩ := T
    have e0 := hmg.symm.trans T.m_law
    cases e0
    exact ⟨_, T.bl_law, fun base => My.ok_law T⟩
  case S => exact fun K H a ns hl hO hS => My.start_law hl hO hS
  case C => exact fun _ _ _ _ h => h
