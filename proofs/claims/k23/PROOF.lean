import PyProof.Rows.All
import Wide.All
import OpenK.AllK
import Wide.FinOn
import Lean
import PyProof.EqAt
import PyProof.EqKinds
import PyProof.TupleCall
import PyProof.NeKinds
import PyProof.AutoIntG2
import PyProof.FactsAll.int_6
import PyProof.Rows.BootFacts.P1
import PyProof.ReprRoads
import PyProof.ListRange
import PyProof.TupleOfSeq
import PyProof.EnumMake
import PyProof.StrWalks
import PyProof.Rows.Range3
import PyProof.Rows.SetFrom
import KE.KIntText
import PyProof.FString
import PyProof.StrCalls2
import PyProof.StrOps2
import PyProof.SliceStr2
import PyProof.StrBlockI
import PyProof.StrBlockL
import PyProof.StrLaws
import OpenK.KOwn
import KE.KTryMore
import PyProof.ExcAttrAll.ValueError
import PyProof.NsDelKeeps
import PyProof.Rows.StrLen
import KE.KRevIter
import PySem.Challenge.RW_unlikeplace_k23_talks_not_let_by
noncomputable section
set_option Elab.async false
set_option linter.all false
set_option maxRecDepth 100000
namespace L2
open PySem PySem.Spec PyProof.Rows
abbrev Key:=Sum Int Str
def keyIs : Key→Value→Bool
  | .inl k,v=>Value.isInt k v
  | .inr x,v=>Value.isStrOf x v
def keyH (w : World) : Key→Int
  | .inl k=>hashInt k
  | .inr x=>hashStr w x
theorem keyIs_shape : ∀ {k : Key} {v : Value},keyIs k v = true→(∃ i t,k = Sum.inl i∧v = Value.int i t)∨(∃ x t,k = Sum.inr x∧v = Value.str x t)
  | .inl i,v,h=>by
    obtain ⟨t,e⟩:=Value.isInt_shape (k:=i) (v:=v) h
    exact .inl ⟨i,t,rfl,e⟩
  | .inr x,v,h=>by
    obtain ⟨t,e⟩:=Value.isStrOf_shape (x:=x) (v:=v) h
    exact .inr ⟨x,t,rfl,e⟩
theorem keyIs_int (i : Int) (t : Tok) : keyIs (.inl i) (.int i t) = true:=by simp [keyIs,Value.isInt]
theorem keyIs_str (x : Str) (t : Tok) : keyIs (.inr x) (.str x t) = true:=by simp [keyIs,Value.isStrOf]
theorem key_ll (a b : Int) : decide ((Sum.inl a : Key) = Sum.inl b) = (a == b):=by
  by_cases e : a = b
  · subst e;simp
  · have h : ¬ (Sum.inl a : Key) = Sum.inl b:=fun q=>e (Sum.inl.inj q)
    rw [decide_eq_false h]
    exact (beq_eq_false_iff_ne.mpr e).symm
theorem key_rr (a b : Str) : decide ((Sum.inr a : Key) = Sum.inr b) = decide (a = b):=by
  by_cases e : a = b
  · subst e;simp
  · have h : ¬ (Sum.inr a : Key) = Sum.inr b:=fun q=>e (Sum.inr.inj q)
    rw [decide_eq_false h,decide_eq_false e]
theorem key_lr (a : Int) (b : Str) : decide ((Sum.inl a : Key) = Sum.inr b) = false:=decide_eq_false (fun q=>nomatch q)
theorem key_rl (a : Str) (b : Int) : decide ((Sum.inr a : Key) = Sum.inl b) = false:=decide_eq_false (fun q=>nomatch q)
def mixKind (prog : Program) (w : World) : PySem.KeyKind prog w Key where
  is:=keyIs
  hash:=keyH w
  inj:=fun v a b ha hb=>by
    rcases keyIs_shape ha with ⟨i,t,rfl,rfl⟩ | ⟨x,t,rfl,rfl⟩
    · rcases keyIs_shape hb with ⟨j,u,rfl,e⟩ | ⟨y,u,rfl,e⟩
      · injection e with e1 _;rw [e1]
      · exact nomatch e
    · rcases keyIs_shape hb with ⟨j,u,rfl,e⟩ | ⟨y,u,rfl,e⟩
      · exact nomatch e
      · injection e with e1 _;rw [e1]
  byValue:=fun k v h=>by
    rcases keyIs_shape h with ⟨i,t,rfl,rfl⟩ | ⟨x,t,rfl,rfl⟩<;>rfl
  pyHash:=fun hv h=>by
    rcases keyIs_shape hv with ⟨i,t,rfl,rfl⟩ | ⟨x,t,rfl,rfl⟩
    · exact wpAny_pyHash_int h
    · exact wpAny_pyHash_str h
  eqBool:=fun hu hv h=>by
    rcases keyIs_shape hu with ⟨i,t,rfl,rfl⟩ | ⟨x,t,rfl,rfl⟩
    · rcases keyIs_shape hv with ⟨j,u,rfl,rfl⟩ | ⟨y,u,rfl,rfl⟩
      · rw [key_ll] at h;exact wpAny_eqBool_int h
      · rw [key_lr] at h;exact SeqAt.EqAt.int_str i t y u _ _ _ _ h
    · rcases keyIs_shape hv with ⟨j,u,rfl,rfl⟩ | ⟨y,u,rfl,rfl⟩
      · rw [key_rl] at h;exact SeqAt.EqAt.str_int x t j u _ _ _ _ h
      · rw [key_rr] at h;exact wpAny_eqBool_str h
  «strs»:=fun k x t v h=>by
    rcases keyIs_shape h with ⟨i,u,rfl,e⟩ | ⟨y,u,rfl,e⟩
    · exact nomatch e
    · injection e with e1 _
      subst e1
      cases v<;>rfl
theorem mixKind_is (prog : Program) (w : World) (k : Key) (v : Value) : (mixKind prog w).is k v = keyIs k v:=rfl
theorem mixKind_int (prog : Program) (w : World) (i : Int) (t : Tok) : (mixKind prog w).is (.inl i) (.int i t) = true:=keyIs_int i t
theorem mixKind_str (prog : Program) (w : World) (x : Str) (t : Tok) : (mixKind prog w).is (.inr x) (.str x t) = true:=keyIs_str x t
inductive V where
  | non | bl (b : Bool) | int (i : Int) | str (x : Str) | byt (b : Array UInt8) | flt (b : UInt64) | ref (a : Addr) | ty (n : String)
  deriving DecidableEq
def RelV : V→Value→Prop
  | .non,u=>u = Value.none
  | .bl b,u=>u = Value.bool b
  | .int i,u=>∃ t,u = Value.int i t
  | .str x,u=>∃ t,u = Value.str x t
  | .byt b,u=>∃ t,u = Value.bytes b t
  | .flt b,u=>∃ t,u = Value.float b t
  | .ref a,u=>u = Value.ref a
  | .ty n,u=>u = Value.type n
abbrev Vals : List V→List Value→Prop:=Paired RelV
theorem Vals.length {xs : List V} {us : List Value} (r : Vals xs us) : xs.length = us.length:=Paired.length r
theorem Vals.get : ∀ {xs : List V} {us : List Value} {i : Nat} {x : V},Vals xs us→xs[i]? = some x→∃ u,us[i]? = some u∧RelV x u
  | _,_,_,_,.nil,e=>by simp at e
  | _,_,0,_,.cons r _,e=>by simp at e;subst e;exact ⟨_,rfl,r⟩
  | _,_,i + 1,x,.cons _ t,e=>by
    obtain ⟨u,h1,h2⟩:=Vals.get (i:=i) (x:=x) t (by simpa using e)
    exact ⟨u,by simpa using h1,h2⟩
theorem Vals.append : ∀ {xs ys : List V} {us ws : List Value},Vals xs us→Vals ys ws→Vals (xs ++ ys) (us ++ ws)
  | _,_,_,_,.nil,s=>s
  | _,_,_,_,.cons r t,s=>.cons r (Vals.append t s)
def RelO : Option V→Option Value→Prop
  | some v,some u=>RelV v u
  | none,none=>True
  | _,_=>False
def KV {κ : Type} : List (κ × V)→List (κ × Value)→Prop:=Paired fun (p : κ × V) (q : κ × Value)=>p.1 = q.1∧RelV p.2 q.2
def kV : Key→V
  | .inl i=>.int i
  | .inr x=>.str x
inductive HO where
  | lst (xs : List V)
  | tup (xs : List V)
  | dK (kvs : List (Key × V)) | dT (kvs : List (List Key × V))
  | set (S : Int→Bool) (n : Nat)
  | ins (C dx : Addr) (fs : List (Str × V))
  | own (x : Addr)
  | xd (fs : List (Str × V))
  | met (f x : Addr)
  | rng (lo hi : Int)
  | frz (o : Obj) (u : HO)
  | tbl (ps : Array Value)
  | ext (φ : Heap→Prop)
abbrev Hp:=Addr→Option HO
def upd (H : Hp) (a : Addr) (o : HO) : Hp:=fun b=>if b = a then some o else H b
theorem upd_same {H : Hp} {a : Addr} {o : HO} : upd H a o a = some o:=by unfold upd;rw [if_pos rfl]
theorem upd_ne {H : Hp} {a b : Addr} {o : HO} (h : b≠a) : upd H a o b = H b:=by unfold upd;rw [if_neg h]
theorem ne_of {H : Hp} {a b : Addr} {o u : HO} (h : H a = some o) (h' : H b = some u) (d : o≠u) : a≠b:=by
  intro e;subst e;rw [h] at h';exact d (Option.some.inj h')
theorem ne_of_none {H : Hp} {a b : Addr} {o : HO} (h : H a = some o) (h' : H b = none) : a≠b:=by
  intro e;subst e;rw [h] at h';cases h'
def TupD (h : Heap) (a : Addr) (items : Array Value) : Prop:=IsTup h a items∧∃ o,h.get? a = some o∧o.dict = none
theorem TupD.lt {h : Heap} {a : Addr} {items : Array Value} (x : TupD h a items) : a < h.objs.size:=x.1.lt
theorem TupD.new (h : Heap) (items : Array Value) : TupD (h.push { cls:=.type "tuple",data:=.seq items }) h.objs.size items:=⟨IsTup.new h items,_,Heap.get?_push_size _ rfl,rfl⟩
def TblOk (H : Hp) (a : Addr) (ps qs : Array Value) : Prop:=TriplesOk qs.toList∧∀ (pos : Pos) (cv : Value),codeAmong pos qs.toList = some cv →
  ∃ (c : Addr) (o : Obj) (vs : Array Value) (t : Tok) (q : Str),cv = .ref c∧H c = some (.frz o (.own a))∧o.data = .fields vs∧vs[1]? = some (.str q t)∧ps[0]? = some (.str q 0)
theorem TblOk.mono {H H' : Hp} {a : Addr} {ps qs : Array Value} (x : TblOk H a ps qs) (k : ∀ b o u,H b = some (.frz o u)→H' b = some (.frz o u)) : TblOk H' a ps qs :=
  ⟨x.1,fun pos cv e=>let ⟨c,o,vs,t,q,e1,e2,r⟩:=x.2 pos cv e;⟨c,o,vs,t,q,e1,k _ _ _ e2,r⟩⟩
section
variable (P : Program) (w : World)
def ObjOk (H : Hp) (h : Heap) (a : Addr) : HO→Prop
  | .lst xs=>xs.length≤sizeLine∧∃ (its : List Value) (n : Nat),Vals xs its∧h.get? a = some { cls:=.type "list",data:=.seq its.toArray n }
  | .tup xs=>xs.length≤sizeLine∧∃ its : List Value,Vals xs its∧TupD h a its.toArray
  | .dK kvs=>kvs.length≤sizeLine∧(a == sysModules) = false∧∃ vs,KV kvs vs∧h.DictOf (mixKind P w) a vs
  | .dT kvs=>kvs.length≤sizeLine∧(a == sysModules) = false∧∃ xs : List (List Key × Addr × Value),
      Paired (fun (p : List Key × V) (q : List Key × Addr × Value)=>p.1 = q.1∧H q.2.1 = some (.tup (p.1.map kV))∧RelV p.2 q.2.2) kvs xs ∧
      ∃ o es ep,h.get? a = some o∧o.ExactDict∧o.data = .dict es ep∧es.toList = xs.map (entryOfKey (tupleKind (mixKind P w)))∧(xs.map (·.1)).Nodup
  | .set S n=>h.SetOf (intKind P w) a S n
  | .ins C dx fs=>H dx = some (.own a)∧fs.length≤1000∧dx≠a∧h.get? a = some (PySem.W.instObj C dx) ∧
      ∃ mA,h.Ns1 dx mA∧(∀ f,RelO (fs.lookup f) (mA f))∧PySem.Within mA (fs.map (·.1))
  | .own _=>∃ o,h.get? a = some o
  | .xd fs=>∃ mA,h.Ns1 a mA∧∀ f,RelO (fs.lookup f) (mA f)
  | .rng lo hi=>∃ t u v,h.get? a = some { cls:=.type "range",data:=.fields #[.int lo t,.int hi u,.int 1 v] }
  | .frz o u=>h.get? a = some o∧ObjOk H h a u
  | .tbl ps=>∃ qs : Array Value,h.get? a = some { cls:=.none,data:=.fields qs }∧TblOk H a ps qs
  | .met f x=>h.get? a = some (PySem.W.methodObj (.ref f) (.ref x))
  | .ext φ=>φ h∧(∃ o,h.get? a = some o)∧∀ h1 h2 : Heap,φ h1→(∀ o,h1.get? a = some o→h2.get? a = some o)→φ h2
def HOk (H : Hp) (h : Heap) : Prop:=∀ a o,H a = some o→ObjOk P w H h a o
end
section
variable {P : Program} {w : World} {H H' : Hp} {h h' : Heap} {a : Addr} {o : HO}
theorem ObjOk.lt (x : ObjOk P w H h a o) : a < h.objs.size:=by
  cases o with
  | lst xs=>obtain ⟨_,_,_,_,e⟩:=x;exact Heap.lt_size e
  | tup xs=>obtain ⟨_,_,_,p⟩:=x;exact p.lt
  | dK kvs=>obtain ⟨_,_,_,_,o,_,_,e,_⟩:=x;exact Heap.lt_size e
  | dT kvs=>obtain ⟨_,_,_,_,o,_,_,e,_⟩:=x;exact Heap.lt_size e
  | set S n=>obtain ⟨o,_,_,_,e,_⟩:=x;exact Heap.lt_size e
  | ins C dx fs=>obtain ⟨_,_,_,e,_⟩:=x;exact Heap.lt_size e
  | own y=>obtain ⟨_,e⟩:=x;exact Heap.lt_size e
  | xd fs=>obtain ⟨_,⟨_,_,_,e,_⟩,_⟩:=x;exact Heap.lt_size e
  | rng lo hi=>obtain ⟨_,_,_,e⟩:=x;exact Heap.lt_size e
  | frz ob u=>obtain ⟨e,_⟩:=x;exact Heap.lt_size e
  | tbl ps=>obtain ⟨qs,e,_⟩:=x;exact Heap.lt_size e
  | met f y=>exact Heap.lt_size (show h.get? a = some _ from x)
  | ext φ=>obtain ⟨_,⟨_,e⟩,_⟩:=x;exact Heap.lt_size e
theorem Paired.mapP {α β : Type} {F G : α→β→Prop} : ∀ {l₁ : List α} {l₂ : List β},Paired F l₁ l₂→(∀ a b,F a b→G a b)→Paired G l₁ l₂
  | _,_,.nil,_=>.nil
  | _,_,.cons r t,f=>.cons (f _ _ r) (Paired.mapP t f)
theorem ObjOk.stay (x : ObjOk P w H h a o) (k : ∀ b u,(b = a∨H b = some (.own a))→h.get? b = some u→h'.get? b = some u)
    (ho : ∀ b,H b = some (.own a)→H' b = some (.own a)) (ht : ∀ b xs,H b = some (.tup xs)→H' b = some (.tup xs)) (hf : ∀ b o u,H b = some (.frz o u)→H' b = some (.frz o u)) : ObjOk P w H' h' a o:=by
  induction o with
  | lst xs=>obtain ⟨z,its,n,r,e⟩:=x;exact ⟨z,its,n,r,k _ _ (.inl rfl) e⟩
  | tup xs=>obtain ⟨z,its,r,⟨ob,e,c⟩,ob',e',c'⟩:=x;exact ⟨z,its,r,⟨ob,k _ _ (.inl rfl) e,c⟩,ob',k _ _ (.inl rfl) e',c'⟩
  | dK kvs=>obtain ⟨z,y,vs,r,ob,es,ep,e,c⟩:=x;exact ⟨z,y,vs,r,ob,es,ep,k _ _ (.inl rfl) e,c⟩
  | dT kvs =>
    obtain ⟨z,y,xs,r,ob,es,ep,e,c⟩:=x
    exact ⟨z,y,xs,Paired.mapP r fun p q z=>⟨z.1,ht _ _ z.2.1,z.2.2⟩,ob,es,ep,k _ _ (.inl rfl) e,c⟩
  | set S n=>obtain ⟨ob,es,ep,t,e,c⟩:=x;exact ⟨ob,es,ep,t,k _ _ (.inl rfl) e,c⟩
  | ins C dx fs =>
    obtain ⟨d,z,ne,e,mA,⟨od,es,ep,e2,c⟩,r⟩:=x
    exact ⟨ho _ d,z,ne,k _ _ (.inl rfl) e,mA,⟨od,es,ep,k _ _ (.inr d) e2,c⟩,r⟩
  | own y=>obtain ⟨ob,e⟩:=x;exact ⟨ob,k _ _ (.inl rfl) e⟩
  | xd fs=>obtain ⟨mA,⟨od,es,ep,e,c⟩,r⟩:=x;exact ⟨mA,⟨od,es,ep,k _ _ (.inl rfl) e,c⟩,r⟩
  | rng lo hi=>obtain ⟨t,u,v,e⟩:=x;exact ⟨t,u,v,k _ _ (.inl rfl) e⟩
  | frz ob u ih=>obtain ⟨e,q⟩:=x;exact ⟨k _ _ (.inl rfl) e,ih q⟩
  | tbl ps=>obtain ⟨qs,e,z⟩:=x;exact ⟨qs,k a _ (.inl rfl) e,z.mono hf⟩
  | met f y =>
    have e : h.get? a = some (PySem.W.methodObj (.ref f) (.ref y)):=x
    show h'.get? a = some (PySem.W.methodObj (.ref f) (.ref y))
    exact k a _ (.inl rfl) e
  | ext φ=>obtain ⟨p,⟨o,e⟩,st⟩:=x;exact ⟨st _ _ p fun o q=>k _ _ (.inl rfl) q,⟨o,k _ _ (.inl rfl) e⟩,st⟩
theorem HOk.lt (x : HOk P w H h) (e : H a = some o) : a < h.objs.size:=(x a o e).lt
theorem HOk.fresh (x : HOk P w H h) (e : h.objs.size≤a) : H a = none:=by
  cases q : H a with
  | none=>rfl
  | some u=>exact absurd (Nat.lt_of_lt_of_le (x.lt q) e) (Nat.lt_irrefl _)
theorem HOk.kept (x : HOk P w H h) (k : ∀ b u,h.get? b = some u→h'.get? b = some u) : HOk P w H h':=fun a o e =>
  (x a o e).stay (fun b u _ q=>k b u q) (fun _ q=>q) (fun _ _ q=>q) fun _ _ _ q=>q
theorem HOk.laid (x : HOk P w H h) (k : ∀ b u,h.get? b = some u→h'.get? b = some u) (hp : h.objs.size≤a) (new : ObjOk P w (upd H a o) h' a o) : HOk P w (upd H a o) h':=fun b u e=>by
  have hn:=x.fresh hp
  by_cases hb : b = a
  · subst hb;rw [upd_same] at e;cases e;exact new
  · rw [upd_ne hb] at e
    exact (x b u e).stay (fun c v _ q=>k c v q) (fun c q=>by rw [upd_ne (ne_of_none q hn)];exact q) (fun c xs q=>by rw [upd_ne (ne_of_none q hn)];exact q) fun c o' u' q=>by rw [upd_ne (ne_of_none q hn)];exact q
end
def Rd (H : Hp) (a : Addr) (u : HO) : Prop:=H a = some u∨∃ o,H a = some (.frz o u)
theorem Rd.ok {P : Program} {w : World} {H : Hp} {h : Heap} {a : Addr} {u : HO} (r : Rd H a u) (x : HOk P w H h) : ObjOk P w H h a u:=by
  rcases r with r | ⟨o,r⟩
  · exact x a u r
  · obtain ⟨_,q⟩:=x a _ r
    exact q
def Mut : Option HO→Prop
  | some (.lst _)=>True
  | some (.dK _)=>True
  | some (.dT _)=>True
  | some (.set _ _)=>True
  | some (.ins _ _ _)=>True
  | some (.ext _)=>True
  | _=>False
section
variable {P : Program} {w : World} {H : Hp} {h h' : Heap} {x e : Addr} {o' : HO}
theorem HOk.write (ok : HOk P w H h) (mu : Mut (H x)) (he : e = x∨H e = some (.own x)) (k : ∀ b u,b≠e→h.get? b = some u→h'.get? b = some u) (heo : ∃ u,h'.get? e = some u)
    (new : ObjOk P w (upd H x o') h' x o') : HOk P w (upd H x o') h':=fun b u q=>by
  have nown : ∀ c y,H c = some (.own y)→c≠x:=fun c y r z=>by subst z;rw [r] at mu;exact mu
  have ntup : ∀ c xs,H c = some (.tup xs)→c≠x:=fun c xs r z=>by subst z;rw [r] at mu;exact mu
  by_cases hb : b = x
  · subst hb;rw [upd_same] at q;cases q;exact new
  · rw [upd_ne hb] at q
    by_cases hbe : b = e
    · have q' : H b = some (.own x):=by
        rcases he with z | z
        · exact absurd (hbe.trans z) hb
        · rw [hbe];exact z
      rw [q] at q';cases q'
      obtain ⟨v,hv⟩:=heo
      exact ⟨v,by rw [hbe];exact hv⟩
    · refine (ok b u q).stay (fun c v hc r=>k c v ?_ r) (fun c r=>by rw [upd_ne (nown c b r)];exact r) (fun c xs r=>by rw [upd_ne (ntup c xs r)];exact r) fun c o' u' r=>by rw [upd_ne (fun z=>by subst z;rw [r] at mu;exact mu)];exact r
      rcases hc with rfl | hc
      · exact hbe
      · rintro rfl
        rcases he with z | z
        · exact nown c b hc z
        · rw [hc] at z;cases z;exact hb rfl
end
structure Un (fs ex : List Addr) (H H' : Hp) (h h' : Heap) : Prop where
  keep : ∀ b o,h.get? b = some o→H b = none→b ∉ fs→b ∉ ex→h'.get? b = some o
  slot : ∀ b o,h.get? b = some o→H b = none→b∈fs→b ∉ ex→∃ sl,h'.get? b = some { o with slots:=sl }
  free : ∀ b o,h.get? b = some o→H b = none→b ∉ ex→H' b = none
  there : ∀ b o,h.get? b = some o→b ∉ ex→∃ o',h'.get? b = some o'
  tups : ∀ b xs,H b = some (.tup xs)→H' b = some (.tup xs)
  frzs : ∀ b o u,H b = some (.frz o u)→H' b = some (.frz o u)
  tbls : ∀ b ps,H b = some (.tbl ps)→∃ more,H' b = some (.tbl (ps ++ more))
section
variable {fs fs' ex ex' : List Addr} {H H1 H2 : Hp} {h h1 h2 h' : Heap} {a x e : Addr} {o : HO}
theorem Un.any (u : Un fs ex H H1 h h1) {b : Addr} {ob : Obj} (q : h.get? b = some ob) (n : H b = none) (hx : b ∉ ex) : ∃ sl,h1.get? b = some { ob with slots:=sl }:=by
  by_cases hb : b∈fs
  · exact u.slot b ob q n hb hx
  · exact ⟨ob.slots,u.keep b ob q n hb hx⟩
theorem Un.kept (k : ∀ b u,h.get? b = some u→h'.get? b = some u) : Un fs ex H H h h' :=
  ⟨fun b ob q _ _ _=>k b ob q,fun b ob q _ _ _=>⟨ob.slots,k b ob q⟩,fun _ _ _ n _=>n,fun b ob q _=>⟨ob,k b ob q⟩,fun _ _ q=>q,fun _ _ _ q=>q,fun _ ps q=>⟨#[],by rw [q];simp⟩⟩
theorem Un.refl : Un fs ex H H h h:=Un.kept fun _ _ q=>q
theorem Un.laid (k : ∀ b u,h.get? b = some u→h'.get? b = some u) (hp : h.objs.size≤a) (hn : H a = none) : Un fs ex H (upd H a o) h h' where
  keep:=fun b u q _ _ _=>k b u q
  slot:=fun b u q _ _ _=>⟨u.slots,k b u q⟩
  free:=fun b u q n _=>by rw [upd_ne (Nat.ne_of_lt (Nat.lt_of_lt_of_le (Heap.lt_size q) hp))];exact n
  there:=fun b u q _=>⟨u,k b u q⟩
  tups:=fun b xs q=>by rw [upd_ne (ne_of_none q hn)];exact q
  frzs:=fun b u xs q=>by rw [upd_ne (ne_of_none q hn)];exact q
  tbls:=fun b ps q=>⟨#[],by rw [upd_ne (ne_of_none q hn),q];simp⟩
theorem Un.write (mu : Mut (H x)) (he : e = x∨H e = some (.own x)) (k : ∀ b u,b≠e→h.get? b = some u→h'.get? b = some u) (heo : ∃ u,h'.get? e = some u) : Un fs ex H (upd H x o) h h':=by
  have hx : ∀ b,H b = none→b≠x:=fun b n z=>by subst z;rw [n] at mu;exact mu
  have hb : ∀ b,H b = none→b≠e:=fun b n z=>by
    subst z
    rcases he with r | r
    · exact hx b n r
    · rw [n] at r;cases r
  have hm : ∀ b u,H b = some u→¬ Mut (some u)→b≠x:=fun b u q nm z=>by subst z;rw [q] at mu;exact nm mu
  refine ⟨fun b u q n _ _=>k b u (hb b n) q,fun b u q n _ _=>⟨u.slots,k b u (hb b n) q⟩,fun b u q n _=>by rw [upd_ne (hx b n)];exact n,fun b u q _=>?_,
    fun b xs q=>by rw [upd_ne (hm b _ q fun z=>z)];exact q,fun b u xs q=>by rw [upd_ne (hm b _ q fun z=>z)];exact q,fun b ps q=>⟨#[],by rw [upd_ne (hm b _ q fun z=>z),q];simp⟩⟩
  by_cases hbe : b = e
  · subst hbe;exact heo
  · exact ⟨u,k b u hbe q⟩
end
def trk (h : Heap) (H : Hp) : List Addr:=(List.range h.objs.size).filter fun a=>(H a).isSome
def hidT (h : Heap) (H : Hp) : Heap:=PySem.W.hideAll h (trk h H)
theorem hidT_size (h : Heap) (H : Hp) : (hidT h H).objs.size = h.objs.size:=PySem.W.hideAll_size _ _
theorem hidT_get {h : Heap} {H : Hp} {b : Addr} {o : Obj} (e : h.get? b = some o) (n : H b = none) : (hidT h H).get? b = some o :=
  PySem.W.hideAll_get _ e fun hm=>by
    have q : (H b).isSome = true:=(List.mem_filter.mp hm).2
    rw [n] at q;simp at q
theorem of_hidT {h : Heap} {H : Hp} {b : Addr} {o : Obj} (e : (hidT h H).get? b = some o) : h.get? b = some o∧H b = none:=by
  have e' : h.get? b = some o:=PySem.W.of_hideAll (trk h H) e
  refine ⟨e',?_⟩
  cases q : H b with
  | none=>rfl
  | some x =>
    have hm : b∈trk h H:=List.mem_filter.mpr ⟨List.mem_range.mpr (Heap.lt_size e'),by simp [q]⟩
    have z : (hidT h H).get? b = none:=PySem.W.hideAll_none (trk h H) hm
    rw [z] at e;cases e
def allNews (g h : Heap) (L : Addr) : List (Addr × Obj):=(List.range h.objs.size).filterMap fun a=>if a = L∨(g.get? a).isSome = true then none else (h.get? a).map fun o=>(a,o)
def rest (g h : Heap) (L d : Addr) : List (Addr × Obj):=(allNews g h L).filter fun p=>decide (p.1≠d)
def tabL (K : PySem.W.Frag) : List (Str × Addr × Addr):=match K.lookup mainGlobals with
  | some ⟨_,_,.dict es _,_⟩=>es.toList.filterMap fun e=>match e.key with
    | .str x _=>(PySem.W.tabIn K x).map fun q=>(x,q)
    | _=>none
  | _=>[]
def TabT (K : PySem.W.Frag) (H : Hp) : Prop:=∀ q∈tabL K,∃ ps,H q.2.2 = some (.tbl ps)∧ps[0]? = some (.str (q.1 ++ ".<locals>." ++ "<lambda>") 0)
theorem TabT.mono {K : PySem.W.Frag} {H H' : Hp} (x : TabT K H) (k : ∀ b ps,H b = some (.tbl ps)→∃ more,H' b = some (.tbl (ps ++ more))) : TabT K H':=fun q hq=>by
  obtain ⟨ps,e,z⟩:=x q hq
  obtain ⟨more,e'⟩:=k _ _ e
  refine ⟨_,e',?_⟩
  have hz : 0 < ps.size:=by
    rcases Nat.eq_zero_or_pos ps.size with h | h
    · rw [Array.getElem?_eq_none (by omega)] at z;cases z
    · exact h
  rw [Array.getElem?_append_left hz]
  exact z
structure Mod (K : PySem.W.Frag) (mg : Str→Option Value) (base : Heap) : Prop where
  kin : K.In base
  glob : base.Ns mainGlobals mg
  blt : ∃ mb,base.Ns builtinsNs mb∧∀ x : Str,x≠"__name__"→mb x = bootBuiltins x
  nolimit : base.NoLimit
  bm : ∃ bm ob,mg "__builtins__" = some (.ref bm)∧bm≠builtinsNs∧base.get? bm = some ob∧ob.cls = .type "module"∧ob.dict = some builtinsNs∧ob.data = .plain
structure Cx where
  prog : Program
  w : World
  K : PySem.W.Frag
  mg : Str→Option Value
  base : Heap
  A : Around
  N : List Str
  s₀ : Shared
  H₀ : Hp
  env : Env
  outer : List Env
  stack : List Env
  ex : List Addr
  fn : Str→Bool
  calm : Bool
  pn : List (Addr × Obj)
  xe : Value→Shared→Prop
def frs (l : List Env) : List Addr:=l.filterMap (·.frame)
abbrev Cx.fs (X : Cx) : List Addr:=frs X.outer
def Vis (sc : Scope) (x : Str) : Prop:=sc.names.lookup x = some .local∨sc.names.lookup x = some .cell∨sc.names.lookup x = some .free
def Loc (sc : Scope) (x : Str) : Prop:=sc.names.lookup x = some .local∨sc.names.lookup x = some .cell
def Look (env : Env) (h : Heap) (m : Str→Option Value) (x : Str) (u : Value) : Prop :=
  (env.kindOf x = some .local∧m x = some u)∨((env.kindOf x = some .cell∨env.kindOf x = some .free)∧∃ c,env.cells.lookup x = some c∧h.IsCell c (some u))
structure Cx.Ok (X : Cx) : Prop where
  mod : Mod X.K X.mg X.base
  kind : X.env.scope.kind = .function
  glob : X.env.globals = mainGlobals
  blt : X.env.builtins = builtinsNs
  above : X.s₀.heap.objs.size≤X.env.locals
  inj : ∀ x y c,X.env.cells.lookup x = some c→X.env.cells.lookup y = some c→x = y
  has : ∀ x,(X.env.kindOf x = some .cell∨X.env.kindOf x = some .free)→∃ c,X.env.cells.lookup x = some c
  cab : ∀ x c,X.fn x = true→X.env.cells.lookup x = some c→X.s₀.heap.objs.size≤c
  hd : X.calm = true→X.A.handled = none
  frames : X.A.frames = some X.stack
  stk : X.stack = X.outer∨(X.stack = X.env :: X.outer∧X.env.frame = some X.env.locals)
  exf : ∀ b∈X.ex,b≠X.env.locals∧∀ x c,X.env.cells.lookup x = some c→c≠b
  bs : ∀ b o,X.base.get? b = some o→X.s₀.heap.get? b = some o∧X.H₀ b = none
  bsz : X.base.objs.size≤X.s₀.heap.objs.size
  noex : ∀ b o,X.base.get? b = some o→b ∉ X.ex
  exfs : ∀ b∈X.ex,b ∉ X.fs
  funs : X.s₀.heap.FunFrames X.base X.outer
  frf : ∀ b∈X.fs,X.H₀ b = none
  tt : TabT X.K X.H₀
structure Inv (X : Cx) (pins : List (Addr × Obj)) (σ : List (Option V)) (H : Hp) (s : Shared) : Prop where
  ok : X.Ok
  os : s.os = X.s₀.os
  bare : AllBare s.gens
  base : Un X.fs X.ex X.H₀ H X.s₀.heap s.heap
  loc : ∃ m,s.heap.Ns X.env.locals m∧∀ (i : Nat) (x : Str) (v : V),X.N[i]? = some x→σ[i]? = some (some v)→Vis X.env.scope x→∃ u,RelV v u∧Look X.env s.heap m x u
  cell : ∀ x c,X.env.cells.lookup x = some c→∃ v,s.heap.IsCell c v
  free : H X.env.locals = none
  freeC : ∀ x c,X.env.cells.lookup x = some c→H c = none
  pin : ∀ p∈X.pn ++ pins,s.heap.get? p.1 = some p.2∧H p.1 = none∧p.1≠X.env.locals∧p.1 ∉ X.fs∧∀ v,p.2.data≠.cell v
  hok : HOk X.prog X.w H s.heap
  len : σ.length = X.N.length
section
variable {X : Cx} {pins : List (Addr × Obj)} {σ : List (Option V)} {H H' : Hp} {s : Shared} {h' : Heap}
theorem Cx.Ok.nofr (ok : X.Ok) {b : Addr} {o : Obj} (e : X.base.get? b = some o) : b ∉ X.fs:=fun hb=>by
  have:=(ok.funs.mem hb).1
  rw [e] at this;cases this
theorem Inv.bs (I : Inv X pins σ H s) : ∀ b o,X.base.get? b = some o→s.heap.get? b = some o∧H b = none:=fun b o e =>
  ⟨I.base.keep b o (I.ok.bs b o e).1 (I.ok.bs b o e).2 (I.ok.nofr e) (I.ok.noex b o e),I.base.free b o (I.ok.bs b o e).1 (I.ok.bs b o e).2 (I.ok.noex b o e)⟩
theorem Inv.bk (I : Inv X pins σ H s) : ∀ b o,X.base.get? b = some o→s.heap.get? b = some o:=fun b o e=>(I.bs b o e).1
theorem Inv.mod (I : Inv X pins σ H s) : Mod X.K X.mg X.base:=I.ok.mod
theorem Inv.kIn (I : Inv X pins σ H s) : X.K.In s.heap:=I.ok.mod.kin.keeps I.bk
theorem Inv.lt (I : Inv X pins σ H s) : X.env.locals < s.heap.objs.size:=let ⟨_,hn,_⟩:=I.loc;hn.lt
theorem Inv.sz (I : Inv X pins σ H s) : X.s₀.heap.objs.size≤s.heap.objs.size:=Nat.le_trans I.ok.above (Nat.le_of_lt I.lt)
theorem Inv.nofs (I : Inv X pins σ H s) {a : Addr} (h : s.heap.objs.size≤a) : a ∉ X.fs:=fun hb=>by
  obtain ⟨_,o,ho,_⟩:=I.ok.funs.mem hb
  exact absurd (Nat.lt_of_lt_of_le (Heap.lt_size ho) (Nat.le_trans I.sz h)) (Nat.lt_irrefl _)
theorem Inv.cne (I : Inv X pins σ H s) : ∀ x c,X.env.cells.lookup x = some c→c≠X.env.locals:=fun x c e z=>by
  obtain ⟨v,o,ho,hd⟩:=I.cell x c e
  obtain ⟨m,⟨o',es,ep,ho',hd',_⟩,_⟩:=I.loc
  rw [z,ho'] at ho;cases ho;rw [hd'] at hd;cases hd
theorem Inv.funs (I : Inv X pins σ H s) : s.heap.FunFrames X.base X.outer:=by
  have all : ∀ (l : List Env),(∀ b∈frs l,b∈X.fs)→X.s₀.heap.FunFrames X.base l→s.heap.FunFrames X.base l:=by
    intro l
    induction l with
    | nil=>intro _ _;trivial
    | cons env r ih =>
      intro hs hl
      obtain ⟨hk,⟨L,o,hf,hn,ho,hd⟩,hr⟩:=hl
      have hL : L∈X.fs:=hs L (by unfold frs;rw [List.filterMap_cons,hf];exact List.mem_cons_self)
      obtain ⟨sl,e⟩:=I.base.slot L o ho (I.ok.frf L hL) hL fun z=>I.ok.exfs L z hL
      exact ⟨hk,⟨L,_,hf,hn,e,hd⟩,ih (fun b hb=>hs b (by unfold frs;rw [List.filterMap_cons,hf];exact List.mem_cons_of_mem _ hb)) hr⟩
  exact all X.outer (fun _ hb=>hb) I.ok.funs
theorem Inv.stack (I : Inv X pins σ H s) : s.heap.FunFrames X.base X.stack:=by
  rcases I.ok.stk with e | ⟨e,hf⟩
  · rw [e];exact I.funs
  · rw [e]
    obtain ⟨m,hn,_⟩:=I.loc
    refine .cons (by rw [I.ok.kind];decide) hf hn ?_ I.funs
    exact Heap.get?_none_of_le (Nat.le_trans I.ok.bsz I.ok.above)
theorem Inv.stkSub (I : Inv X pins σ H s) : ∀ b∈frs X.stack,b∈X.env.locals :: X.fs:=fun b hb=>by
  rcases I.ok.stk with e | ⟨e,hf⟩
  · rw [e] at hb;exact List.mem_cons_of_mem _ hb
  · rw [e] at hb
    unfold frs at hb
    rw [List.filterMap_cons,hf] at hb
    exact hb
theorem Inv.stkFree (I : Inv X pins σ H s) : ∀ b∈frs X.stack,H b = none:=fun b hb=>by
  rcases List.mem_cons.mp (I.stkSub b hb) with e | hb
  · rw [e];exact I.free
  · obtain ⟨_,o,ho,_⟩:=I.ok.funs.mem hb
    exact I.base.free b o ho (I.ok.frf b hb) fun z=>I.ok.exfs b z hb
theorem Inv.step {g' : Array GenState} {t' : Nat} {d' : Drawn} {ch : List Addr} (I : Inv X pins σ H s)
    (hch : ∀ b∈ch,(b∈X.ex∨X.s₀.heap.objs.size≤b)∧b≠X.env.locals∧(∀ x c,X.env.cells.lookup x = some c→c≠b)∧∀ p∈X.pn ++ pins,p.1≠b)
    (keep : ∀ b o,b≠X.env.locals→b ∉ X.fs→b ∉ ch→s.heap.get? b = some o→H b = none→h'.get? b = some o)
    (slot : ∀ b o,b≠X.env.locals→b∈X.fs→b ∉ ch→s.heap.get? b = some o→H b = none→∃ sl,h'.get? b = some { o with slots:=sl }) (free : ∀ b o,b ∉ ch→s.heap.get? b = some o→H b = none→H' b = none)
    (there : ∀ b o,b ∉ ch→s.heap.get? b = some o→∃ o',h'.get? b = some o')
    (tups : ∀ b xs,H b = some (.tup xs)→H' b = some (.tup xs)) (frzs : ∀ b o u,H b = some (.frz o u)→H' b = some (.frz o u)) (tbls : ∀ b ps,H b = some (.tbl ps)→∃ more,H' b = some (.tbl (ps ++ more)))
    (ns : ∀ m,s.heap.Ns X.env.locals m→h'.Ns X.env.locals m) (hok : HOk X.prog X.w H' h') (hg : AllBare g') :
    Inv X pins σ H' { s with heap:=h',gens:=g',drawn:=d',toks:=t' }:=by
  have neL : ∀ b o,X.s₀.heap.get? b = some o→b≠X.env.locals:=fun b o e=>Nat.ne_of_lt (Nat.lt_of_lt_of_le (Heap.lt_size e) I.ok.above)
  have neC : ∀ b o,X.s₀.heap.get? b = some o→b ∉ X.ex→b ∉ ch:=fun b o e hx hb=>by
    rcases (hch b hb).1 with z | z
    · exact hx z
    · exact absurd (Nat.lt_of_lt_of_le (Heap.lt_size e) z) (Nat.lt_irrefl _)
  have cellK : ∀ x c,X.env.cells.lookup x = some c→∀ v,s.heap.IsCell c v→h'.IsCell c v:=fun x c e v ⟨o,ho,hd⟩=>by
    have nch : c ∉ ch:=fun z=>(hch c z).2.2.1 x c e rfl
    by_cases hc : c∈X.fs
    · obtain ⟨sl,q⟩:=slot c o (I.cne x c e) hc nch ho (I.freeC x c e)
      exact ⟨_,q,hd⟩
    · exact ⟨o,keep c o (I.cne x c e) hc nch ho (I.freeC x c e),hd⟩
  refine ⟨I.ok,I.os,hg,⟨fun b o e n hb hx=>?_,fun b o e n hb hx=>?_,fun b o e n hx=>?_,fun b o e hx=>?_,fun b xs e=>tups b xs (I.base.tups b xs e),fun b o xs e=>frzs b o xs (I.base.frzs b o xs e),fun b ps e=>?_⟩,?_,fun x c e=>?_,?_,fun x c e=>?_,fun p hp=>?_,hok,I.len⟩
  · exact keep b o (neL b o e) hb (neC b o e hx) (I.base.keep b o e n hb hx) (I.base.free b o e n hx)
  · obtain ⟨sl,e1⟩:=I.base.slot b o e n hb hx
    obtain ⟨sl',e2⟩:=slot b _ (neL b o e) hb (neC b o e hx) e1 (I.base.free b o e n hx)
    exact ⟨sl',e2⟩
  · obtain ⟨o',e1⟩:=I.base.there b o e hx
    exact free b o' (neC b o e hx) e1 (I.base.free b o e n hx)
  · obtain ⟨o',e1⟩:=I.base.there b o e hx
    exact there b o' (neC b o e hx) e1
  · obtain ⟨m1,e1⟩:=I.base.tbls b ps e
    obtain ⟨m2,e2⟩:=tbls b _ e1
    exact ⟨m1 ++ m2,by rw [e2,Array.append_assoc]⟩
  · obtain ⟨m,hn,hl⟩:=I.loc
    refine ⟨m,ns m hn,fun i x v e1 e2 e3=>?_⟩
    obtain ⟨u,r,l⟩:=hl i x v e1 e2 e3
    refine ⟨u,r,?_⟩
    rcases l with l | ⟨k,c,e,z⟩
    · exact .inl l
    · exact .inr ⟨k,c,e,cellK x c e _ z⟩
  · obtain ⟨v,z⟩:=I.cell x c e
    exact ⟨v,cellK x c e v z⟩
  · obtain ⟨m,⟨o,_,_,ho,_⟩,_⟩:=I.loc
    exact free _ o (fun z=>(hch _ z).2.1 rfl) ho I.free
  · obtain ⟨v,o,ho,hd⟩:=I.cell x c e
    exact free c o (fun z=>(hch c z).2.2.1 x c e rfl) ho (I.freeC x c e)
  · obtain ⟨e,n,ne,nf,d⟩:=I.pin p hp
    have nch : p.1 ∉ ch:=fun z=>(hch p.1 z).2.2.2 p hp rfl
    exact ⟨keep p.1 p.2 ne nf nch e n,free p.1 p.2 nch e n,ne,nf,d⟩
theorem Inv.un {t' : Nat} (I : Inv X pins σ H s) (u : Un X.fs [] H H' s.heap h') (hok : HOk X.prog X.w H' h') : Inv X pins σ H' { s with heap:=h',toks:=t' }:=by
  obtain ⟨m,⟨o,es,ep,ho,r⟩,_⟩:=id I.loc
  obtain ⟨sl,hL⟩:=u.any ho I.free (by simp)
  exact I.step (g':=s.gens) (d':=s.drawn) (ch:=[]) (fun _ z=>nomatch z) (fun b o _ hb _ e n=>u.keep b o e n hb (by simp)) (fun b o _ hb _ e n=>u.slot b o e n hb (by simp)) (fun b o _ e n=>u.free b o e n (by simp)) (fun b o _ e=>u.there b o e (by simp)) u.tups u.frzs u.tbls (fun m' hm=>by
    obtain ⟨o',es',ep',ho',r'⟩:=hm
    rw [ho] at ho';cases ho'
    exact ⟨_,es',ep',hL,r'⟩) hok I.bare
theorem Inv.call {g' : Array GenState} {t' : Nat} {d' : Drawn} {ch : List Addr} (I : Inv X pins σ H s) (u : Un (frs X.stack) ch H H' s.heap h') (hok : HOk X.prog X.w H' h') (hg : AllBare g')
    (hch : ∀ b∈ch,(b∈X.ex∨X.s₀.heap.objs.size≤b)∧b≠X.env.locals∧(∀ x c,X.env.cells.lookup x = some c→c≠b)∧∀ p∈X.pn ++ pins,p.1≠b) :
    Inv X pins σ H' { s with heap:=h',gens:=g',drawn:=d',toks:=t' }:=by
  obtain ⟨m,⟨o,es,ep,ho,r⟩,_⟩:=id I.loc
  obtain ⟨sl,hL⟩:=u.any ho I.free fun z=>(hch _ z).2.1 rfl
  exact I.step (ch:=ch) hch (fun b o hL hb hc e n=>u.keep b o e n (fun z=>(List.mem_cons.mp (I.stkSub b z)).elim hL hb) hc) (fun b o _ _ hc e n=>u.any e n hc) (fun b o hc e n=>u.free b o e n hc) (fun b o hc e=>u.there b o e hc) u.tups u.frzs u.tbls (fun m' hm=>by
    obtain ⟨o',es',ep',ho',r'⟩:=hm
    rw [ho] at ho';cases ho'
    exact ⟨_,es',ep',hL,r'⟩) hok hg
theorem Inv.turned {t' : Nat} {it : Addr} (I : Inv X pins σ H s) (k : ∀ b o,b≠it→s.heap.get? b = some o→h'.get? b = some o) (hn : H it = none) (hL : it≠X.env.locals)
    (h1 : it∈X.ex∨X.s₀.heap.objs.size≤it) (h2 : ∀ x c,X.env.cells.lookup x = some c→c≠it) (h3 : ∀ p∈X.pn ++ pins,p.1≠it) : Inv X pins σ H { s with heap:=h',toks:=t' }:=by
  have nit : ∀ b u,H b = some u→b≠it:=fun b u e z=>by rw [z,hn] at e;cases e
  refine I.step (g':=s.gens) (d':=s.drawn) (ch:=[it]) (fun b hb=>?_) (fun b o _ _ hc e _=>k b o (fun z=>hc (by simp [z])) e) (fun b o _ _ hc e _=>⟨o.slots,k b o (fun z=>hc (by simp [z])) e⟩) (fun _ _ _ _ n=>n)
    (fun b o hc e=>⟨o,k b o (fun z=>hc (by simp [z])) e⟩) (fun _ _ e=>e) (fun _ _ _ e=>e) (fun b ps e=>⟨#[],by rw [e];simp⟩) (fun m hm=>?_) (fun b u e=>?_) I.bare
  · have e : b = it:=by simpa using hb
    subst e
    exact ⟨h1,hL,h2,h3⟩
  · obtain ⟨o,es,ep,ho,r⟩:=hm
    exact ⟨o,es,ep,k _ o (Ne.symm hL) ho,r⟩
  · refine (I.hok b u e).stay (fun c v hc q=>k c v ?_ q) (fun _ q=>q) (fun _ _ q=>q) fun _ _ _ q=>q
    rcases hc with z | z
    · rw [z];exact nit b u e
    · exact nit c _ z
theorem Inv.tok (I : Inv X pins σ H s) (t : Nat) : Inv X pins σ H { s with toks:=t }:=I.un (h':=s.heap) (t':=t) Un.refl I.hok
theorem Inv.kept {t' : Nat} (I : Inv X pins σ H s) (k : ∀ b u,s.heap.get? b = some u→h'.get? b = some u) : Inv X pins σ H { s with heap:=h',toks:=t' }:=I.un (Un.kept k) (I.hok.kept k)
theorem Inv.laid {a : Addr} {o : HO} {t' : Nat} (I : Inv X pins σ H s) (k : ∀ b u,s.heap.get? b = some u→h'.get? b = some u) (hp : s.heap.objs.size≤a) (new : ObjOk X.prog X.w (upd H a o) h' a o) :
    Inv X pins σ (upd H a o) { s with heap:=h',toks:=t' }:=I.un (Un.laid k hp (I.hok.fresh hp)) (I.hok.laid k hp new)
theorem Inv.write {x e : Addr} {o : HO} {t' : Nat} (I : Inv X pins σ H s) (mu : Mut (H x)) (he : e = x∨H e = some (.own x)) (k : ∀ b u,b≠e→s.heap.get? b = some u→h'.get? b = some u) (heo : ∃ u,h'.get? e = some u)
    (new : ObjOk X.prog X.w (upd H x o) h' x o) : Inv X pins σ (upd H x o) { s with heap:=h',toks:=t' }:=I.un (Un.write mu he k heo) (I.hok.write mu he k heo new)
theorem Inv.pins_of {pins' : List (Addr × Obj)} (I : Inv X pins σ H s) (h : ∀ p∈pins',s.heap.get? p.1 = some p.2∧H p.1 = none∧p.1≠X.env.locals∧p.1 ∉ X.fs∧∀ v,p.2.data≠.cell v) : Inv X pins' σ H s :=
  ⟨I.ok,I.os,I.bare,I.base,I.loc,I.cell,I.free,I.freeC,fun p hp=>(List.mem_append.mp hp).elim (fun z=>I.pin p (List.mem_append_left _ z)) (h p),I.hok,I.len⟩
theorem nodup_ix {N : List Str} (hN : N.Nodup) {i j : Nat} {x : Str} (a : N[i]? = some x) (b : N[j]? = some x) : i = j:=by
  obtain ⟨h1,e1⟩:=List.getElem?_eq_some_iff.mp a
  obtain ⟨h2,e2⟩:=List.getElem?_eq_some_iff.mp b
  exact (List.getElem_inj hN).mp (e1.trans e2.symm)
theorem store_ok2 {M : Model} {A : Around} {E : Value→Shared→Prop} {i : Nat} {x : Str} {v : V} {u : Value} {Q : Unit→Shared→Prop} (I : Inv X pins σ H s) (hN : X.N.Nodup) (hi : X.N[i]? = some x) (hx : Loc X.env.scope x) (r : RelV v u)
    (h : ∀ s',Inv X pins (σ.set i (some v)) H s'→(∃ a,Heap.SameBut a s.heap s'.heap∧(a = X.env.locals∨X.env.cells.lookup x = some a))→Q () s') (hf : X.fn x = true∨X.env.scope.names.lookup x = some .local:=by first | exact .inl rfl | exact .inr rfl | assumption) : wpAny M A (storeName X.env x u) Q E s:=by
  obtain ⟨m,hn,hl⟩:=id I.loc
  have hcls : (X.env.scope.kind == .class || (X.env.scope.kind == .module && X.env.locals != X.env.globals)) = false:=by rw [I.ok.kind];rfl
  have hiσ : i < σ.length:=by rw [I.len];exact (List.getElem?_eq_some_iff.mp hi).1
  have cne:=I.cne
  have tracked : ∀ {a : Addr} {h' : Heap},(∃ o,s.heap.get? a = some o∧H a = none)→Heap.SameBut a s.heap h'→HOk X.prog X.w H h':=fun {a h'} ha hs b ob e=>by
    obtain ⟨_,_,hfree⟩:=ha
    refine (I.hok b ob e).stay (fun c w' hc q=>(hs.2 c ?_).trans q) (fun _ q=>q) (fun _ _ q=>q) fun _ _ _ q=>q
    rintro rfl
    rcases hc with rfl | hc
    · rw [hfree] at e;cases e
    · rw [hfree] at hc;cases hc
  rcases hx with hk | hk
  · refine wpAny_storeName_local hk hn (fun h' hn' hs=>?_) hcls
    obtain ⟨oL,_,_,hoL,_⟩:=id hn
    refine h _ ⟨I.ok,I.os,I.bare,⟨fun b o e n hb hx=>?_,fun b o e n hb hx=>?_,I.base.free,fun b o e hx=>?_,I.base.tups,I.base.frzs,I.base.tbls⟩,⟨_,hn',fun j y v' e1 e2 e3=>?_⟩,fun y c e=>?_,I.free,I.freeC,fun p hp=>?_,tracked ⟨oL,hoL,I.free⟩ hs,by simpa using I.len⟩ ⟨_,hs,.inl rfl⟩
    · exact (hs.2 b (Nat.ne_of_lt (Nat.lt_of_lt_of_le (Heap.lt_size e) I.ok.above))).trans (I.base.keep b o e n hb hx)
    · obtain ⟨sl,e1⟩:=I.base.slot b o e n hb hx
      exact ⟨sl,(hs.2 b (Nat.ne_of_lt (Nat.lt_of_lt_of_le (Heap.lt_size e) I.ok.above))).trans e1⟩
    · obtain ⟨o',e1⟩:=I.base.there b o e hx
      exact ⟨o',(hs.2 b (Nat.ne_of_lt (Nat.lt_of_lt_of_le (Heap.lt_size e) I.ok.above))).trans e1⟩
    · by_cases hj : j = i
      · subst hj
        rw [hi] at e1;cases e1
        rw [List.getElem?_set_self hiσ] at e2
        cases e2
        exact ⟨u,r,.inl ⟨hk,by simp⟩⟩
      · rw [List.getElem?_set_ne (Ne.symm hj)] at e2
        obtain ⟨u',r',q⟩:=hl j y v' e1 e2 e3
        refine ⟨u',r',?_⟩
        rcases q with ⟨k,e⟩ | ⟨k,c,e,z⟩
        · refine .inl ⟨k,?_⟩
          have : y≠x:=fun e=>hj (nodup_ix hN e1 (e ▸ hi))
          simp [this,e]
        · exact .inr ⟨k,c,e,z.sameBut hs (cne y c e)⟩
    · obtain ⟨w',z⟩:=I.cell y c e
      exact ⟨w',z.sameBut hs (cne y c e)⟩
    · obtain ⟨e,n,ne,nf,d⟩:=I.pin p hp
      exact ⟨(hs.2 p.1 ne).trans e,n,ne,nf,d⟩
  · have hfn : X.fn x = true:=by
      rcases hf with z | z
      · exact z
      · rw [z] at hk;cases hk
    obtain ⟨c,hc⟩:=I.ok.has x (.inl hk)
    obtain ⟨w',z⟩:=I.cell x c hc
    refine wpAny_storeName_cell I.ok.kind hk hc z (fun h' hc' hs=>?_)
    obtain ⟨oc,hoc,hocd⟩:=id z
    refine h { s with heap:=h' } ⟨I.ok,I.os,I.bare,⟨fun b o e n hb hx=>?_,fun b o e n hb hx=>?_,I.base.free,fun b o e hx=>?_,I.base.tups,I.base.frzs,I.base.tbls⟩,⟨m,hn.sameBut hs (Ne.symm (cne x c hc)),fun j y v' e1 e2 e3=>?_⟩,fun y c' e=>?_,I.free,I.freeC,fun p hp=>?_,tracked ⟨oc,hoc,I.freeC x c hc⟩ hs,by simpa using I.len⟩ ⟨c,hs,.inr hc⟩
    · exact (hs.2 b (Nat.ne_of_lt (Nat.lt_of_lt_of_le (Heap.lt_size e) (I.ok.cab x c hfn hc)))).trans (I.base.keep b o e n hb hx)
    · obtain ⟨sl,e1⟩:=I.base.slot b o e n hb hx
      exact ⟨sl,(hs.2 b (Nat.ne_of_lt (Nat.lt_of_lt_of_le (Heap.lt_size e) (I.ok.cab x c hfn hc)))).trans e1⟩
    · obtain ⟨o',e1⟩:=I.base.there b o e hx
      exact ⟨o',(hs.2 b (Nat.ne_of_lt (Nat.lt_of_lt_of_le (Heap.lt_size e) (I.ok.cab x c hfn hc)))).trans e1⟩
    · by_cases hj : j = i
      · subst hj
        rw [hi] at e1;cases e1
        rw [List.getElem?_set_self hiσ] at e2
        cases e2
        exact ⟨u,r,.inr ⟨.inl hk,c,hc,hc'⟩⟩
      · rw [List.getElem?_set_ne (Ne.symm hj)] at e2
        obtain ⟨u',r',q⟩:=hl j y v' e1 e2 e3
        refine ⟨u',r',?_⟩
        rcases q with q | ⟨k,c',e,z'⟩
        · exact .inl q
        · refine .inr ⟨k,c',e,z'.sameBut hs ?_⟩
          rintro rfl
          exact hj (nodup_ix hN e1 (I.ok.inj _ _ _ e hc ▸ hi))
    · by_cases hcc : c' = c
      · subst hcc;exact ⟨_,hc'⟩
      · obtain ⟨w2,z2⟩:=I.cell y c' e
        exact ⟨w2,z2.sameBut hs hcc⟩
    · obtain ⟨e,n,ne,nf,d⟩:=I.pin p hp
      refine ⟨(hs.2 p.1 ?_).trans e,n,ne,nf,d⟩
      intro q
      rw [q,hoc] at e
      have q' : oc = p.2:=Option.some.inj e
      exact d w' (by rw [← q'];exact hocd)
theorem store_ok {M : Model} {A : Around} {E : Value→Shared→Prop} {i : Nat} {x : Str} {v : V} {u : Value} {Q : Unit→Shared→Prop} (I : Inv X pins σ H s) (hN : X.N.Nodup) (hi : X.N[i]? = some x) (hx : Loc X.env.scope x) (r : RelV v u)
    (h : ∀ s',Inv X pins (σ.set i (some v)) H s'→Q () s') (hf : X.fn x = true∨X.env.scope.names.lookup x = some .local:=by first | exact .inl rfl | exact .inr rfl | assumption) : wpAny M A (storeName X.env x u) Q E s :=
  store_ok2 I hN hi hx r (fun s' I' _=>h s' I') hf
theorem Inv.call' {s' : Shared} {ch : List Addr} (I : Inv X pins σ H s) (ho : s'.os = s.os) (u : Un (frs X.stack) ch H H' s.heap s'.heap) (hok : HOk X.prog X.w H' s'.heap) (hg : AllBare s'.gens)
    (hch : ∀ b∈ch,(b∈X.ex∨X.s₀.heap.objs.size≤b)∧b≠X.env.locals∧(∀ x c,X.env.cells.lookup x = some c→c≠b)∧∀ p∈X.pn ++ pins,p.1≠b) : Inv X pins σ H' s':=by
  obtain ⟨h',g',d',t',o'⟩:=s'
  have e : o' = s.os:=ho
  subst e
  exact I.call (g':=g') (t':=t') (d':=d') u hok hg hch
end
abbrev XK:=Value→Option Addr→Hp→Prop
abbrev St:=List (Option V)
abbrev VK:=V→Hp→Prop
abbrev TE:=St→Hp→VK→Prop
abbrev TT:=St→Hp→(Bool→Hp→Prop)→Prop
abbrev TA:=St→Hp→(List V→Hp→Prop)→Prop
structure Ends where
  nx : St→Hp→Prop
  rt : VK
  bk : St→Hp→Prop:=fun _ _=>False
  ct : St→Hp→Prop:=fun _ _=>False
abbrev TS:=Ends→St→Hp→Prop
def EP (X : Cx) (pins : List (Addr × Obj)) (σ : St) (Q : VK) (u : Value) (s' : Shared) : Prop:=∃ v H',Inv X pins σ H' s'∧RelV v u∧Q v H'
def TP (X : Cx) (pins : List (Addr × Obj)) (σ : St) (Q : Bool→Hp→Prop) (b : Bool) (s' : Shared) : Prop:=∃ H',Inv X pins σ H' s'∧Q b H'
def AP (X : Cx) (pins : List (Addr × Obj)) (σ : St) (Q : List V→Hp→Prop) (us : List Value) (s' : Shared) : Prop:=∃ vs H',Inv X pins σ H' s'∧Vals vs us∧Q vs H'
def SP (X : Cx) (pins : List (Addr × Obj)) (D : Ends) (f : Flow) (s' : Shared) : Prop :=
  match f with
  | .next=>∃ σ' H',Inv X pins σ' H' s'∧D.nx σ' H'
  | .brk=>∃ σ' H',Inv X pins σ' H' s'∧D.bk σ' H'
  | .cont=>∃ σ' H',Inv X pins σ' H' s'∧D.ct σ' H'
  | .ret u=>∃ v σ' H',Inv X pins σ' H' s'∧RelV v u∧D.rt v H'
def PEd (X : Cx) (e : Expr) (t : TE) : Prop :=
  ∀ (pins : List (Addr × Obj)) (s : Shared) (σ : St) (H : Hp) (Q : VK),Inv X pins σ H s→t σ H Q→wpAny (model X.prog X.w) X.A (eval e X.env) (EP X pins σ Q) X.xe s
structure PE (X : Cx) (e : Expr) (t : TE) : Prop where
  run : PEd X e t
instance {X : Cx} {e : Expr} {t : TE} : CoeFun (PE X e t) (fun _=>PEd X e t):=⟨PE.run⟩
instance {X : Cx} {e : Expr} {t : TE} : Coe (PE X e t) (PEd X e t):=⟨PE.run⟩
def PT (X : Cx) (e : Expr) (t : TT) : Prop :=
  ∀ (pins : List (Addr × Obj)) (s : Shared) (σ : St) (H : Hp) (Q : Bool→Hp→Prop),Inv X pins σ H s→t σ H Q→wpAny (model X.prog X.w) X.A (isTrue e X.env (eval e X.env)) (TP X pins σ Q) X.xe s
def PW (X : Cx) (e : Expr) (t : TT) : Prop :=
  ∀ (whole : Sem Value) (pins : List (Addr × Obj)) (s : Shared) (σ : St) (H : Hp) (Q : Bool→Hp→Prop),Inv X pins σ H s→t σ H Q→wpAny (model X.prog X.w) X.A (isTrue e X.env whole) (TP X pins σ Q) X.xe s
theorem PW.pt {X : Cx} {e : Expr} {t : TT} (h : PW X e t) : PT X e t:=h _
def PAd (X : Cx) (es : List Expr) (t : TA) : Prop :=
  ∀ (pos : Pos) (pins : List (Addr × Obj)) (s : Shared) (σ : St) (H : Hp) (Q : List V→Hp→Prop),Inv X pins σ H s→t σ H Q→wpAny (model X.prog X.w) X.A (spliced (backTo pos (starEach es X.env))) (AP X pins σ Q) X.xe s
structure PA (X : Cx) (es : List Expr) (t : TA) : Prop where
  run : PAd X es t
instance {X : Cx} {es : List Expr} {t : TA} : CoeFun (PA X es t) (fun _=>PAd X es t):=⟨PA.run⟩
instance {X : Cx} {es : List Expr} {t : TA} : Coe (PA X es t) (PAd X es t):=⟨PA.run⟩
def PSd (X : Cx) (st : Stmt) (t : TS) : Prop :=
  ∀ (pins : List (Addr × Obj)) (s : Shared) (σ : St) (H : Hp) (D : Ends),Inv X pins σ H s→t D σ H→wpAny (model X.prog X.w) X.A (exec st X.env) (SP X pins D) X.xe s
structure PS (X : Cx) (st : Stmt) (t : TS) : Prop where
  run : PSd X st t
instance {X : Cx} {st : Stmt} {t : TS} : CoeFun (PS X st t) (fun _=>PSd X st t):=⟨PS.run⟩
instance {X : Cx} {st : Stmt} {t : TS} : Coe (PS X st t) (PSd X st t):=⟨PS.run⟩
def PSsd (X : Cx) (st : List Stmt) (t : TS) : Prop :=
  ∀ (pins : List (Addr × Obj)) (s : Shared) (σ : St) (H : Hp) (D : Ends),Inv X pins σ H s→t D σ H→wpAny (model X.prog X.w) X.A (execs st X.env) (SP X pins D) X.xe s
structure PSs (X : Cx) (st : List Stmt) (t : TS) : Prop where
  run : PSsd X st t
instance {X : Cx} {st : List Stmt} {t : TS} : CoeFun (PSs X st t) (fun _=>PSsd X st t):=⟨PSs.run⟩
instance {X : Cx} {st : List Stmt} {t : TS} : Coe (PSs X st t) (PSsd X st t):=⟨PSs.run⟩
theorem thn {α : Type} {t : Sem α} {Q Q' : α→Shared→Prop} {M : Model} {A : Around} {E : Value→Shared→Prop} {s : Shared} (h : wpAny M A t Q E s) (hQ : ∀ a s,Q a s→Q' a s) : wpAny M A t Q' E s:=wpAny_mono h hQ fun _ _ x=>x
section
variable {X : Cx}
def tVar (i : Nat) : TE:=fun σ H Q=>∃ v,σ[i]? = some (some v)∧Q v H
def tC (v : V) : TE:=fun _ H Q=>Q v H
theorem pe_var {i : Nat} {x : Str} {pos : Pos} (hN : X.N[i]? = some x) (hv : Vis X.env.scope x) (hd : (x == ("__debug__" : Str)) = false:=by decide) (hcd : (x == ("__classdict__" : Str)) = false:=by decide) : PE X (.Name x pos) (tVar i):=.mk <| by
  intro pins s σ H Q I h
  obtain ⟨v,e,h⟩:=h
  obtain ⟨m,hn,hl⟩:=I.loc
  obtain ⟨u,r,l⟩:=hl i x v hN e hv
  have fin : EP X pins σ Q u s:=⟨v,H,I,r,h⟩
  rcases l with ⟨hk,hm⟩ | ⟨hk,c,hc,hcell⟩
  · exact wpAny_Name (wpAny_loadName_local I.ok.kind hk hn hm fin) hd
  · rcases hk with hk | hk
    · exact wpAny_Name (wpAny_loadName_cell I.ok.kind hk hc hcell fin) hd
    · exact wpAny_Name (wpAny_loadName_free I.ok.kind hk hc hcell fin hcd) hd
theorem pe_int {i j pos} : PE X (.Constant (.int i) j pos) (tC (.int i)):=.mk <| fun _ _ _ H _ I h=>wpAny_Constant_int ⟨.int i,H,I.tok _,⟨_,rfl⟩,h⟩
theorem pe_bl {b j pos} : PE X (.Constant (.bool b) j pos) (tC (.bl b)):=.mk <| fun _ _ _ H _ I h=>Constant_bool ⟨.bl b,H,I,rfl,h⟩
theorem pe_non {j pos} : PE X (.Constant .none j pos) (tC .non):=.mk <| fun _ _ _ H _ I h=>Constant_none ⟨.non,H,I,rfl,h⟩
theorem pe_str {x j pos} : PE X (.Constant (.str x) j pos) (tC (.str x)):=.mk <| fun _ _ _ H _ I h=>Calls.Constant_str ⟨.str x,H,I.tok _,⟨_,rfl⟩,h⟩
def Gl (X : Cx) (x : Str) : Prop:=X.env.kindOf x = some .globalImplicit
theorem ld_glob {E : Value→Shared→Prop} {pins : List (Addr × Obj)} {s : Shared} {σ : St} {H : Hp} {x : Str} {u : Value} {pos : Pos} {Q : Value→Shared→Prop} (I : Inv X pins σ H s) (hg : Gl X x) (hm : X.mg x = some u) (h : Q u s)
    (hd : (x == ("__debug__" : Str)) = false:=by decide) : wpAny (model X.prog X.w) X.A (eval (.Name x pos) X.env) Q E s :=
  Calls.Name_function_global I.ok.kind hg (Calls.loadGlobal_global (by rw [I.ok.glob];exact I.mod.glob.keeps I.bk) hm h) hd
theorem ld_blt {E : Value→Shared→Prop} {pins : List (Addr × Obj)} {s : Shared} {σ : St} {H : Hp} {x : Str} {u : Value} {pos : Pos} {Q : Value→Shared→Prop} (I : Inv X pins σ H s) (hg : Gl X x) (hm : X.mg x = none) (hv : bootBuiltins x = some u) (h : Q u s)
    (hn : x≠"__name__":=by decide) (hd : (x == ("__debug__" : Str)) = false:=by decide) : wpAny (model X.prog X.w) X.A (eval (.Name x pos) X.env) Q E s:=by
  obtain ⟨mb,h1,h2⟩:=I.mod.blt
  exact Calls.Name_function_global I.ok.kind hg (Calls.loadGlobal_builtin (by rw [I.ok.glob];exact I.mod.glob.keeps I.bk) hm (by rw [I.ok.blt];exact h1.keeps I.bk) ((h2 x hn).trans hv) h) hd
theorem pe_glob {x : Str} {v : V} {u : Value} {pos : Pos} (hg : Gl X x) (hm : X.mg x = some u) (r : RelV v u) (hd : (x == ("__debug__" : Str)) = false:=by decide) : PE X (.Name x pos) (tC v):=.mk <|
  fun _ _ _ H _ I h=>ld_glob I hg hm ⟨v,H,I,r,h⟩ hd
theorem pe_bltn {x : Str} {v : V} {u : Value} {pos : Pos} (hg : Gl X x) (hm : X.mg x = none) (hv : bootBuiltins x = some u) (r : RelV v u) (hn : x≠"__name__":=by decide) (hd : (x == ("__debug__" : Str)) = false:=by decide) : PE X (.Name x pos) (tC v):=.mk <|
  fun _ _ _ H _ I h=>ld_blt I hg hm hv ⟨v,H,I,r,h⟩ hn hd
variable {a b : Expr} {ta tb : TE} {pos : Pos}
variable {tA tB' : TT} {rest : List Expr}
def tAnd (t u : TT) : TT:=fun σ H Q=>t σ H fun c H1=>if c = true then u σ H1 Q else Q false H1
def tOr (t u : TT) : TT:=fun σ H Q=>t σ H fun c H1=>if c = true then Q true H1 else u σ H1 Q
def tNot (t : TT) : TT:=fun σ H Q=>t σ H fun c H1=>Q (!c) H1
theorem pw_and1 (ha : PT X a tA) : PW X (.BoolOp .And [a] pos) tA:=by
  intro wh pins s σ H Q I h
  refine isTrue_and (thn (ha pins s σ H Q I h) fun c s1 e=>?_)
  cases c with
  | true=>exact isTrue_and_nil e
  | false=>exact e
theorem pw_or1 (ha : PT X a tA) : PW X (.BoolOp .Or [a] pos) tA:=by
  intro wh pins s σ H Q I h
  refine isTrue_or (thn (ha pins s σ H Q I h) fun c s1 e=>?_)
  cases c with
  | false=>exact isTrue_or_nil e
  | true=>exact e
theorem pw_and (ha : PT X a tA) (hb : PW X (.BoolOp .And (b :: rest) pos) tB') : PW X (.BoolOp .And (a :: b :: rest) pos) (tAnd tA tB'):=by
  intro wh pins s σ H Q I h
  refine isTrue_and (thn (ha pins s σ H _ I h) fun c s1 ⟨H1,I1,q1⟩=>?_)
  cases c with
  | true=>exact hb wh pins s1 σ H1 Q I1 q1
  | false=>exact ⟨H1,I1,q1⟩
theorem pw_or (ha : PT X a tA) (hb : PW X (.BoolOp .Or (b :: rest) pos) tB') : PW X (.BoolOp .Or (a :: b :: rest) pos) (tOr tA tB'):=by
  intro wh pins s σ H Q I h
  refine isTrue_or (thn (ha pins s σ H _ I h) fun c s1 ⟨H1,I1,q1⟩=>?_)
  cases c with
  | true=>exact ⟨H1,I1,q1⟩
  | false=>exact hb wh pins s1 σ H1 Q I1 q1
theorem pt_not (ha : PT X a tA) : PT X (.UnaryOp .Not a pos) (tNot tA):=by
  intro pins s σ H Q I h
  exact isTrue_not (ha pins s σ H (fun c H1=>Q (!c) H1) I h)
theorem pe_one {op} {t : TE} (h : PE X a t) : PE X (.BoolOp op [a] pos) t:=.mk <| fun pins s σ H Q I hw=>BoolOp_one (h pins s σ H Q I hw)
def tIf (t : TT) (ta tb : TE) : TE:=fun σ H Q=>t σ H fun c H1=>if c = true then ta σ H1 Q else tb σ H1 Q
theorem pe_ifExp {c : Expr} (hc : PT X c tA) (ha : PE X a ta) (hb : PE X b tb) : PE X (.IfExp c a b pos) (tIf tA ta tb):=.mk <| by
  intro pins s σ H Q I h
  refine wpAny_IfExp (thn (hc pins s σ H _ I h) fun d s1 ⟨H1,I1,q1⟩=>?_)
  cases d with
  | true=>exact ha pins s1 σ H1 Q I1 q1
  | false=>exact hb pins s1 σ H1 Q I1 q1
end
def SqL (K : PySem.W.Frag) (H : Hp) (a : Addr) (xs : List V) : Prop :=
  Rd H a (.lst xs) ∨
    ∃ (o : Obj) (its : Array Value) (n : Nat),K.lookup a = some o∧o.cls = .type "list"∧o.dict = none∧o.data = .seq its n∧its.size≤sizeLine∧Vals xs its.toList
def SqT (K : PySem.W.Frag) (H : Hp) (a : Addr) (xs : List V) : Prop :=
  Rd H a (.tup xs) ∨
    ∃ (o : Obj) (its : Array Value) (n : Nat),K.lookup a = some o∧o.cls = .type "tuple"∧o.data = .seq its n∧its.size≤sizeLine∧Vals xs its.toList
def absV : Value→Option V
  | .none=>some .non
  | .bool b=>some (.bl b)
  | .int i _=>some (.int i)
  | .str x _=>some (.str x)
  | .bytes b _=>some (.byt b)
  | .float b _=>some (.flt b)
  | .ref a=>some (.ref a)
  | .type n=>some (.ty n)
  | _=>none
theorem RelV.abs {x : V} {u : Value} (r : RelV x u) : absV u = some x:=by
  cases x with
  | non=>cases r;rfl
  | bl _=>cases r;rfl
  | int _=>obtain ⟨t,rfl⟩:=r;rfl
  | str _=>obtain ⟨t,rfl⟩:=r;rfl
  | byt _=>obtain ⟨t,rfl⟩:=r;rfl
  | flt _=>obtain ⟨t,rfl⟩:=r;rfl
  | ref _=>cases r;rfl
  | ty _=>cases r;rfl
theorem RelV.inj {x y : V} {u : Value} (r : RelV x u) (q : RelV y u) : x = y:=Option.some.inj (r.abs.symm.trans q.abs)
theorem Vals.inj : ∀ {xs ys : List V} {us : List Value},Vals xs us→Vals ys us→xs = ys
  | _,_,_,.nil,.nil=>rfl
  | _,_,_,.cons r t,.cons r' t'=>by rw [r.inj r',Vals.inj t t']
section
variable {X : Cx} {pins : List (Addr × Obj)} {σ : St} {H : Hp} {s : Shared} {a : Addr} {xs ys : List V}
theorem SqL.of {K : PySem.W.Frag} (h : H a = some (.lst xs)) : SqL K H a xs:=.inl (.inl h)
theorem SqT.of {K : PySem.W.Frag} (h : H a = some (.tup xs)) : SqT K H a xs:=.inl (.inl h)
theorem Inv.list (I : Inv X pins σ H s) (h : SqL X.K H a xs) : ∃ its : List Value,Vals xs its∧PlainL s.heap a its.toArray∧xs.length≤sizeLine:=by
  rcases h with h | ⟨o,its,n,hk,hc,hd,hs,hz,r⟩
  · obtain ⟨z,its,n,r,e⟩:=h.ok I.hok
    exact ⟨its,r,⟨_,n,e,rfl,rfl,rfl⟩,z⟩
  · refine ⟨its.toList,r,⟨o,n,I.kIn a o hk,hc,hd,by simpa using hs⟩,?_⟩
    have e:=r.length
    simp only [Array.length_toList] at e
    omega
theorem Inv.tuple (I : Inv X pins σ H s) (h : SqT X.K H a xs) : ∃ its : List Value,Vals xs its∧IsTup s.heap a its.toArray∧xs.length≤sizeLine:=by
  rcases h with h | ⟨o,its,n,hk,hc,hs,hz,r⟩
  · obtain ⟨z,its,r,p⟩:=h.ok I.hok
    exact ⟨its,r,p.1,z⟩
  · refine ⟨its.toList,r,⟨o,I.kIn a o hk,hc,n,by simpa using hs⟩,?_⟩
    have e:=r.length
    simp only [Array.length_toList] at e
    omega
theorem Inv.list_inj (I : Inv X pins σ H s) (h : SqL X.K H a xs) (h' : SqL X.K H a ys) : xs = ys:=by
  obtain ⟨its,r,⟨o,n,e,_,_,d⟩,_⟩:=I.list h
  obtain ⟨its',r',⟨o',n',e',_,_,d'⟩,_⟩:=I.list h'
  rw [e] at e';cases e'
  rw [d] at d'
  injection d' with d1 _
  have : its = its':=by simpa using congrArg Array.toList d1
  subst this
  exact r.inj r'
theorem Inv.tuple_inj (I : Inv X pins σ H s) (h : SqT X.K H a xs) (h' : SqT X.K H a ys) : xs = ys:=by
  obtain ⟨its,r,⟨o,e,_,n,d⟩,_⟩:=I.tuple h
  obtain ⟨its',r',⟨o',e',_,n',d'⟩,_⟩:=I.tuple h'
  rw [e] at e';cases e'
  rw [d] at d'
  injection d' with d1 _
  have : its = its':=by simpa using congrArg Array.toList d1
  subst this
  exact r.inj r'
end
abbrev Cx.wish (X : Cx) (E : Value→Shared→Prop) : Cx:={ X with xe:=E }
abbrev Cx.nox (X : Cx) : Cx:=X.wish fun _ _=>False
theorem Cx.Ok.wish {X : Cx} (ok : X.Ok) (E : Value→Shared→Prop) : (X.wish E).Ok :=
  ⟨ok.mod,ok.kind,ok.glob,ok.blt,ok.above,ok.inj,ok.has,ok.cab,ok.hd,ok.frames,ok.stk,ok.exf,ok.bs,ok.bsz,ok.noex,ok.exfs,ok.funs,ok.frf,ok.tt⟩
theorem Cx.Ok.unwish {X : Cx} {E : Value→Shared→Prop} (ok : (X.wish E).Ok) : X.Ok :=
  ⟨ok.mod,ok.kind,ok.glob,ok.blt,ok.above,ok.inj,ok.has,ok.cab,ok.hd,ok.frames,ok.stk,ok.exf,ok.bs,ok.bsz,ok.noex,ok.exfs,ok.funs,ok.frf,ok.tt⟩
section
variable {X : Cx} {pins : List (Addr × Obj)} {σ : St} {H : Hp} {s : Shared} {E : Value→Shared→Prop}
theorem Inv.wish (I : Inv X pins σ H s) (E : Value→Shared→Prop) : Inv (X.wish E) pins σ H s:=⟨I.ok.wish E,I.os,I.bare,I.base,I.loc,I.cell,I.free,I.freeC,I.pin,I.hok,I.len⟩
theorem Inv.unwish (I : Inv (X.wish E) pins σ H s) : Inv X pins σ H s:=⟨I.ok.unwish,I.os,I.bare,I.base,I.loc,I.cell,I.free,I.freeC,I.pin,I.hok,I.len⟩
theorem SP.unwish {D : Ends} {f : Flow} {s' : Shared} (h : SP (X.wish E) pins D f s') : SP X pins D f s':=by
  cases f with
  | next=>obtain ⟨σ',H',I,q⟩:=h;exact ⟨σ',H',I.unwish,q⟩
  | brk=>obtain ⟨σ',H',I,q⟩:=h;exact ⟨σ',H',I.unwish,q⟩
  | cont=>obtain ⟨σ',H',I,q⟩:=h;exact ⟨σ',H',I.unwish,q⟩
  | ret u=>obtain ⟨v,σ',H',I,r,q⟩:=h;exact ⟨v,σ',H',I.unwish,r,q⟩
theorem PT.nox {e : Expr} {t : TT} (h : PT X.nox e t) : PT X e t:=fun pins s σ H Q I hw =>
  wpAny_mono (h pins s σ H Q (I.wish _) hw) (fun _ _ ⟨H',I',q⟩=>⟨H',I'.unwish,q⟩) fun _ _ z=>False.elim z
theorem PSs.nox {st : List Stmt} {t : TS} (h : PSs X.nox st t) : PSs X st t:=.mk <| fun pins s σ H D I hw =>
  wpAny_mono (h pins s σ H D (I.wish _) hw) (fun _ _ q=>q.unwish) fun _ _ z=>False.elim z
end
section
variable {X : Cx} {st : Stmt} {rest : List Stmt} {t u : TS} {e : Expr} {te : TE} {pos : Pos}
def tNext : TS:=fun D σ H=>D.nx σ H
def tSeq (t u : TS) : TS:=fun D σ H=>t { D with nx:=u D } σ H
theorem pss_nil : PSs X [] tNext:=.mk <| fun _ _ σ H _ I h=>wpAny_execs_nil ⟨σ,H,I,h⟩
theorem pss_cons (h1 : PS X st t) (h2 : PSs X rest u) : PSs X (st :: rest) (tSeq t u):=.mk <| by
  intro pins s σ H D I h
  refine wpAny_execs_cons (thn (h1 pins s σ H { D with nx:=u D } I h) fun f s1 q=>?_)
  cases f with
  | next =>
    obtain ⟨σ',H',I',q⟩:=q
    exact h2 pins s1 σ' H' D I' q
  | ret v=>exact q
  | brk=>exact q
  | cont=>exact q
theorem pss_one (h1 : PS X st t) : PSs X [st] t:=.mk <| by
  intro pins s σ H D I h
  refine wpAny_execs_cons (thn (h1 pins s σ H D I h) fun f s1 q=>?_)
  cases f with
  | next=>exact wpAny_execs_nil q
  | ret v=>exact q
  | brk=>exact q
  | cont=>exact q
def tCont : TS:=fun D σ H=>D.ct σ H
theorem ps_continue : PS X (.Continue pos) tCont:=.mk <| fun _ _ σ H _ I h=>wpAny_Continue ⟨σ,H,I,h⟩
theorem Inv.quiet {pins : List (Addr × Obj)} {σ : St} {H : Hp} {s : Shared} (I : Inv X pins σ H s) : interactive X.env = false:=by simp [interactive,I.ok.kind]
def tDrop (te : TE) : TS:=fun D σ H=>te σ H fun _ H1=>D.nx σ H1
theorem ps_expr (he : PE X e te) (hs : swapsWith e none pos.line X.env = pure false:=by rfl) : PS X (.Expr e pos) (tDrop te):=.mk <| by
  intro pins s σ H D I h
  exact wpAny_Expr_any (thn (he pins s σ H _ I h) fun v s1 ⟨x,H1,I1,r1,q1⟩=>⟨σ,H1,I1,q1⟩) I.quiet hs
def tRet (te : TE) : TS:=fun D σ H=>te σ H D.rt
theorem ps_ret (he : PE X e te) : PS X (.Return (some e) pos) (tRet te):=.mk <| by
  intro pins s σ H D I h
  exact wpAny_Return_some (thn (he pins s σ H _ I h) fun v s1 ⟨x,H1,I1,r1,q1⟩=>⟨x,σ,H1,I1,r1,q1⟩)
def tIfS (c : TT) (t u : TS) : TS:=fun D σ H=>c σ H fun b H1=>if b = true then t D σ H1 else u D σ H1
theorem ps_if {c : Expr} {a b : List Stmt} {tc : TT} (hc : PT X c tc) (ha : PSs X a t) (hb : PSs X b u) : PS X (.If c a b pos) (tIfS tc t u):=.mk <| by
  intro pins s σ H D I h
  refine wpAny_If (thn (hc pins s σ H _ I h) fun d s1 ⟨H1,I1,q1⟩=>?_)
  cases d with
  | true=>exact ha pins s1 σ H1 D I1 q1
  | false=>exact hb pins s1 σ H1 D I1 q1
end
abbrev TG:=V→St→Hp→(St→Hp→Prop)→Prop
abbrev TGs:=List V→St→Hp→(St→Hp→Prop)→Prop
def PG (X : Cx) (target : Expr) (t : TG) : Prop :=
  ∀ (pins : List (Addr × Obj)) (s : Shared) (σ : St) (H : Hp) (v : V) (u : Value) (Q : St→Hp→Prop),Inv X pins σ H s→RelV v u→t v σ H Q →
    wpAny (model X.prog X.w) X.A (assign target X.env u) (fun _ s'=>∃ σ' H',Inv X pins σ' H' s'∧Q σ' H') X.xe s
def PGs (X : Cx) (ts : List Expr) (t : TGs) : Prop :=
  ∀ (pins : List (Addr × Obj)) (s : Shared) (σ : St) (H : Hp) (vs : List V) (us : List Value) (Q : St→Hp→Prop),Inv X pins σ H s→Vals vs us→t vs σ H Q →
    wpAny (model X.prog X.w) X.A (assignInOrder ((assignEach ts X.env).map (·.2)) us) (fun _ s'=>∃ σ' H',Inv X pins σ' H' s'∧Q σ' H') X.xe s
section
variable {X : Cx} {pos : Pos}
def gName (i : Nat) : TG:=fun v σ H Q=>Q (σ.set i (some v)) H
theorem pg_name {i : Nat} {x : Str} (hN : X.N.Nodup) (hi : X.N[i]? = some x) (hx : Loc X.env.scope x) (hf : X.fn x = true∨X.env.scope.names.lookup x = some .local:=by first | exact .inl rfl | exact .inr rfl | assumption) : PG X (.Name x pos) (gName i):=by
  intro pins s σ H v u Q I r h
  exact wpAny_assign_Name (store_ok I hN hi hx r (fun s' I'=>⟨_,H,I',h⟩) hf)
def gNil : TGs:=fun vs σ H Q=>vs = []∧Q σ H
def gCons (t : TG) (u : TGs) : TGs:=fun vs σ H Q=>∃ v r,vs = v :: r∧t v σ H fun σ' H'=>u r σ' H' Q
theorem pgs_nil : PGs X [] gNil:=by
  intro pins s σ H vs us Q I r h
  obtain ⟨e,h⟩:=h
  subst e
  cases r
  exact assignInOrder_nil ⟨σ,H,I,h⟩
theorem pgs_cons {e : Expr} {es : List Expr} {t : TG} {u : TGs} (h1 : PG X e t) (h2 : PGs X es u)
    (hs : (assignEach (e :: es) X.env).map (·.2) = assign e X.env :: (assignEach es X.env).map (·.2):=by rfl) : PGs X (e :: es) (gCons t u):=by
  intro pins s σ H vs us Q I r h
  obtain ⟨v,vr,e1,h⟩:=h
  subst e1
  cases r with
  | cons r rr =>
    rw [hs]
    refine assignInOrder_cons (thn (h1 pins s σ H _ _ _ I r h) fun _ s1 ⟨σ1,H1,I1,q1⟩=>?_)
    exact h2 pins s1 σ1 H1 _ _ Q I1 rr q1
def gTup (K : PySem.W.Frag) (n : Nat) (t : TGs) : TG:=fun v σ H Q=>∃ a xs,v = .ref a∧SqT K H a xs∧xs.length = n∧t xs σ H Q
theorem pg_tup {es : List Expr} {k : Nat} {t : TGs} {n : Nat} (hc : X.calm = true) (h : PGs X es t)
    (hn : (assignEach es X.env).length = n:=by rfl) (hst : (assignEach es X.env).findIdx? (·.1) = none:=by rfl) : PG X (.Tuple es k pos) (gTup X.K n t):=by
  intro pins s σ H v u Q I r hw
  obtain ⟨a,xs,e1,hq,hl,hw⟩:=hw
  subst e1
  cases r
  obtain ⟨its,rv,ht,hz⟩:=I.tuple hq
  refine assign_Tuple_tuple (I.ok.hd hc) ht (by simp [hn,← hl,rv.length]) hst fun h' hx=>?_
  have I1 : Inv X pins σ H { s with heap:=h' }:=I.kept (t':=s.toks) fun b o e=>hx b o (Nat.ne_of_lt (Heap.lt_size e)) e
  exact h pins _ σ H xs _ Q I1 (by simpa using rv) hw
def tAsg (te : TE) (g : TG) : TS:=fun D σ H=>te σ H fun x H1=>g x σ H1 D.nx
theorem ps_asg {tg e : Expr} {te : TE} {g : TG} (he : PE X e te) (hg : PG X tg g) (hs : swapsWithSole [tg] e pos.line X.env = pure false:=by rfl) (hw : swappedStores [tg] e X.env = pure none:=by rfl)
    (h1 : (assignEach [tg] X.env).map (·.2) = [assign tg X.env]:=by rfl) : PS X (.Assign [tg] e pos) (tAsg te g):=.mk <| by
  intro pins s σ H D I h
  refine wpAny_Assign_stores (thn (he pins s σ H _ I h) fun v s1 ⟨x,H1,I1,r1,q1⟩=>?_) hs hw
  rw [h1]
  exact thn (hg pins s1 σ H1 x v _ I1 r1 q1) fun _ s2 q=>q
theorem ps_set {i : Nat} {x : Str} {e : Expr} {te : TE} {pos' : Pos} (hN : X.N.Nodup) (hi : X.N[i]? = some x) (hx : Loc X.env.scope x) (he : PE X e te) (hs : swapsWith e (some (.Name x pos')) pos.line X.env = pure false:=by rfl) (hf : X.fn x = true∨X.env.scope.names.lookup x = some .local:=by first | exact .inl rfl | exact .inr rfl | assumption) :
    PS X (.Assign [.Name x pos'] e pos) (tAsg te (gName i)):=.mk <| by
  intro pins s σ H D I h
  refine wpAny_Assign_Name (thn (he pins s σ H _ I h) fun v s1 ⟨y,H1,I1,r1,q1⟩=>?_) hs
  exact store_ok I1 hN hi hx r1 (fun s2 I2=>⟨_,H1,I2,q1⟩) hf
end
section
variable {X : Cx} {pos : Pos}
def tWhile (c : TT) (tb : TS) : TS:=fun D σ H=>∃ W : Nat→St→Hp→Prop,(∃ m,W m σ H)∧∀ m σ H,W m σ H →
  c σ H fun b H1=>if b = true then ∃ N : St→Hp→Prop,(∀ σ' H',N σ' H'→∃ m',m' < m∧W m' σ' H')∧tb { D with nx:=N,ct:=N,bk:=D.nx } σ H1 else D.nx σ H1
theorem ps_while {c : Expr} {body : List Stmt} {tc : TT} {tb : TS} (hp : PassesOwn (model X.prog X.w) X.A X.env X.xe) (hc : PT X c tc) (hb : PSs X body tb) : PS X (.While c body [] pos) (tWhile tc tb):=.mk <| by
  intro pins s σ H D I h
  obtain ⟨W,⟨m0,w0⟩,turn⟩:=h
  refine wpAny_While (codeAny_whileLoop (fun n s'=>∃ σ' H',Inv X pins σ' H' s'∧W n σ' H') ?_ m0 ⟨σ,H,I,w0⟩)
  rintro n s1 ⟨σ1,H1,I1,w1⟩
  refine wpAny_passesOwn hp (thn (hc pins s1 σ1 H1 _ I1 (turn n σ1 H1 w1)) fun b s2 ⟨H2,I2,q2⟩=>?_)
  cases b with
  | true =>
    obtain ⟨N,hN,q2⟩:=q2
    rw [if_pos rfl]
    refine wpAny_passesOwn hp (thn (hb pins s2 σ1 H2 _ I2 q2) fun f s3 q3=>?_)
    cases f with
    | next =>
      obtain ⟨σ3,H3,I3,n3⟩:=q3
      obtain ⟨m',hm,w3⟩:=hN σ3 H3 n3
      exact ⟨m',hm,σ3,H3,I3,w3⟩
    | cont =>
      obtain ⟨σ3,H3,I3,n3⟩:=q3
      obtain ⟨m',hm,w3⟩:=hN σ3 H3 n3
      exact ⟨m',hm,σ3,H3,I3,w3⟩
    | brk=>exact q3
    | ret v=>exact q3
  | false =>
    rw [if_neg Bool.false_ne_true]
    exact wpAny_execs_nil ⟨σ1,H2,I2,q2⟩
end
structure It where
  go : Nat→Hp→Prop
  yld : Nat→Hp→V→Hp→Prop
  stop : Nat→Hp→Prop
def FpOk (X : Cx) (pins : List (Addr × Obj)) (H : Hp) (b : Addr) : Prop :=
  H b = none∧b≠X.env.locals∧b ∉ X.fs∧(b∈X.ex∨X.s₀.heap.objs.size≤b)∧(∀ x c,X.env.cells.lookup x = some c→c≠b)∧∀ p∈X.pn ++ pins,p.1≠b
theorem Inv.fpOk {X : Cx} {pins : List (Addr × Obj)} {σ : St} {H H' : Hp} {s : Shared} {b : Addr} (I : Inv X pins σ H s) (hb : s.heap.objs.size≤b) (hn : H' b = none) : FpOk X pins H' b:=by
  refine ⟨hn,Nat.ne_of_gt (Nat.lt_of_lt_of_le I.lt hb),I.nofs hb,.inr (Nat.le_trans I.sz hb),fun x c e z=>?_,fun p hp z=>?_⟩
  · obtain ⟨v,q⟩:=I.cell x c e
    exact absurd (Nat.lt_of_lt_of_le q.lt (by rw [z];exact hb)) (Nat.lt_irrefl _)
  · exact absurd (Nat.lt_of_lt_of_le (Heap.lt_size (I.pin p hp).1) (by rw [z];exact hb)) (Nat.lt_irrefl _)
structure Turn (P : Program) (w : World) (K : PySem.W.Frag) (tg : Expr) (J : It) (fp : List Addr) (it : Addr) (tn : Nat→Heap→Prop) : Prop where
  mem : it∈fp
  obj : ∀ i h,tn i h→∀ b∈fp,∃ o,h.get? b = some o∧∀ v,o.data≠.cell v
  keep : ∀ i h h',tn i h→(∀ b∈fp,∀ o,h.get? b = some o→h'.get? b = some o)→tn i h'
  item : ∀ (X : Cx),X.prog = P→X.w = w→X.K = K→X.calm = true→∀ (i : Nat) (pins : List (Addr × Obj)) (s : Shared) (σ : St) (H : Hp) (E : Value→Shared→Prop),Inv X pins σ H s→(∀ b∈fp,FpOk X pins H b)→tn i s.heap→J.go i H →
    wpAny (model P w) X.A (pyNext (.ref it)) (fun r s1=>∃ u,r = some u ∧
      wpAny (model P w) X.A (letOwnedTupleGo tg (.ref it) u) (fun _ s2=>∃ x H',Inv X pins σ H' s2∧RelV x u∧J.yld i H x H'∧tn (i + 1) s2.heap∧∀ b∈fp,H' b = none) E s1) E s
  done : ∀ (X : Cx),X.prog = P→X.w = w→X.K = K→X.calm = true→∀ (i : Nat) (pins : List (Addr × Obj)) (s : Shared) (σ : St) (H : Hp) (E : Value→Shared→Prop),Inv X pins σ H s→(∀ b∈fp,FpOk X pins H b)→tn i s.heap→J.stop i H →
    wpAny (model P w) X.A (pyNext (.ref it)) (fun r s1=>r = none∧Inv X pins σ H s1) E s
  self : ∀ (A : Around) (i : Nat) (s : Shared) (Q : Value→Shared→Prop) (E : Value→Shared→Prop),tn i s.heap→Q (.ref it) s→wpAny (model P w) A (pyIter (.ref it)) Q E s
abbrev TI:=St→Hp→(It→Hp→Prop)→Prop
def PIE (X : Cx) (pins : List (Addr × Obj)) (σ : St) (tg : Expr) (R : It→Hp→Prop) (itv : Value) (s2 : Shared) : Prop :=
  ∃ (it : Addr) (fp : List Addr) (tn : Nat→Heap→Prop) (J : It) (H' : Hp),itv = .ref it∧Inv X pins σ H' s2∧Turn X.prog X.w X.K tg J fp it tn∧tn 0 s2.heap∧(∀ b∈fp,FpOk X pins H' b)∧R J H'
def PI (X : Cx) (tg iter : Expr) (wi : TI) : Prop :=
  ∀ (pins : List (Addr × Obj)) (s : Shared) (σ : St) (H : Hp) (R : It→Hp→Prop),Inv X pins σ H s→wi σ H R →
    wpAny (model X.prog X.w) X.A (eval iter X.env) (fun v s1=>wpAny (model X.prog X.w) X.A (pyIter v) (PIE X pins σ tg R) X.xe s1) X.xe s
theorem go_of {M : Model} {A : Around} {E : Value→Shared→Prop} {s : Shared} {tg : Expr} {it : Addr} {u : Value} {o : Obj} {n : String} {vs : Array Value} {Q : Unit→Shared→Prop} (ho : s.heap.get? it = some o) (hc : o.cls = .type n) (hd : o.data = .fields vs)
    (hn : ["enumerate","zip","dict_itemiterator","dict_reverseitemiterator","odict_iterator","itertools.zip_longest","itertools.pairwise"].contains n = false) (hQ : Q () s) : wpAny M A (letOwnedTupleGo tg (.ref it) u) Q E s:=by
  unfold letOwnedTupleGo
  cases tg<;>first
    | exact wpAny_pure hQ
    | (cases u<;>first
        | exact wpAny_pure hQ
        | (refine wpAny_bind (wpAny_load ho ?_)
           rw [hc,hd]
           show wpAny M A (if (["enumerate","zip","dict_itemiterator","dict_reverseitemiterator","odict_iterator","itertools.zip_longest","itertools.pairwise"].contains n && vs[0]? == some (rawInt _)) = true then _ else _) Q E s
           rw [if_neg (by intro h;rw [hn,Bool.false_and] at h;cases h)]
           exact wpAny_pure hQ))
def Itl (K : PySem.W.Frag) (a : Addr) : It :=
  ⟨fun i H=>∃ xs x,SqL K H a xs∧xs[i]? = some x,fun i H x H'=>H' = H∧∀ xs,SqL K H a xs→xs[i]? = some x,fun i H=>∃ xs,SqL K H a xs∧xs.length≤i⟩
def Itt (K : PySem.W.Frag) (a : Addr) : It :=
  ⟨fun i H=>∃ xs x,SqT K H a xs∧xs[i]? = some x,fun i H x H'=>H' = H∧∀ xs,SqT K H a xs→xs[i]? = some x,fun i H=>∃ xs,SqT K H a xs∧xs.length≤i⟩
def Itr (lo : Int) (n : Nat) : It:=⟨fun i _=>i < n,fun i H x H'=>H' = H∧x = .int (lo + i),fun i _=>n≤i⟩
theorem turn_list {P : Program} {w : World} {K : PySem.W.Frag} {tg : Expr} (a it : Addr) : Turn P w K tg (Itl K a) [it] it (fun i h=>h.IsListIter it a i) where
  mem:=by simp
  obj:=fun i h st b hb=>by
    have e : b = it:=by simpa using hb
    subst e
    obtain ⟨o,e,c,d⟩:=st
    exact ⟨o,e,fun v z=>by rw [d] at z;cases z⟩
  keep:=fun i h h' st k=>st.at fun o e=>k it (by simp) o e
  item:=by
    intro X hP hw hK hc i pins s σ H E I hf st hg
    subst hP hw hK
    obtain ⟨xs,x,hq,hx⟩:=hg
    obtain ⟨its,rv,p,hz⟩:=I.list hq
    obtain ⟨u,hu,ru⟩:=rv.get hx
    obtain ⟨f0,f1,f2,f3,f4,f5⟩:=hf it (by simp)
    refine wpAny_pyNext_list_item st p.isList (x:=u) (by simpa using hu) fun h' st' sb=>?_
    have I1 : Inv X pins σ H { s with heap:=h' }:=I.turned (t':=s.toks) (fun b o hb e=>(sb.2 b hb).trans e) f0 f1 f3 f4 f5
    obtain ⟨o,e,c,d⟩:=id st'
    exact ⟨u,rfl,go_of (s:={ s with heap:=h' }) e c d (by decide) ⟨x,H,I1,ru,⟨rfl,fun ys hy=>by rw [I.list_inj hy hq];exact hx⟩,st',fun b hb=>(hf b hb).1⟩⟩
  done:=by
    intro X hP hw hK hc i pins s σ H E I hf st hg
    subst hP hw hK
    obtain ⟨xs,hq,hx⟩:=hg
    obtain ⟨its,rv,p,hz⟩:=I.list hq
    obtain ⟨f0,f1,f2,f3,f4,f5⟩:=hf it (by simp)
    have hl:=rv.length
    exact wpAny_pyNext_list_end (I.ok.hd hc) st p.isList (by simp;omega) fun h' eb=>⟨rfl,I.turned (t':=s.toks) (fun b o hb e=>eb b o hb e) f0 f1 f3 f4 f5⟩
  self:=fun _ _ _ _ _ st h=>wpAny_pyIter_listiter st h
theorem turn_tuple {P : Program} {w : World} {K : PySem.W.Frag} {tg : Expr} (a it : Addr) : Turn P w K tg (Itt K a) [it] it (fun i h=>h.IsTupleIter it a i) where
  mem:=by simp
  obj:=fun i h st b hb=>by
    have e : b = it:=by simpa using hb
    subst e
    obtain ⟨o,e,c,d⟩:=st
    exact ⟨o,e,fun v z=>by rw [d] at z;cases z⟩
  keep:=fun i h h' st k=>st.at fun o e=>k it (by simp) o e
  item:=by
    intro X hP hw hK hc i pins s σ H E I hf st hg
    subst hP hw hK
    obtain ⟨xs,x,hq,hx⟩:=hg
    obtain ⟨its,rv,p,hz⟩:=I.tuple hq
    obtain ⟨u,hu,ru⟩:=rv.get hx
    obtain ⟨f0,f1,f2,f3,f4,f5⟩:=hf it (by simp)
    refine wpAny_pyNext_tuple_item st (show s.heap.IsTuple a its.toArray from p) (x:=u) (by simpa using hu) fun h' st' sb=>?_
    have I1 : Inv X pins σ H { s with heap:=h' }:=I.turned (t':=s.toks) (fun b o hb e=>(sb.2 b hb).trans e) f0 f1 f3 f4 f5
    obtain ⟨o,e,c,d⟩:=id st'
    exact ⟨u,rfl,go_of (s:={ s with heap:=h' }) e c d (by decide) ⟨x,H,I1,ru,⟨rfl,fun ys hy=>by rw [I.tuple_inj hy hq];exact hx⟩,st',fun b hb=>(hf b hb).1⟩⟩
  done:=by
    intro X hP hw hK hc i pins s σ H E I hf st hg
    subst hP hw hK
    obtain ⟨xs,hq,hx⟩:=hg
    obtain ⟨its,rv,p,hz⟩:=I.tuple hq
    obtain ⟨f0,f1,f2,f3,f4,f5⟩:=hf it (by simp)
    have hl:=rv.length
    exact wpAny_pyNext_tuple_end (I.ok.hd hc) st (show s.heap.IsTuple a its.toArray from p) (by simp;omega) fun h' eb=>⟨rfl,I.turned (t':=s.toks) (fun b o hb e=>eb b o hb e) f0 f1 f3 f4 f5⟩
  self:=fun _ _ _ _ _ st h=>wpAny_pyIter_tupleiter st h
theorem turn_range {P : Program} {w : World} {K : PySem.W.Frag} {tg : Expr} (it : Addr) (lo : Int) (n : Nat) : Turn P w K tg (Itr lo n) [it] it (fun i h=>IsRangeIter h it (lo + (i : Nat) * 1) ((n : Int) - (i : Nat)) 1) where
  mem:=by simp
  obj:=fun i h st b hb=>by
    have e : b = it:=by simpa using hb
    subst e
    exact ⟨_,st,fun v z=>by
      have z' : Data.fields _ = Data.cell v:=z
      cases z'⟩
  keep:=fun i h h' st k=>k it (by simp) _ st
  item:=by
    intro X hP hw hK hc i pins s σ H E I hf st hg
    subst hP hw hK
    obtain ⟨f0,f1,f2,f3,f4,f5⟩:=hf it (by simp)
    have W:=Walks.range (prog:=X.prog) (w:=X.w) (I.ok.hd hc) it lo 1 n
    refine W.item i s _ _ hg st fun v h' tk hv st' kk=>?_
    obtain ⟨t,rfl⟩:=hv
    have I1 : Inv X pins σ H { s with heap:=h',toks:=tk }:=I.turned (fun b o hb e=>kk b o (by simpa using hb) e) f0 f1 f3 f4 f5
    refine ⟨_,rfl,go_of (s:={ s with heap:=h',toks:=tk }) (n:="range_iterator") st' rfl rfl (by decide) ⟨.int (lo + i),H,I1,⟨t,?_⟩,⟨rfl,rfl⟩,st',fun b hb=>(hf b hb).1⟩⟩
    rw [Int.mul_one]
  done:=by
    intro X hP hw hK hc i pins s σ H E I hf st hg
    subst hP hw hK
    obtain ⟨f0,f1,f2,f3,f4,f5⟩:=hf it (by simp)
    exact wpAny_pyNext_range_end (I.ok.hd hc) st (by have : n≤i:=hg;omega) fun h' eb=>⟨rfl,I.turned (t':=s.toks) (fun b o hb e=>eb b o hb e) f0 f1 f3 f4 f5⟩
  self:=fun _ _ _ _ _ st h=>wpAny_pyIter_rangeiter st h
section
variable {X : Cx} {tg : Expr}
theorem range_it {pins : List (Addr × Obj)} {σ : St} {H : Hp} {s : Shared} {R : It→Hp→Prop} {E : Value→Shared→Prop} {lo hi : Int} {t u v : Tok} {tk : Nat} (I : Inv X pins σ H s) (h1 : -(2 ^ 62)≤lo) (h2 : lo < 2 ^ 62) (h3 : -(2 ^ 62)≤hi) (h4 : hi < 2 ^ 62)
    (q : R (Itr lo (hi - lo).toNat) H) : wpAny (model X.prog X.w) X.A (pyIter (.ref s.heap.objs.size)) (PIE X pins σ tg R) E { s with heap:=s.heap.push { cls:=.type "range",data:=.fields #[.int lo t,.int hi u,.int 1 v] },toks:=tk }:=by
  refine wpAny_pyIter_range (IsRange.new ..) (small_one h1 h2 h3 h4) ?_
  have I1 : Inv X pins σ H { s with heap:=s.heap.push { cls:=.type "range",data:=.fields #[.int lo t,.int hi u,.int 1 v] },toks:=tk }:=I.kept fun b o e=>Heap.get?_push_of_some _ e
  refine ⟨(s.heap.push { cls:=.type "range",data:=.fields #[.int lo t,.int hi u,.int 1 v] }).objs.size,[(s.heap.push { cls:=.type "range",data:=.fields #[.int lo t,.int hi u,.int 1 v] }).objs.size],_,_,H,rfl,
    I1.kept (t':=tk) fun b o e=>Heap.get?_push_of_some _ e,turn_range _ lo (hi - lo).toNat,?_,fun b hb=>?_,q⟩
  · have e1 : lo + ((0 : Nat) : Int) * 1 = lo:=by simp
    have e2 : (((hi - lo).toNat : Nat) : Int) - ((0 : Nat) : Int) = Builtin.Range.rangeSize lo hi 1:=by rw [rangeSize_one];split<;>omega
    show IsRangeIter _ _ (lo + ((0 : Nat) : Int) * 1) ((((hi - lo).toNat : Nat) : Int) - ((0 : Nat) : Int)) 1
    rw [e1,e2]
    exact Heap.get?_push_size _ rfl
  · have e : b = (s.heap.push { cls:=.type "range",data:=.fields #[.int lo t,.int hi u,.int 1 v] }).objs.size:=by simpa using hb
    subst e
    exact I1.fpOk (Nat.le_refl _) (I1.hok.fresh (Nat.le_refl _))
def iRng1 (ta : TA) : TI:=fun σ H R=>ta σ H fun vs H1=>∃ j : Int,vs = [.int j]∧-(2 ^ 62)≤j∧j < 2 ^ 62∧R (Itr 0 j.toNat) H1
theorem pi_range1 {a : Expr} {ta : TA} {p pos : Pos} (hg : Gl X "range") (hm : X.mg "range" = none) (ha : PA X [a] ta) (hs : starEach [a] X.env = [(false,eval a X.env)]:=by rfl) : PI X tg (.Call (.Name "range" p) [a] [] pos) (iRng1 ta):=by
  intro pins s σ H R I h
  refine Call_ (ld_blt I hg hm boot_range (PyProof.Rows.callWith_type1 (thn (ha pos pins s σ H _ I h) fun us s1 ⟨vs,H1,I1,r1,q1⟩=>?_) hs rfl))
  obtain ⟨j,e,q1,q2,q⟩:=q1
  subst e
  cases r1 with
  | cons r rr =>
    cases rr
    obtain ⟨t,rfl⟩:=r
    exact call_range_1 (range_it I1 (by omega) (by omega) q1 q2 (by simpa using q))
def tFor (wi : TI) (g : TG) (tb : TS) : TS:=fun D σ H=>wi σ H fun J H1=>∃ W : Nat→Nat→St→Hp→Prop,(∃ m,W 0 m σ H1)∧∀ i m σ H,W i m σ H →
  (J.stop i H∧D.nx σ H)∨(J.go i H∧∃ N : St→Hp→Prop,(∀ σ' H',N σ' H'→∃ m',m' < m∧W (i + 1) m' σ' H')∧∀ x H',J.yld i H x H'→g x σ H' fun σ2 H2=>tb { D with nx:=N,ct:=N,bk:=D.nx } σ2 H2)
def pinsAt (fp : List Addr) (h : Heap) : List (Addr × Obj):=fp.filterMap fun b=>(h.get? b).map fun o=>(b,o)
theorem mem_pinsAt {fp : List Addr} {h : Heap} {b : Addr} {o : Obj} (hb : b∈fp) (e : h.get? b = some o) : (b,o)∈pinsAt fp h:=List.mem_filterMap.mpr ⟨b,hb,by rw [e];rfl⟩
theorem of_pinsAt {fp : List Addr} {h : Heap} {p : Addr × Obj} (hp : p∈pinsAt fp h) : p.1∈fp∧h.get? p.1 = some p.2:=by
  obtain ⟨b,hb,e⟩:=List.mem_filterMap.mp hp
  cases q : h.get? b with
  | none=>rw [q] at e;cases e
  | some o =>
    rw [q] at e
    have e' : (b,o) = p:=Option.some.inj e
    subst e'
    exact ⟨hb,q⟩
theorem Inv.pinned {pins : List (Addr × Obj)} {σ : St} {H : Hp} {s : Shared} {fp : List Addr} (I : Inv X pins σ H s) (hf : ∀ b∈fp,FpOk X pins H b) (ho : ∀ b∈fp,∃ o,s.heap.get? b = some o∧∀ v,o.data≠.cell v) : Inv X (pins ++ pinsAt fp s.heap) σ H s :=
  I.pins_of fun p hp=>(List.mem_append.mp hp).elim (fun z=>I.pin p (List.mem_append_right _ z)) fun z=>by
    obtain ⟨hb,e⟩:=of_pinsAt z
    obtain ⟨f0,f1,f2,_⟩:=hf p.1 hb
    obtain ⟨o,e',d⟩:=ho p.1 hb
    rw [e] at e';cases e'
    exact ⟨e,f0,f1,f2,d⟩
theorem Inv.unpinned {pins pl : List (Addr × Obj)} {σ : St} {H : Hp} {s : Shared} (I : Inv X (pins ++ pl) σ H s) : Inv X pins σ H s:=I.pins_of fun p hp=>I.pin p (List.mem_append_right _ (List.mem_append_left _ hp))
theorem ps_for {iter : Expr} {body : List Stmt} {wi : TI} {g : TG} {tb : TS} {pos : Pos} (hp : PassesOwn (model X.prog X.w) X.A X.env X.xe) (hc : X.calm = true) (hi : PI X tg iter wi) (hg : PG X tg g) (hb : PSs X body tb)
    (hs : ∀ x,foldedSetIterable iter X.env x = pure x:=by intro _;rfl) : PS X (.For tg iter body [] pos) (tFor wi g tb):=.mk <| by
  intro pins s σ H D I h
  refine wpAny_For (thn (hi pins s σ H _ I h) fun v s1 h1=>thn h1 fun itv s2 h2=>?_) hs
  obtain ⟨it,fp,tn,J,H2,e,I2,T,st2,f2,W,⟨m0,w0⟩,turn⟩:=h2
  subst e
  have stat : ∀ {H' : Hp},(∀ b∈fp,H' b = none)→∀ b∈fp,FpOk X pins H' b:=fun hn b hb=>⟨hn b hb,(f2 b hb).2⟩
  refine codeAny_forLoop_any (fun n s'=>∃ i σ' H',Inv X pins σ' H' s'∧tn i s'.heap∧(∀ b∈fp,H' b = none)∧W i n σ' H') ?_ m0 ⟨0,σ,H2,I2,st2,fun b hb=>(f2 b hb).1,w0⟩
  rintro n s3 ⟨i,σ3,H3,I3,st3,fr3,w3⟩
  rcases turn i n σ3 H3 w3 with ⟨stop,qn⟩ | ⟨go,N,hN,step⟩
  · refine wpAny_passesOwn hp (thn (T.done X rfl rfl rfl hc i pins s3 σ3 H3 X.xe I3 (stat fr3) st3 stop) fun r s4 ⟨hr,I4⟩=>?_)
    subst hr
    exact wpAny_execs_nil ⟨σ3,H3,I4,qn⟩
  · refine wpAny_passesOwn hp (thn (T.item X rfl rfl rfl hc i pins s3 σ3 H3 X.xe I3 (stat fr3) st3 go) fun r s4 ⟨u,hr,h4⟩=>?_)
    subst hr
    refine wpAny_passesOwn hp (thn h4 fun _ s5 ⟨x,H5,I5,r5,y5,st5,fr5⟩=>?_)
    have I5':=I5.pinned (stat fr5) (T.obj _ _ st5)
    refine wpAny_passesOwn hp (thn (hg _ s5 σ3 H5 x u _ I5' r5 (step x H5 y5)) fun _ s6 ⟨σ6,H6,I6,q6⟩=>?_)
    refine wpAny_passesOwn hp (thn (hb _ s6 σ6 H6 _ I6 q6) fun f s7 q7=>?_)
    have again : ∀ {σ7 : St} {H7 : Hp},Inv X (pins ++ pinsAt fp s5.heap) σ7 H7 s7→N σ7 H7→∃ m,m < n∧∃ i σ' H',Inv X pins σ' H' s7∧tn i s7.heap∧(∀ b∈fp,H' b = none)∧W i m σ' H':=fun {σ7 H7} I7 n7=>by
      obtain ⟨m',hm,w7⟩:=hN σ7 H7 n7
      refine ⟨m',hm,i + 1,σ7,H7,I7.unpinned,T.keep _ _ _ st5 fun b hb o e=>(I7.pin (b,o) (List.mem_append_right _ (List.mem_append_right _ (mem_pinsAt hb e)))).1,fun b hb=>?_,w7⟩
      obtain ⟨o,e,d⟩:=T.obj _ _ st5 b hb
      exact (I7.pin (b,o) (List.mem_append_right _ (List.mem_append_right _ (mem_pinsAt hb e)))).2.1
    cases f with
    | next=>obtain ⟨σ7,H7,I7,n7⟩:=q7;exact again I7 n7
    | cont=>obtain ⟨σ7,H7,I7,n7⟩:=q7;exact again I7 n7
    | brk=>obtain ⟨σ7,H7,I7,q7⟩:=q7;exact ⟨σ7,H7,I7.unpinned,q7⟩
    | ret v=>obtain ⟨x7,σ7,H7,I7,r7,q7⟩:=q7;exact ⟨x7,σ7,H7,I7.unpinned,r7,q7⟩
end
abbrev R2:=V→V→Hp→VK→Prop
def OpR (X : Cx) (f : Value→Value→Sem Value) (r : R2) : Prop :=
  ∀ (pins : List (Addr × Obj)) (s : Shared) (σ : St) (H : Hp) (x y : V) (v u : Value) (Q : VK),Inv X pins σ H s→RelV x v→RelV y u→r x y H Q →
    wpAny (model X.prog X.w) X.A (f v u) (EP X pins σ Q) X.xe s
def UnR (X : Cx) (f : Value→Sem Value) (r : V→Hp→VK→Prop) : Prop :=
  ∀ (pins : List (Addr × Obj)) (s : Shared) (σ : St) (H : Hp) (x : V) (v : Value) (Q : VK),Inv X pins σ H s→RelV x v→r x H Q →
    wpAny (model X.prog X.w) X.A (f v) (EP X pins σ Q) X.xe s
def CallR (X : Cx) (f : Value) (r : List V→Hp→VK→Prop) : Prop :=
  ∀ (pins : List (Addr × Obj)) (s : Shared) (σ : St) (H : Hp) (xs : List V) (us : List Value) (Q : VK),Inv X pins σ H s→Vals xs us→r xs H Q →
    wpAny (model X.prog X.w) X.A (call f us) (EP X pins σ Q) X.xe s
def TruR (X : Cx) (r : V→Hp→(Bool→Hp→Prop)→Prop) : Prop :=
  ∀ (pins : List (Addr × Obj)) (s : Shared) (σ : St) (H : Hp) (x : V) (v : Value) (Q : Bool→Hp→Prop),Inv X pins σ H s→RelV x v→r x H Q →
    wpAny (model X.prog X.w) X.A (truthy v) (TP X pins σ Q) X.xe s
def tOp (r : R2) (ta tb : TE) : TE:=fun σ H Q=>ta σ H fun x H1=>tb σ H1 fun y H2=>r x y H2 Q
def tUn (r : V→Hp→VK→Prop) (ta : TE) : TE:=fun σ H Q=>ta σ H fun x H1=>r x H1 Q
def rI (C : Int→Int→Prop) (g : Int→Int→V) : R2:=fun x y H Q=>∃ i j,x = .int i∧y = .int j∧C i j∧Q (g i j) H
def rI0 (g : Int→Int→V) : R2:=fun x y H Q=>∃ i j,x = .int i∧y = .int j∧Q (g i j) H
def rU (g : Int→V) : V→Hp→VK→Prop:=fun x H Q=>∃ i,x = .int i∧Q (g i) H
section
variable {X : Cx} {a b c : Expr} {ta tb tc : TE} {pos : Pos}
theorem binT (ha : PE X a ta) (hb : PE X b tb) {pins : List (Addr × Obj)} {s : Shared} {σ : St} {H : Hp} {R : V→V→Hp→Prop} (I : Inv X pins σ H s)
    (h : ta σ H fun x H1=>tb σ H1 fun y H2=>R x y H2) {Q : Value→Shared→Prop} {f : Value→Value→Sem Value}
    (hf : ∀ v u s2 x y H2,Inv X pins σ H2 s2→RelV x v→RelV y u→R x y H2→wpAny (model X.prog X.w) X.A (f v u) Q X.xe s2) :
    wpAny (model X.prog X.w) X.A (eval a X.env) (fun v s₁=>wpAny (model X.prog X.w) X.A (eval b X.env) (fun u s₂=>wpAny (model X.prog X.w) X.A (f v u) Q X.xe s₂) X.xe s₁) X.xe s:=by
  refine thn (ha pins s σ H _ I h) fun v s1 ⟨x,H1,I1,r1,q1⟩=>?_
  refine thn (hb pins s1 σ H1 _ I1 q1) fun u s2 ⟨y,H2,I2,r2,q2⟩=>?_
  exact hf v u s2 x y H2 I2 r1 r2 q2
theorem pe_op {op : Operator} {r : R2} (ho : OpR X (binaryOp op) r) (ha : PE X a ta) (hb : PE X b tb) : PE X (.BinOp a op b pos) (tOp r ta tb):=.mk <| by
  intro pins s σ H Q I h
  exact wpAny_BinOp (binT ha hb I h fun v u s2 x y H2 I2 rx ry q=>ho pins s2 σ H2 x y v u Q I2 rx ry q)
theorem pe_un {op : UnaryOp} {r : V→Hp→VK→Prop} (ho : UnR X (unaryOp op) r) (ha : PE X a ta) : PE X (.UnaryOp op a pos) (tUn r ta):=.mk <| by
  intro pins s σ H Q I h
  exact UnaryOp_ (thn (ha pins s σ H _ I h) fun v s1 ⟨x,H1,I1,r1,q1⟩=>ho pins s1 σ H1 x v Q I1 r1 q1)
theorem opI {f : Value→Value→Sem Value} {C : Int→Int→Prop} {g : Int→Int→Int}
    (rule : ∀ (i j : Int) (t u : Tok) (s : Shared) (Q : Value→Shared→Prop) (E : Value→Shared→Prop),C i j→Q (.int (g i j) s.toks) { s with toks:=s.toks + 1 }→wpAny (model X.prog X.w) X.A (f (.int i t) (.int j u)) Q E s) :
    OpR X f (rI C fun i j=>.int (g i j)):=by
  intro pins s σ H x y v u Q I rx ry h
  obtain ⟨i,j,rfl,rfl,hc,q⟩:=h
  obtain ⟨t,rfl⟩:=rx
  obtain ⟨t',rfl⟩:=ry
  exact rule i j t t' s _ _ hc ⟨.int (g i j),H,I.tok _,⟨_,rfl⟩,q⟩
theorem opI0 {f : Value→Value→Sem Value} {g : Int→Int→Int}
    (rule : ∀ (i j : Int) (t u : Tok) (s : Shared) (Q : Value→Shared→Prop) (E : Value→Shared→Prop),Q (.int (g i j) s.toks) { s with toks:=s.toks + 1 }→wpAny (model X.prog X.w) X.A (f (.int i t) (.int j u)) Q E s) :
    OpR X f (rI0 fun i j=>.int (g i j)):=by
  intro pins s σ H x y v u Q I rx ry h
  obtain ⟨i,j,rfl,rfl,q⟩:=h
  obtain ⟨t,rfl⟩:=rx
  obtain ⟨t',rfl⟩:=ry
  exact rule i j t t' s _ _ ⟨.int (g i j),H,I.tok _,⟨_,rfl⟩,q⟩
theorem opB0 {f : Value→Value→Sem Value} {g : Int→Int→Bool}
    (rule : ∀ (i j : Int) (t u : Tok) (s : Shared) (Q : Value→Shared→Prop) (E : Value→Shared→Prop),Q (.bool (g i j)) s→wpAny (model X.prog X.w) X.A (f (.int i t) (.int j u)) Q E s) :
    OpR X f (rI0 fun i j=>.bl (g i j)):=by
  intro pins s σ H x y v u Q I rx ry h
  obtain ⟨i,j,rfl,rfl,q⟩:=h
  obtain ⟨t,rfl⟩:=rx
  obtain ⟨t',rfl⟩:=ry
  exact rule i j t t' s _ _ ⟨.bl (g i j),H,I,rfl,q⟩
def CDiv (i j : Int) : Prop:=0 < j∧j < 1073741824
def CPow (i j : Int) : Prop:=0≤j∧j≤1000000∧i.natAbs < 2 ^ 64
def CMul (i j : Int) : Prop:=(-(2 ^ 64) < i∧i < 2 ^ 64)∨(-(2 ^ 64) < j∧j < 2 ^ 64)
theorem CMul.ok {i j : Int} (h : CMul i j) : IntMulOk i j:=by
  rcases h with ⟨h1,h2⟩ | ⟨h1,h2⟩
  · exact .of_left (intBits_le_64 h1 h2)
  · exact .of_right (intBits_le_64 h1 h2)
theorem op_add : OpR X (binaryOp .Add) (rI0 fun i j=>.int (i + j)):=opI0 fun _ _ _ _ _ _ _ q=>add_int q
theorem op_sub : OpR X (binaryOp .Sub) (rI0 fun i j=>.int (i - j)):=opI0 fun _ _ _ _ _ _ _ q=>sub_int q
theorem op_mul : OpR X (binaryOp .Mult) (rI CMul fun i j=>.int (i * j)):=opI fun _ _ _ _ _ _ _ hc q=>mul_int q hc.ok
theorem op_fdiv : OpR X (binaryOp .FloorDiv) (rI CDiv fun i j=>.int (i / j)):=opI fun i j _ _ _ _ _ hc q=>by
  have h1 : (0 : Int) < j:=hc.1
  have h2 : j < 1073741824:=hc.2
  exact floordiv_int (by omega) (by rw [Int.fdiv_eq_ediv_of_nonneg i (by omega)];exact q) (.inl (PyProof.noPylong_small (by omega)))
theorem op_mod : OpR X (binaryOp .Mod) (rI (fun _ j=>0 < j) fun i j=>.int (i % j)):=opI fun i j _ _ _ _ _ hc q=>by
  have h1 : (0 : Int) < j:=hc
  exact mod_int' (by omega) (by rw [Int.fmod_eq_emod_of_nonneg i (by omega)];exact q)
theorem op_pow : OpR X (binaryOp .Pow) (rI CPow fun i j=>.int (i ^ j.toNat)):=opI fun _ _ _ _ _ _ _ hc q=>pow_int_small hc.1 hc.2.1 hc.2.2 q
theorem op_shl : OpR X (binaryOp .LShift) (rI CPow fun i j=>.int (i * 2 ^ j.toNat)):=opI fun _ _ _ _ _ _ _ hc q=>lshift_int_small hc.1 hc.2.1 hc.2.2 q
theorem unI {f : Value→Sem Value} {g : Int→Int}
    (rule : ∀ (i : Int) (t : Tok) (s : Shared) (Q : Value→Shared→Prop) (E : Value→Shared→Prop),Q (.int (g i) s.toks) { s with toks:=s.toks + 1 }→wpAny (model X.prog X.w) X.A (f (.int i t)) Q E s) :
    UnR X f (rU fun i=>.int (g i)):=by
  intro pins s σ H x v Q I rx h
  obtain ⟨i,rfl,q⟩:=h
  obtain ⟨t,rfl⟩:=rx
  exact rule i t s _ _ ⟨.int (g i),H,I.tok _,⟨_,rfl⟩,q⟩
theorem un_neg : UnR X (unaryOp .USub) (rU fun i=>.int (-i)):=unI fun _ _ _ _ _ q=>neg_int q
end
section
variable {X : Cx} {a b c : Expr} {ta tb tc : TE} {pos : Pos}
theorem fin_bl {pins : List (Addr × Obj)} {σ : St} {H : Hp} {s : Shared} {Q : VK} {k k' : Bool} (I : Inv X pins σ H s) (q : Q (.bl k) H) (e : k = k') : EP X pins σ Q (.bool k') s:=by
  subst e
  exact ⟨.bl k,H,I,rfl,q⟩
theorem op_lt : OpR X (compareOp .Lt) (rI0 fun i j=>.bl (decide (i < j))):=opB0 fun _ _ _ _ _ _ _ q=>lt_int q
theorem op_gt : OpR X (compareOp .Gt) (rI0 fun i j=>.bl (decide (j < i))):=opB0 fun _ _ _ _ _ _ _ q=>gt_int q
theorem op_ge : OpR X (compareOp .GtE) (rI0 fun i j=>.bl (decide (j≤i))):=opB0 fun _ _ _ _ _ _ _ q=>ge_int q
theorem op_isN : OpR X (compareOp .Is) (fun x y H Q=>y = .non∧Q (.bl (decide (x = .non))) H):=by
  intro pins s σ H x y v u Q I rx ry h
  obtain ⟨rfl,q⟩:=h
  cases ry
  refine is_none_gen (fin_bl I q ?_)
  cases x<;>first
    | (cases rx;rfl)
    | (obtain ⟨t,rfl⟩:=rx;rfl)
theorem nomark (b : Expr) {op : CmpOp} (h : op≠.In:=by decide) (h2 : op≠.NotIn:=by decide) : behindInMarks op b = false:=by
  have e1 : (op == CmpOp.In) = false:=by cases op<;>first | rfl | exact absurd rfl h
  have e2 : (op == CmpOp.NotIn) = false:=by cases op<;>first | rfl | exact absurd rfl h2
  cases b<;>simp [behindInMarks,e1,e2]
theorem pe_cmpR {op : CmpOp} {r : R2} (ho : OpR X (compareOp op) r) (ha : PE X a ta) (hb : PE X b tb) (hm : behindInMarks op b = false) : PE X (.Compare a [op] [b] pos) (tOp r ta tb):=.mk <| by
  intro pins s σ H Q I h
  exact wpAny_Compare1 (binT ha hb I h fun v u s2 x y H2 I2 rx ry q=>ho pins s2 σ H2 x y v u Q I2 rx ry q) hm
def tTest (t : TE) : TT:=fun σ H Q=>t σ H fun x H'=>∃ k,x = .bl k∧Q k H'
theorem pt_cmpR {op : CmpOp} {r : R2} (ho : OpR X (compareOp op) r) (ha : PE X a ta) (hb : PE X b tb) (hm : behindInMarks op b = false) : PT X (.Compare a [op] [b] pos) (tTest (tOp r ta tb)):=by
  intro pins s σ H Q I h
  refine wpAny_isTrue_Compare1 (thn (ha pins s σ H _ I h) fun v s1 ⟨x,H1,I1,r1,q1⟩=>thn (hb pins s1 σ H1 _ I1 q1) fun u s2 ⟨y,H2,I2,r2,q2⟩ =>
    thn (ho pins s2 σ H2 x y v u _ I2 r1 r2 q2) fun c s3 ⟨z,H3,I3,r3,k,e,q3⟩=>?_) hm
  subst e
  cases r3
  exact wpAny_truthy_bool ⟨H3,I3,q3⟩
def tChain (r r' : R2) (ta tb tc : TE) : TE:=fun σ H Q=>ta σ H fun x H1=>tb σ H1 fun y H2=>r x y H2 fun z H3=>∃ k,z = .bl k ∧
  (if k = true then tc σ H3 fun w' H4=>r' y w' H4 Q else Q (.bl false) H3)
theorem pt_chain {op op' : CmpOp} {r r' : R2} (ho : OpR X (compareOp op) r) (ho' : OpR X (compareOp op') r') (ha : PE X a ta) (hb : PE X b tb) (hc : PE X c tc)
    (hm : lastMarks [op,op'] [b,c] = false:=by with_unfolding_all rfl) : PT X (.Compare a [op,op'] [b,c] pos) (tTest (tChain r r' ta tb tc)):=by
  intro pins s σ H Q I h
  refine isTrue_chain (thn (ha pins s σ H _ I h) fun v s1 ⟨x,H1,I1,r1,q1⟩=>test_link (thn (hb pins s1 σ H1 _ I1 q1) fun u s2 ⟨y,H2,I2,r2,q2⟩ =>
    thn (ho pins s2 σ H2 x y v u _ I2 r1 r2 q2) fun d s3 ⟨z,H3,I3,r3,k,e,q3⟩=>?_)) hm
  subst e
  cases r3
  refine wpAny_truthy_bool ?_
  cases k with
  | false =>
    obtain ⟨k',e',q'⟩:=q3
    cases e'
    exact ite_ff ⟨H3,I3,q'⟩
  | true =>
    refine ite_tt (test_last (thn (hc pins s3 σ H3 _ I3 q3) fun w' s4 ⟨z',H4,I4,r4,q4⟩=>thn (ho' pins s4 σ H4 y z' u w' _ I4 r2 r4 q4) fun d' s5 ⟨z2,H5,I5,r5,k2,e2,q5⟩=>?_))
    subst e2
    cases r5
    exact wpAny_truthy_bool ⟨H5,I5,q5⟩
def TruV (K : PySem.W.Frag) (x : V) (H : Hp) (k : Bool) : Prop :=
  match x with
  | .non=>k = false
  | .bl b=>k = b
  | .int i=>k = (i != 0)
  | .str y=>y.length≤sizeLine∧k = ((y.length : Int) != 0)
  | .byt y=>y.size≤sizeLine∧k = ((y.size : Int) != 0)
  | .ref p=>(∃ xs,SqL K H p xs∧k = !xs.isEmpty)∨(∃ xs,SqT K H p xs∧k = !xs.isEmpty)∨∃ kvs,H p = some (.dK kvs)∧k = !kvs.isEmpty
  | _=>False
theorem isEmpty_kv {κ : Type} {kvs : List (κ × V)} {vs : List (κ × Value)} (r : KV kvs vs) : (!vs.isEmpty) = !kvs.isEmpty:=by
  cases r<;>rfl
theorem isEmpty_of {xs : List V} {its : List Value} (r : Vals xs its) : (!its.toArray.isEmpty) = !xs.isEmpty:=by
  cases r<;>simp
theorem line63 : (sizeLine : Nat) < 2 ^ 63:=by rw [sizeLine_eq];decide
theorem tru_ok : TruR X (fun x H Q=>∃ k,TruV X.K x H k∧Q k H):=by
  intro pins s σ H x v Q I rx h
  obtain ⟨k,e,q⟩:=h
  have hl:=line63
  have hs : sizeLine = 16777216:=sizeLine_eq
  cases x with
  | non =>
    cases rx
    have e' : k = false:=e
    subst e'
    exact truthy_none ⟨H,I,q⟩
  | bl b =>
    cases rx
    have e' : k = b:=e
    subst e'
    exact wpAny_truthy_bool ⟨H,I,q⟩
  | int i =>
    obtain ⟨t,rfl⟩:=rx
    have e' : k = (i != 0):=e
    subst e'
    exact PySem.P.truthy_int ⟨H,I,q⟩
  | str y =>
    obtain ⟨t,rfl⟩:=rx
    obtain ⟨hy,e'⟩ : y.length≤sizeLine∧k = ((y.length : Int) != 0):=e
    subst e'
    exact PySem.P.truthy_str (by omega) ⟨H,I.tok _,q⟩
  | byt y =>
    obtain ⟨t,rfl⟩:=rx
    obtain ⟨hy,e'⟩ : y.size≤sizeLine∧k = ((y.size : Int) != 0):=e
    subst e'
    exact PySem.W.truthy_bytes (by omega) ⟨H,I.tok _,q⟩
  | ref p =>
    cases rx
    have e' : (∃ xs,SqL X.K H p xs∧k = !xs.isEmpty)∨(∃ xs,SqT X.K H p xs∧k = !xs.isEmpty)∨∃ kvs,H p = some (.dK kvs)∧k = !kvs.isEmpty:=e
    rcases e' with ⟨xs,hx,e'⟩ | ⟨xs,hx,e'⟩ | ⟨kvs,hx,e'⟩
    · subst e'
      obtain ⟨its,r,pl,hz⟩:=I.list hx
      have hlen:=r.length
      exact wpAny_truthy_list pl.isList (by simp only [List.size_toArray];omega) ⟨H,I.tok _,by rw [isEmpty_of r];exact q⟩
    · subst e'
      obtain ⟨its,r,pl,hz⟩:=I.tuple hx
      have hlen:=r.length
      exact truthy_tuple pl (by simp only [List.size_toArray];omega) ⟨H,I.tok _,by rw [isEmpty_of r];exact q⟩
    · subst e'
      obtain ⟨hz,hS,vs,r,m⟩ : kvs.length≤sizeLine∧(p == sysModules) = false∧∃ vs,KV kvs vs∧s.heap.DictOf (mixKind X.prog X.w) p vs:=I.hok p _ hx
      have hlen : kvs.length = vs.length:=Paired.length r
      exact wpAny_truthy_dict hS m (by omega) ⟨H,I.tok _,by rw [isEmpty_kv r];exact q⟩
  | _=>exact (show False from e).elim
theorem pt_truth (ha : PE X a ta) (he : ∀ whole,isTrue a X.env whole = (do let v ← whole;standAt a.pos;holding [v] (truthy v))) :
    PT X a (fun σ H Q=>ta σ H fun x H'=>∃ k,TruV X.K x H' k∧Q k H'):=by
  intro pins s σ H Q I h
  exact isTrue_plain (thn (ha pins s σ H _ I h) fun v s1 ⟨x,H1,I1,r1,q1⟩=>tru_ok pins s1 σ H1 x v Q I1 r1 q1) (he _)
theorem vals1 {x : V} {us : List Value} (r : Vals [x] us) : ∃ u,us = [u]∧RelV x u:=by
  cases r with
  | cons r1 r2=>cases r2;exact ⟨_,rfl,r1⟩
theorem vals2 {x y : V} {us : List Value} (r : Vals [x,y] us) : ∃ u w',us = [u,w']∧RelV x u∧RelV y w':=by
  cases r with
  | cons r1 r2 =>
    cases r2 with
    | cons r3 r4=>cases r4;exact ⟨_,_,rfl,r1,r3⟩
theorem call_abs : CallR X (.builtin "abs") (fun xs H Q=>∃ i,xs = [.int i]∧Q (.int (if i < 0 then -i else i)) H):=by
  intro pins s σ H xs us Q I r h
  obtain ⟨i,rfl,q⟩:=h
  obtain ⟨u,rfl,t,rfl⟩:=vals1 r
  exact call_abs_int fun u tk=>⟨.int (if i < 0 then -i else i),H,I.tok _,⟨_,rfl⟩,q⟩
theorem call_int1 : CallR X (.type "int") (fun xs H Q=>(∃ i,xs = [.int i]∧Q (.int i) H)∨∃ k,xs = [.bl k]∧Q (.int (if k then 1 else 0)) H):=by
  intro pins s σ H xs us Q I r h
  rcases h with ⟨i,rfl,q⟩ | ⟨k,rfl,q⟩
  · obtain ⟨u,rfl,t,rfl⟩:=vals1 r
    exact call_int_int ⟨.int i,H,I,⟨_,rfl⟩,q⟩
  · obtain ⟨u,rfl,r1⟩:=vals1 r
    cases r1
    exact call_int_bool ⟨.int (if k then 1 else 0),H,I.tok _,⟨_,rfl⟩,q⟩
def LenV (K : PySem.W.Frag) (x : V) (H : Hp) (n : Nat) : Prop :=
  match x with
  | .str y=>y.length≤sizeLine∧n = y.length
  | .byt y=>y.size≤sizeLine∧n = y.size
  | .ref p=>(∃ xs,SqL K H p xs∧n = xs.length)∨∃ xs,SqT K H p xs∧n = xs.length
  | _=>False
theorem call_len : CallR X (.builtin "len") (fun xs H Q=>∃ x n,xs = [x]∧LenV X.K x H n∧Q (.int n) H):=by
  intro pins s σ H xs us Q I r h
  obtain ⟨x,n,rfl,e,q⟩:=h
  obtain ⟨u,rfl,rx⟩:=vals1 r
  have hl:=line63
  have hs : sizeLine = 16777216:=sizeLine_eq
  cases x with
  | str y =>
    obtain ⟨t,rfl⟩:=rx
    obtain ⟨hy,e'⟩ : y.length≤sizeLine∧n = y.length:=e
    subst e'
    exact len_str (by omega) ⟨.int _,H,I.tok _,⟨_,rfl⟩,q⟩
  | byt y =>
    obtain ⟨t,rfl⟩:=rx
    obtain ⟨hy,e'⟩ : y.size≤sizeLine∧n = y.size:=e
    subst e'
    exact PySem.W.len_bytes (by omega) ⟨.int _,H,I.tok _,⟨_,rfl⟩,q⟩
  | ref p =>
    cases rx
    have e' : (∃ xs,SqL X.K H p xs∧n = xs.length)∨∃ xs,SqT X.K H p xs∧n = xs.length:=e
    rcases e' with ⟨xs,hx,e'⟩ | ⟨xs,hx,e'⟩
    · subst e'
      obtain ⟨its,r',pl,hz⟩:=I.list hx
      have hlen:=r'.length
      exact Calls.call_len_list pl.isList (by simp only [List.size_toArray];omega) ⟨.int xs.length,H,I.tok _,⟨_,by simp only [List.size_toArray];rw [hlen]⟩,q⟩
    · subst e'
      obtain ⟨its,r',pl,hz⟩:=I.tuple hx
      have hlen:=r'.length
      exact len_tuple pl (by simp only [List.size_toArray];omega) ⟨.int xs.length,H,I.tok _,⟨_,by simp only [List.size_toArray];rw [hlen]⟩,q⟩
  | _=>exact (show False from e).elim
end
structure ObjM (h : Heap) (x dx C : Addr) (mA : Str→Option Value) : Prop where
  obj : h.get? x = some (PySem.W.instObj C dx)
  ns : h.Ns1 dx mA
  ne : dx≠x
theorem lookIn_ns {h : Heap} {dx : Addr} {mA : Str→Option Value} (n : h.Ns1 dx mA) : ∃ od,h.get? dx = some od∧∀ name,PySem.W.lookIn name od = some (mA name):=by
  obtain ⟨o,es,ep,ho,hd,hk,_,hm⟩:=n
  refine ⟨o,ho,fun name=>?_⟩
  have e:=hm name
  unfold nsFind findBy at e
  rw [← Array.find?_toList] at e
  unfold PySem.W.lookIn
  rw [hd]
  dsimp only
  split
  · rename_i y q
    rw [q] at e
    exact congrArg some e
  · rename_i q
    rw [q] at e
    have a : es.toList.any (·.refKey) = false:=by
      rw [List.any_eq_false]
      intro y hy
      obtain ⟨z,t,hkey⟩:=hk y (Array.mem_toList_iff.mp hy)
      simp [DictEntry.refKey,hkey]
    have a' : ¬ es.toList.any (·.refKey) = true:=by rw [a];exact Bool.false_ne_true
    rw [if_neg a']
    exact congrArg some e
theorem ObjM.look {h : Heap} {x dx C : Addr} {mA : Str→Option Value} (I : ObjM h x dx C mA) : ∃ od,PySem.W.InstAt h x (PySem.W.instObj C dx) C (some od)∧∀ name,PySem.W.lookIn name od = some (mA name) :=
  let ⟨od,ho,hl⟩:=lookIn_ns I.ns
  ⟨od,⟨I.obj,rfl,rfl,ho⟩,hl⟩
section
variable {prog : Program} {w : World} {A : Around} {E : Value→Shared→Prop} {s : Shared} {K : PySem.W.Frag} {x dx C f : Addr} {mA : Str→Option Value} {name : Str} {v : Value}
end
theorem RelO.some_of {v : V} {o : Option Value} (r : RelO (some v) o) : ∃ u,o = some u∧RelV v u:=by
  cases o with
  | none=>exact (show False from r).elim
  | some u=>exact ⟨u,rfl,r⟩
section
variable {P : Program} {w : World} {H H' : Hp} {h h' : Heap} {a C dx : Addr} {fs fs' : List (Str × V)}
theorem ins_get (hok : HOk P w H h) (e : H a = some (.ins C dx fs)) : ∃ mA,ObjM h a dx C mA∧(∀ f,RelO (fs.lookup f) (mA f))∧PySem.Within mA (fs.map (·.1))∧fs.length≤1000∧H dx = some (.own a):=by
  obtain ⟨d,z,ne,ob,mA,n,r,q⟩:=(show ObjOk P w H h a (.ins C dx fs) from hok a _ e)
  exact ⟨mA,⟨ob,n,ne⟩,r,q,z,d⟩
end
structure Cls (K : PySem.W.Frag) (C : Addr) : Prop where
  pg : PySem.W.plainGet K C Str.empty = true
  hd : PySem.W.hasDictIn K C = true
  po : PySem.W.plainOver K C = true
  sa : PySem.W.findIn K (.ref C) "__setattr__" = some (some (.builtin "object.__setattr__"))
theorem Cls.get {K : PySem.W.Frag} {C : Addr} (c : Cls K C) (f : Str) : PySem.W.plainGet K C f = true:=c.pg
structure Con (K : PySem.W.Frag) (C : Addr) (f : Str) (v : V) (u : Value) : Prop where
  at_ : PySem.W.findIn K (.ref C) f = some (some u)
  rel : RelV v u
  get : PySem.W.specialIn K u "__get__" = some none
  cp : PySem.W.copiedNames.contains f = false
structure Meth (K : PySem.W.Frag) (C : Addr) (m : Str) (f : Addr) : Prop where
  at_ : PySem.W.findIn K (.ref C) m = some (some (.ref f))
  fn : PySem.W.isFn K (.ref f) = true
  kp : PySem.W.keepIn K (.ref f) = true
section
variable {X : Cx} {pins : List (Addr × Obj)} {σ : St} {H : Hp} {s : Shared} {a C dx : Addr} {fs : List (Str × V)} {f : Str} {v : V} {A : Around} {E : Value→Shared→Prop}
end
section
variable {X : Cx} {o e value : Expr} {f : Str} {pos pos' tpos : Pos} {ta tv : TE}
end
section
variable {X : Cx} {pins : List (Addr × Obj)} {σ : St} {H : Hp} {s : Shared} {A : Around} {E : Value→Shared→Prop} {Q : Value→Shared→Prop} {c : Value} {b : Bool}
inductive TyOf (K : PySem.W.Frag) (H : Hp) : V→Value→Prop where
  | non : TyOf K H .non (.type "NoneType")
  | bl (x : Bool) : TyOf K H (.bl x) (.type "bool")
  | int (i : Int) : TyOf K H (.int i) (.type "int")
  | str (x : Str) : TyOf K H (.str x) (.type "str")
  | flt (x : UInt64) : TyOf K H (.flt x) (.type "float")
  | lst {a : Addr} {xs : List V} (e : H a = some (.lst xs)) : TyOf K H (.ref a) (.type "list")
  | frz {a : Addr} {o : Obj} {xs : List V} (e : H a = some (.frz o (.lst xs))) : TyOf K H (.ref a) (.type "list")
  | tup {a : Addr} {xs : List V} (e : H a = some (.tup xs)) : TyOf K H (.ref a) (.type "tuple")
  | dK {a : Addr} {kvs : List (Key × V)} (e : H a = some (.dK kvs)) : TyOf K H (.ref a) (.type "dict")
  | dT {a : Addr} {kvs : List (List Key × V)} (e : H a = some (.dT kvs)) : TyOf K H (.ref a) (.type "dict")
  | ins {a C dx : Addr} {fs : List (Str × V)} (e : H a = some (.ins C dx fs)) (cl : Cls K C) (ha : PySem.W.findIn K (.ref C) "__class__" = some (some (.builtin "object.__class__")))
      (hn : PySem.W.specialIn K (.builtin "object.__class__") "__get__" = some (some (.builtin "getset_descriptor.__get__"))) (htk : PySem.W.takesIn K (.builtin "object.__class__") = some true)
      (hm : PySem.W.mroIn K C (.type "object") = some true) : TyOf K H (.ref a) (.ref C)
theorem isinst_ok {x : V} {u t : Value} (I : Inv X pins σ H s) (rx : RelV x u) (ty : TyOf X.K H x t) (e : PySem.W.kitOne X.K t c = some b) (h : ∀ tk,Q (.bool b) { s with toks:=tk }) :
    wpAny (model X.prog X.w) A (call (.builtin "isinstance") [u,c]) Q E s:=by
  cases ty with
  | non=>cases (show u = Value.none from rx);exact PySem.W.kia_one PySem.W.kitx_none I.kIn True.intro e (fun z=>nomatch z) h
  | bl y=>cases (show u = Value.bool y from rx);exact PySem.W.kia_one PySem.W.kitx_bool I.kIn True.intro e (fun z=>nomatch z) h
  | int i=>obtain ⟨t,q⟩:=(show ∃ t,u = Value.int i t from rx);cases q;exact PySem.W.kia_one PySem.W.kitx_int I.kIn True.intro e (fun z=>nomatch z) h
  | str y=>obtain ⟨t,q⟩:=(show ∃ t,u = Value.str y t from rx);cases q;exact PySem.W.kia_one PySem.W.kitx_str I.kIn True.intro e (fun z=>nomatch z) h
  | flt y=>obtain ⟨t,q⟩:=(show ∃ t,u = Value.float y t from rx);cases q;exact PySem.W.kia_one PySem.W.kitx_float I.kIn True.intro e (fun z=>nomatch z) h
  | @lst a xs ea =>
    cases (show u = Value.ref a from rx)
    obtain ⟨_,_,n,_,h1⟩:=(show ObjOk X.prog X.w H s.heap a (.lst xs) from I.hok a _ ea)
    exact PySem.W.kia_one PySem.W.kitx_list I.kIn ⟨_,h1,rfl⟩ e (fun z=>nomatch z) h
  | @frz a ob xs ea =>
    cases (show u = Value.ref a from rx)
    obtain ⟨_,_,_,n,_,h1⟩:=(show ObjOk X.prog X.w H s.heap a (.frz ob (.lst xs)) from I.hok a _ ea)
    exact PySem.W.kia_one PySem.W.kitx_list I.kIn ⟨_,h1,rfl⟩ e (fun z=>nomatch z) h
  | @tup a xs ea =>
    cases (show u = Value.ref a from rx)
    obtain ⟨_,_,_,p⟩:=(show ObjOk X.prog X.w H s.heap a (.tup xs) from I.hok a _ ea)
    obtain ⟨o,h1,h2,_⟩:=p.1
    exact PySem.W.kia_one PySem.W.kitx_tuple I.kIn ⟨o,h1,h2⟩ e (fun z=>nomatch z) h
  | @dK a kvs ea =>
    cases (show u = Value.ref a from rx)
    obtain ⟨_,_,vs,_,p⟩:=(show ObjOk X.prog X.w H s.heap a (.dK kvs) from I.hok a _ ea)
    obtain ⟨o,es,ep,h1,h2,_⟩:=p
    exact PySem.W.kia_one PySem.W.kitx_dict I.kIn ⟨o,h1,h2.1⟩ e (fun z=>nomatch z) h
  | @dT a kvs ea =>
    cases (show u = Value.ref a from rx)
    obtain ⟨_,_,xs,_,o,es,ep,h1,h2,_⟩:=(show ObjOk X.prog X.w H s.heap a (.dT kvs) from I.hok a _ ea)
    exact PySem.W.kia_one PySem.W.kitx_dict I.kIn ⟨o,h1,h2.1⟩ e (fun z=>nomatch z) h
  | @ins a C dx fs ea cl ha hn htk hm =>
    cases (show u = Value.ref a from rx)
    obtain ⟨mA,O,_⟩:=ins_get I.hok ea
    obtain ⟨od,J,_⟩:=O.look
    exact PySem.W.kia_one (PySem.W.kitx_own (cl.get _) cl.hd ha hn htk hm) I.kIn J e (fun z=>nomatch z) h
end
structure Room (k : Nat) (A : Around) : Prop where
  hd : A.handled = none
  dp : A.depth + 3 * k + 5 < recursionLimit
  un : A.units + 16 * k + 200 < cLine
  gd : A.guards = some []
theorem Room.mono {j k : Nat} {A : Around} (r : Room k A) (h : j≤k) : Room j A:=⟨r.hd,by have:=r.dp;omega,by have:=r.un;omega,r.gd⟩
theorem Room.deeper {k : Nat} {A : Around} (r : Room (k + 1) A) (env : Env) : Room k (A.deeper env) :=
  ⟨r.hd,by have:=r.dp;show A.depth + 1 + 3 * k + 5 < _;omega,by have:=r.un;show A.units + 3 + 16 * k + 200 < _;omega,r.gd⟩
theorem Room.depth {k : Nat} {A : Around} (r : Room k A) : A.depth < recursionLimit:=by have:=r.dp;omega
theorem Room.units {k : Nat} {A : Around} (r : Room k A) : A.units + 64 < cLine:=by have:=r.un;omega
def tNil : TA:=fun _ H Q=>Q [] H
def tCons (ta : TE) (tr : TA) : TA:=fun σ H Q=>ta σ H fun x H1=>tr σ H1 fun xs H2=>Q (x :: xs) H2
section
variable {X : Cx} {e : Expr} {es : List Expr} {te : TE} {t : TA} {pos : Pos}
theorem pa_nil : PA X [] tNil:=.mk <| fun _ _ _ _ H Q I h=>Calls.spliced_nil ⟨[],H,I,.nil,h⟩
theorem pa_cons (ha : PE X e te) (hr : PA X es t) (hs : starEach (e :: es) X.env = (false,eval e X.env) :: starEach es X.env:=by rfl) : PA X (e :: es) (tCons te t):=.mk <| by
  intro pos pins s σ H Q I h
  rw [hs]
  show wpAny _ _ (spliced ((false,eval e X.env) :: backTo pos (starEach es X.env))) _ _ s
  refine Calls.spliced_cons (thn (ha pins s σ H _ I h) fun u s1 ⟨x,H1,I1,r1,q1⟩=>?_)
  exact thn (hr pos pins s1 σ H1 _ I1 q1) fun us s2 ⟨xs,H2,I2,r2,q2⟩=>⟨x :: xs,H2,I2,.cons r1 r2,q2⟩
def tTup (t : TA) : TE:=fun σ H Q=>t σ H fun xs H1=>xs.length≤sizeLine∧∀ p,H1 p = none→Q (.ref p) (upd H1 p (.tup xs))
def tLst (t : TA) : TE:=fun σ H Q=>t σ H fun xs H1=>xs.length≤sizeLine∧∀ p,H1 p = none→Q (.ref p) (upd H1 p (.lst xs))
theorem pe_tup {x1} (h : PA X es t) : PE X (.Tuple es x1 pos) (tTup t):=.mk <| by
  intro pins s σ H Q I hq
  refine wpAny_Tuple_spliced (thn (h pos pins s σ H _ I hq) fun us s1 ⟨xs,H1,I1,r,z,q⟩=>⟨by rw [← r.length];exact z,?_⟩)
  have hf : H1 s1.heap.objs.size = none:=I1.hok.fresh (Nat.le_refl _)
  refine ⟨.ref s1.heap.objs.size,upd H1 s1.heap.objs.size (.tup xs),I1.laid (t':=s1.toks) (fun b u e=>Heap.get?_push_of_some _ e) (Nat.le_refl _) ?_,rfl,q _ hf⟩
  exact ⟨z,us,r,⟨_,Heap.get?_push_size _ rfl,rfl,_,rfl⟩,_,Heap.get?_push_size _ rfl,rfl⟩
theorem pe_lst (h : PA X es t) : PE X (.List es pos) (tLst t):=.mk <| by
  intro pins s σ H Q I hq
  refine wpAny_List_spliced (thn (h pos pins s σ H _ I hq) fun us s1 ⟨xs,H1,I1,r,z,q⟩=>⟨by rw [← r.length];exact z,?_⟩)
  have hf : H1 s1.heap.objs.size = none:=I1.hok.fresh (Nat.le_refl _)
  refine ⟨.ref s1.heap.objs.size,upd H1 s1.heap.objs.size (.lst xs),I1.laid (t':=s1.toks) (fun b u e=>Heap.get?_push_of_some _ e) (Nat.le_refl _) ?_,rfl,q _ hf⟩
  exact ⟨z,us,0,r,Heap.get?_push_size _ rfl⟩
end
abbrev Sp:=List V→Hp→VK→XK→Prop
abbrev CXT:=List Env→Hp→Shared→XK→Value→Shared→Prop
structure Env0 (P : Program) (w : World) (K : PySem.W.Frag) (mg : Str→Option Value) (base : Heap) (A : Around) (outer : List Env) (s : Shared) (H : Hp) : Prop where
  frames : A.frames = some outer
  mod : Mod K mg base
  bs : ∀ b o,base.get? b = some o→s.heap.get? b = some o∧H b = none
  bsz : base.objs.size≤s.heap.objs.size
  funs : s.heap.FunFrames base outer
  frf : ∀ b∈frs outer,H b = none
  tt : TabT K H
  hok : HOk P w H s.heap
  bare : AllBare s.gens
def CE (outer : List Env) (P : Program) (w : World) (H : Hp) (s : Shared) (Q : VK) (u : Value) (s' : Shared) : Prop :=
  ∃ v H',s'.os = s.os∧AllBare s'.gens∧Un (frs outer) [] H H' s.heap s'.heap∧HOk P w H' s'.heap∧RelV v u∧Q v H'
def CR (CX : CXT) (outer : List Env) (P : Program) (w : World) (H : Hp) (s : Shared) (Q : VK) (E : XK) (r : Result) (s' : Shared) : Prop :=
  match r with
  | .ok (.ret u)=>CE outer P w H s Q u s'
  | .ok _=>False
  | .error e=>CX outer H s E e s'
structure FnOk (P : Program) (w : World) (K : PySem.W.Frag) (mg : Str→Option Value) (base : Heap) (CX : CXT) (k : Nat) (f : Addr) (fd : FuncData) (ps : List Str) (sp : Sp) : Prop where
  len : ∀ vs H Q E,sp vs H Q E→vs.length = ps.length
  run : ∀ (A : Around) (outer : List Env) (s : Shared) (H : Hp) (args : Args) (us : List Value) (vs : List V) (Q : VK) (E : XK),Room k A→Env0 P w K mg base A outer s H→BindsTo s fd args (ps.zip us)→Vals vs us→sp vs H Q E →
    codeAny (model P w) A (.call (.ref f) args) (CR CX outer P w H s Q E) s
section
variable {X : Cx} {pins : List (Addr × Obj)} {σ : St} {H : Hp} {s s' : Shared}
theorem Inv.env0 (I : Inv X pins σ H s) : Env0 X.prog X.w X.K X.mg X.base X.A X.stack s H :=
  ⟨I.ok.frames,I.ok.mod,I.bs,Nat.le_trans I.ok.bsz I.sz,I.stack,I.stkFree,I.ok.tt.mono I.base.tbls,I.hok,I.bare⟩
theorem Inv.after {Q : VK} {u : Value} (I : Inv X pins σ H s) (h : CE X.stack X.prog X.w H s Q u s') : EP X pins σ Q u s':=by
  obtain ⟨v,H',os,bare,un,hok,r,q⟩:=h
  obtain ⟨hh,g,d,t,os'⟩:=s'
  obtain rfl : os' = s.os:=os
  exact ⟨v,H',I.call (h':=hh) (g':=g) (d':=d) (t':=t) (ch:=[]) un hok bare (fun b z=>absurd z (by simp)),r,q⟩
end
def tCall (sp : Sp) (dvs : List V) (E : XK) (t : TA) : TE:=fun σ H Q=>t σ H fun vs H1=>sp (vs ++ dvs) H1 Q E
def Binds (K : PySem.W.Frag) (fd : FuncData) (ps : List Str) (ds : List Value) : Prop :=
  ∀ (s : Shared) (us : List Value),K.In s.heap→(us ++ ds).length = ps.length→BindsTo s fd ⟨us,[]⟩ (ps.zip (us ++ ds))
theorem Binds.all {K : PySem.W.Frag} {fd : FuncData} {ps : List Str} (h : ∀ us : List Value,us.length = ps.length→bindArgs fd ⟨us,[]⟩ = pure (ps.zip us)) : Binds K fd ps []:=fun s us _ hl=>by
  rw [List.append_nil] at hl ⊢
  exact .of_eq (h us hl)
def Passes (CX : CXT) (X : Cx) (E : XK) : Prop:=∀ (pins : List (Addr × Obj)) (σ : St) (H : Hp) (s : Shared) (e : Value) (s' : Shared),Inv X pins σ H s→CX X.stack H s E e s'→X.xe e s'
section
variable {X : Cx} {CX : CXT} {k : Nat} {f C : Addr} {fd : FuncData} {ps : List Str} {sp : Sp} {dvs : List V} {ds : List Value} {E : XK} {x m : Str} {p pos apos : Pos} {e o : Expr} {es : List Expr} {ta : TE} {t : TA}
theorem run_fn {pins : List (Addr × Obj)} {σ : St} {H : Hp} {s : Shared} {Q : VK} {us : List Value} {vs : List V} (F : FnOk X.prog X.w X.K X.mg X.base CX k f fd ps sp) (hr : Room k X.A) (hb : Binds X.K fd ps ds) (hd : Vals dvs ds) (hx : Passes CX X E)
    (I : Inv X pins σ H s) (r : Vals vs us) (h : sp (vs ++ dvs) H Q E) : wpAny (model X.prog X.w) X.A (call (.ref f) us) (EP X pins σ Q) X.xe s:=by
  have r2 : Vals (vs ++ dvs) (us ++ ds):=r.append hd
  have hl : (us ++ ds).length = ps.length:=by rw [← r2.length];exact F.len _ _ _ _ h
  refine wpAny_call (codeAny_mono (F.run X.A X.stack s H ⟨us,[]⟩ (us ++ ds) (vs ++ dvs) Q E hr I.env0 (hb s us I.kIn hl) r2 h) fun r s' hq=>?_)
  cases r with
  | error e=>exact hx pins σ H s e s' I hq
  | ok fl =>
    cases fl with
    | ret u=>exact I.after hq
    | next=>exact False.elim hq
    | brk=>exact False.elim hq
    | cont=>exact False.elim hq
theorem pe_call (F : FnOk X.prog X.w X.K X.mg X.base CX k f fd ps sp) (hr : Room k X.A) (hg : Gl X x) (hm : X.mg x = some (.ref f)) (hk : PySem.W.keepIn X.K (.ref f) = true) (hb : Binds X.K fd ps ds) (hd : Vals dvs ds) (hx : Passes CX X E)
    (ha : PA X (e :: es) t) (hdb : (x == ("__debug__" : Str)) = false:=by decide) (he : starEach (e :: es) X.env = (false,eval e X.env) :: starEach es X.env:=by rfl) (hpl : (backTo pos (starEach es X.env)).any (·.1) = false:=by rfl) :
    PE X (.Call (.Name x p) (e :: es) [] pos) (tCall sp dvs E t):=.mk <| by
  intro pins s σ H Q I h
  refine wpAny_Call_Name_kw (ld_glob I hg hm ?_ hdb)
  refine PySem.W.callWith_K (h₀:=X.base) I.ok.mod.kin hk (thn (ha pos pins s σ H _ I h) fun us s1 ⟨vs,H1,I1,r,q⟩=>⟨I1.kIn,?_⟩) he hpl
  exact run_fn F hr hb hd hx I1 r q
structure Mk (K : PySem.W.Frag) (C f : Addr) : Prop where
  makes : PySem.W.makesIn K C = true
  init : PySem.W.findIn K (.ref C) "__init__" = some (some (.ref f))
  fn : PySem.W.isFn K (.ref f) = true
  kp : PySem.W.keepIn K (.ref C) = true
end
section
variable {X : Cx} {CX : CXT} {k : Nat} {f C : Addr} {fd : FuncData} {ps ks : List Str} {sp : Sp} {E : XK} {x m : Str} {p pos apos kpos : Pos} {e o : Expr} {es : List Expr} {kws : List Keyword} {te ta : TE} {t tk : TA} {nm : Option Str}
structure KBinds (K : PySem.W.Frag) (fd : FuncData) (ps ks : List Str) (g : List Value→List Value→List Value) (gV : List V→List V→List V) : Prop where
  to : ∀ (s : Shared) (us ws : List Value),K.In s.heap→(g us ws).length = ps.length→BindsTo s fd ⟨us,ks.zip ws⟩ (ps.zip (g us ws))
  rel : ∀ {vs : List V} {us : List Value} {zs : List V} {ws : List Value},Vals vs us→Vals zs ws→Vals (gV vs zs) (g us ws)
variable {g : List Value→List Value→List Value} {gV : List V→List V→List V}
end
structure FnScope (N P : List Str) (sc : Scope) : Prop where
  kind : sc.kind = .function
  co : sc.isCoroutine = false
  gen : sc.isGenerator = false
  nd : N.Nodup
  pre : N.take P.length = P
  par : ∀ x∈P,sc.names.lookup x = some .local∨sc.names.lookup x = some .cell
  nofree : ∀ y∈sc.names,y.2≠.free
theorem bindL_out {kindOf : Str→Option NameKind} {x : Str} : ∀ {binds : List (Str × Value)} {m : Str→Option Value},(∀ v,(x,v) ∉ binds)→bindL kindOf binds m x = m x
  | [],_,_=>rfl
  | (n,v) :: r,m,h=>by
    unfold bindL
    rw [bindL_out fun w hw=>h w (List.mem_cons_of_mem _ hw)]
    split
    · have : x≠n:=by rintro rfl;exact h v List.mem_cons_self
      simp [this]
    · rfl
theorem bindC_out {kindOf : Str→Option NameKind} {x : Str} : ∀ {binds : List (Str × Value)} {m : Str→Option Value},(∀ v,(x,v) ∉ binds)→bindC kindOf binds m x = m x
  | [],_,_=>rfl
  | (n,v) :: r,m,h=>by
    unfold bindC
    rw [bindC_out fun w hw=>h w (List.mem_cons_of_mem _ hw)]
    split
    · rfl
    · have : x≠n:=by rintro rfl;exact h v List.mem_cons_self
      simp [this]
theorem bindL_get {kindOf : Str→Option NameKind} {x : Str} {v : Value} : ∀ {P : List Str} {vs : List Value} {i : Nat} {m : Str→Option Value},P.Nodup→P[i]? = some x→vs[i]? = some v→kindOf x = some .local →
    bindL kindOf (P.zip vs) m x = some v
  | [],_,_,_,_,h,_,_=>by simp at h
  | _ :: _,[],_,_,_,_,h,_=>by simp at h
  | p :: P,w :: vs,0,m,nd,h1,h2,hk=>by
    simp at h1 h2;subst h1;subst h2
    show bindL kindOf ((p,w) :: P.zip vs) m p = _
    unfold bindL
    rw [bindL_out fun v hv=>(List.nodup_cons.mp nd).1 (List.of_mem_zip hv).1,if_pos hk]
    simp
  | p :: P,w :: vs,i + 1,m,nd,h1,h2,hk=>by
    show bindL kindOf ((p,w) :: P.zip vs) m x = _
    unfold bindL
    exact bindL_get (i:=i) (List.nodup_cons.mp nd).2 (by simpa using h1) (by simpa using h2) hk
theorem bindC_get {kindOf : Str→Option NameKind} {x : Str} {v : Value} : ∀ {P : List Str} {vs : List Value} {i : Nat} {m : Str→Option Value},P.Nodup→P[i]? = some x→vs[i]? = some v→kindOf x≠some .local →
    bindC kindOf (P.zip vs) m x = some v
  | [],_,_,_,_,h,_,_=>by simp at h
  | _ :: _,[],_,_,_,_,h,_=>by simp at h
  | p :: P,w :: vs,0,m,nd,h1,h2,hk=>by
    simp at h1 h2;subst h1;subst h2
    show bindC kindOf ((p,w) :: P.zip vs) m p = _
    unfold bindC
    rw [bindC_out fun v hv=>(List.nodup_cons.mp nd).1 (List.of_mem_zip hv).1,if_neg hk]
    simp
  | p :: P,w :: vs,i + 1,m,nd,h1,h2,hk=>by
    show bindC kindOf ((p,w) :: P.zip vs) m x = _
    unfold bindC
    exact bindC_get (i:=i) (List.nodup_cons.mp nd).2 (by simpa using h1) (by simpa using h2) hk
def start (N : List Str) (vs : List V) : St:=vs.map some ++ List.replicate (N.length - vs.length) none
def cxOf (CX : CXT) (P : Program) (w : World) (K : PySem.W.Frag) (mg : Str→Option Value) (base : Heap) (N : List Str) (qual : Str) (scope : Scope) (f : Addr) (cd : Value) (A : Around) (outer : List Env) (s : Shared) (H : Hp) (E : XK) : Cx where
  prog:=P
  w:=w
  K:=K
  mg:=mg
  base:=base
  A:=A.deeper (envOfC qual scope s.heap.objs.size f cd)
  N:=N
  s₀:=s
  H₀:=H
  env:=envOfC qual scope s.heap.objs.size f cd
  outer:=outer
  stack:=envOfC qual scope s.heap.objs.size f cd :: outer
  ex:=[]
  calm:=true
  fn:=fun _=>true
  pn:=[]
  xe:=fun e s'=>wpAny (model P w) (A.deeper (envOfC qual scope s.heap.objs.size f cd)) (leaving (envOfC qual scope s.heap.objs.size f cd) e) (fun _ s''=>CX outer H s E e s'') (fun e' s''=>CX outer H s E e' s'') s'
theorem cell_has {sc : Scope} {n : Nat} {x : Str} (h : sc.names.lookup x = some .cell) : ∃ c,(cellsFrom n sc.names []).lookup x = some c:=by
  have q:=PySem.W.cellsFrom_some sc.names n [] (.inl h)
  exact Option.isSome_iff_exists.mp q
theorem inv_start {CX : CXT} {P : Program} {w : World} {K : PySem.W.Frag} {mg : Str→Option Value} {base : Heap} {N ps : List Str} {qual : Str} {scope : Scope} {f : Addr} {cd : Value} {A : Around} {outer : List Env} {s s1 : Shared} {H : Hp} {E : XK} {us : List Value} {vs : List V}
    (S : FnScope N ps scope) (hd : A.handled = none) (e0 : Env0 P w K mg base A outer s H) (hl : vs.length = ps.length) (r : Vals vs us)
    (x : InCallC s s.heap.objs.size (bindL (envOfC qual scope s.heap.objs.size f cd).kindOf (ps.zip us) fun _=>none) (cellsFrom (s.heap.objs.size + 1) scope.names []) (bindC (envOfC qual scope s.heap.objs.size f cd).kindOf (ps.zip us) fun _=>none) s1) :
    Inv (cxOf CX P w K mg base N qual scope f cd A outer s H E) [] (start N vs) H s1:=by
  have hpl : ps.length≤N.length:=by have:=congrArg List.length S.pre;rw [List.length_take] at this;omega
  obtain ⟨h1,tk,rfl,hk⟩:=x.done
  have noA : ∀ b : Addr,b ∉ (cxOf CX P w K mg base N qual scope f cd A outer s H E).ex:=fun b z=>absurd (show b∈([] : List Addr) from z) (by simp)
  refine ⟨⟨e0.mod,S.kind,rfl,rfl,Nat.le_refl _,fun y z c h1 h2=>?_,fun y hy=>?_,fun y c _ h=>?_,fun _=>hd,Around.frames_deeper e0.frames,.inr ⟨rfl,rfl⟩,fun b z=>absurd z (noA b),e0.bs,e0.bsz,fun b _ _=>noA b,fun b z=>absurd z (noA b),e0.funs,e0.frf,e0.tt⟩,
    rfl,e0.bare,Un.kept hk,⟨_,x.toInCall.ns,fun i y v h1 h2 h3=>?_⟩,fun y c h=>⟨_,x.cell y c h⟩,e0.hok.fresh (Nat.le_refl _),fun y c h=>?_,fun p hp=>absurd (show p∈([] : List (Addr × Obj)) from hp) (by simp),e0.hok.kept hk,?_⟩
  · exact name_of_addr x.apart (PySem.mem_of_lookup h1) (PySem.mem_of_lookup h2)
  · have hy : scope.names.lookup y = some .cell∨scope.names.lookup y = some .free:=hy
    rcases hy with hy | hy
    · exact cell_has hy
    · exact absurd rfl (S.nofree _ (PySem.mem_of_lookup hy))
  · exact Nat.le_of_lt (x.above y c (PySem.mem_of_lookup h))
  · have hi : i < vs.length:=by
      unfold start at h2
      by_cases hi : i < vs.length
      · exact hi
      · rw [List.getElem?_append_right (by simpa using hi)] at h2
        rw [List.getElem?_replicate] at h2
        split at h2<;>cases h2
    have ha : vs[i]? = some v:=by
      unfold start at h2
      rw [List.getElem?_append_left (by simpa using hi),List.getElem?_map] at h2
      cases e : vs[i]? with
      | none=>rw [e] at h2;cases h2
      | some a=>rw [e] at h2;cases h2;rfl
    obtain ⟨u,hu,rv⟩:=r.get ha
    have hp : ps[i]? = some y:=by
      rw [← S.pre,List.getElem?_take_of_lt (by omega)];exact h1
    have ndP : ps.Nodup:=by rw [← S.pre];exact S.nd.sublist (List.take_sublist _ _)
    refine ⟨u,rv,?_⟩
    rcases S.par y (List.mem_of_getElem? hp) with k | k
    · exact .inl ⟨k,bindL_get ndP hp hu k⟩
    · obtain ⟨c,e⟩:=cell_has (n:=s.heap.objs.size + 1) k
      refine .inr ⟨.inl k,c,e,?_⟩
      have q:=x.cell y c e
      rw [bindC_get ndP hp hu (by show scope.names.lookup y≠_;rw [k];decide)] at q
      exact q
  · exact e0.hok.fresh (Nat.le_of_lt (x.above y c (PySem.mem_of_lookup h)))
  · unfold start
    show _ = N.length
    rw [List.length_append,List.length_map,List.length_replicate]
    omega
theorem fn_of {CX : CXT} {P : Program} {w : World} {K : PySem.W.Frag} {mg : Str→Option Value} {base : Heap} {k : Nat} {f : Addr} {name qual : Str} {params : Arguments} {body : List Stmt} {scope : Scope} {dV kV doc pm cdv ct oc : Value} {an od : Option Addr}
    {osl : Array (Option Value)} {N ps : List Str} {sp : Sp} (lk : K.lookup f = some ⟨oc,od,.func (PySem.W.fnOf name qual params body scope dV kV doc pm an cdv ct),osl⟩) (hcd : PySem.W.codeIn K cdv qual = true) (S : FnScope N ps scope)
    (len : ∀ vs H Q E,sp vs H Q E→vs.length = ps.length)
    (hbody : ∀ (A : Around) (outer : List Env) (s : Shared) (H : Hp) (vs : List V) (Q : VK) (E : XK),Room k (A.deeper (envOfC qual scope s.heap.objs.size f cdv))→sp vs H Q E →
      ∃ t,PSs (cxOf CX P w K mg base N qual scope f cdv A outer s H E) body t∧t { nx:=fun _ H'=>Q .non H',rt:=Q } (start N vs) H) :
    FnOk P w K mg base CX (k + 1) f (PySem.W.fnOf name qual params body scope dV kV doc pm an cdv ct) ps sp:=by
  refine ⟨len,fun A outer s H args us vs Q E hr e0 hb r hsp=>?_⟩
  have hl:=len _ _ _ _ hsp
  have KX : K.In s.heap:=e0.mod.kin.keeps fun b o e=>(e0.bs b o e).1
  have lim : s.heap.NoLimit:=e0.mod.nolimit.keeps fun b o e=>(e0.bs b o e).1
  have hkind : ∀ y∈ps.zip us,scope.names.lookup y.1 = some .local∨(scope.names.lookup y.1 = some .cell∧((cellsFrom (s.heap.objs.size + 1) scope.names []).lookup y.1).isSome = true):=fun ⟨n,v⟩ hy=>by
    rcases S.par n (List.of_mem_zip hy).1 with q | q
    · exact .inl q
    · exact .inr ⟨q,PySem.W.cellsFrom_some _ _ _ (.inl q)⟩
  refine codeAny_call_function hr.depth (KX _ _ lk) rfl S.co S.gen rfl (PySem.W.codeRec_of KX hcd) (hb _ _ _ _ ?_)
  refine wpAny_newFunctionEnv_cells S.kind hkind fun env he s1 x=>?_
  subst he
  refine ⟨lim.keeps x.toInCall.keep,codeAny_func ?_⟩
  obtain ⟨t,ht,hq⟩:=hbody A outer s H vs Q E (hr.deeper _) hsp
  have I : Inv (cxOf CX P w K mg base N qual scope f cdv A outer s H E) [] (start N vs) H s1:=inv_start S hr.hd e0 hl r x
  refine wpAny_mono (ht [] s1 (start N vs) H _ I hq) (fun fl s' hs=>?_) fun e s' hs=>hs
  have fin : ∀ {σ' : St} {H' : Hp} {v : V} {u : Value},Inv (cxOf CX P w K mg base N qual scope f cdv A outer s H E) [] σ' H' s'→RelV v u→Q v H'→CE outer P w H s Q u s' :=
    fun {σ' H' v u} J rv q=>⟨v,H',J.os,J.bare,J.base,J.hok,rv,q⟩
  cases fl with
  | ret u =>
    obtain ⟨v,σ',H',J,rv,q⟩:=hs
    exact fin J rv q
  | next =>
    obtain ⟨σ',H',J,q⟩:=hs
    exact fin (v:=V.non) (u:=Value.none) J rfl q
  | brk =>
    obtain ⟨_,_,_,q⟩:=hs
    exact False.elim q
  | cont =>
    obtain ⟨_,_,_,q⟩:=hs
    exact False.elim q
section
variable {X : Cx} {x : Str} {p pos : Pos} {e : Expr} {es : List Expr} {t : TA} {id T : String} {r : List V→Hp→VK→Prop}
def tCB (r : List V→Hp→VK→Prop) (t : TA) : TE:=fun σ H Q=>t σ H fun vs H1=>r vs H1 Q
theorem pe_callB (hc : CallR X (.builtin id) r) (hg : Gl X x) (hm : X.mg x = none) (hv : bootBuiltins x = some (.builtin id)) (ha : PA X (e :: es) t) (hn : x≠"__name__":=by decide) (hdb : (x == ("__debug__" : Str)) = false:=by decide)
    (he : starEach (e :: es) X.env = (false,eval e X.env) :: starEach es X.env:=by rfl) (hpl : (backTo pos (starEach es X.env)).any (·.1) = false:=by rfl) : PE X (.Call (.Name x p) (e :: es) [] pos) (tCB r t):=.mk <| by
  intro pins s σ H Q I h
  refine wpAny_Call_Name_kw (ld_blt I hg hm hv ?_ hn hdb)
  exact PyProof.Rows.callWith_builtin1 (thn (ha pos pins s σ H _ I h) fun us s1 ⟨vs,H1,I1,r1,q1⟩=>hc pins s1 σ H1 vs us Q I1 r1 q1) he hpl
theorem pe_callTy (hc : CallR X (.type T) r) (hg : Gl X x) (hm : X.mg x = none) (hv : bootBuiltins x = some (.type T)) (ha : PA X (e :: es) t) (hn : x≠"__name__":=by decide) (hdb : (x == ("__debug__" : Str)) = false:=by decide)
    (he : starEach (e :: es) X.env = (false,eval e X.env) :: starEach es X.env:=by rfl) (hpl : (backTo pos (starEach es X.env)).any (·.1) = false:=by rfl) : PE X (.Call (.Name x p) (e :: es) [] pos) (tCB r t):=.mk <| by
  intro pins s σ H Q I h
  refine wpAny_Call_Name_kw (ld_blt I hg hm hv ?_ hn hdb)
  exact PyProof.Rows.callWith_type1 (thn (ha pos pins s σ H _ I h) fun us s1 ⟨vs,H1,I1,r1,q1⟩=>hc pins s1 σ H1 vs us Q I1 r1 q1) he hpl
end
end L2
namespace HT
open PySem PyProof.Rows
section
open PySem.SeqAt
open PySem.AutoSeq1 (wpAny_loadPart')
open PySem.MeetsSeq PySem.MeetsSeq2 PySem.MeetsSeq3
end
section
variable {prog : Program} {w : World} {A : Around} {E : Value→Shared→Prop} {s : Shared}
theorem cat_tup {t b : Addr} {vs ws : List Value} {Q : Value→Shared→Prop} (ht : IsTup s.heap t vs.toArray) (hb : IsTup s.heap b ws.toArray) (hv : vs≠[])
    (h1 : ws = []→Q (.ref t) s) (h2 : ws≠[]→Q (.ref s.heap.objs.size) { s with heap:=s.heap.push { cls:=.type "tuple",data:=.seq (vs ++ ws).toArray } })
    (hsz : vs.length + ws.length≤sizeLine) : wpAny (model prog w) A (binaryOp .Add (.ref t) (.ref b)) Q E s:=by
  obtain ⟨⟨cls,dd,data,sl⟩,ho,hc,n,hd⟩:=id ht
  obtain ⟨⟨cls2,dd2,data2,sl2⟩,ho2,hc2,n2,hd2⟩:=id hb
  simp only at hc hd hc2 hd2
  subst hc hd hc2 hd2
  have e : vs.toArray ++ ws.toArray = (vs ++ ws).toArray:=by simp
  by_cases hw : ws = []
  · exact concat_meets ⟨_,ho,rfl⟩ ⟨_,ho2,rfl⟩ noFill_tuple_add seq_tuple_add PySem.F.slot_tuple_add PySem.F.entry_tuple_add (PySem.F.args_tuple_add_2 _ _)
      (tuple_addW1 t b vs.toArray ws.toArray n n2 dd dd2 sl sl2 (by simpa using hv) (by simp [hw])) ⟨ho,ho2,h1 hw⟩
  · refine concat_meets ⟨_,ho,rfl⟩ ⟨_,ho2,rfl⟩ noFill_tuple_add seq_tuple_add PySem.F.slot_tuple_add PySem.F.entry_tuple_add (PySem.F.args_tuple_add_2 _ _)
      (tuple_addW2 t b vs.toArray ws.toArray n n2 dd dd2 sl sl2 (by simpa using hv) (by simpa using hw) (by rw [List.size_toArray,List.size_toArray];exact hsz)) ⟨ho,ho2,?_⟩
    rw [e]
    exact h2 hw
end
end HT
namespace L2
open PySem PySem.Spec PyProof.Rows
abbrev TO:=St→Hp→(Option Int→Hp→Prop)→Prop
theorem intsAre_of {ns : List Int} : ∀ {us : List Value},Vals (ns.map V.int) us→IntsAre us ns:=by
  induction ns with
  | nil=>intro us r;rw [List.map_nil] at r;cases r;exact .nil
  | cons n ns ih =>
    intro us r
    rw [List.map_cons] at r
    cases r with
    | cons r1 r2 =>
      obtain ⟨t,e⟩:=r1
      subst e
      exact .cons n t (ih r2)
section
variable {X : Cx} {e : Expr} {te : TE} {lo hi : Option Expr} {tl th : TO} {pos p2 : Pos}
def rCatT (K : PySem.W.Frag) : R2:=fun x y H Q=>∃ a b xs ys,x = .ref a∧y = .ref b∧SqT K H a xs∧SqT K H b ys∧xs≠[]∧xs.length + ys.length≤sizeLine ∧
  (ys = []→Q (.ref a) H)∧(ys≠[]→∀ p,H p = none→Q (.ref p) (upd H p (.tup (xs ++ ys))))
theorem Vals.nil_iff {xs : List V} {us : List Value} (r : Vals xs us) : us = []↔xs = []:=by
  cases r with
  | nil=>simp
  | cons _ _=>simp
theorem op_catT : OpR X (binaryOp .Add) (rCatT X.K):=by
  intro pins s σ H x y v u Q I rx ry h
  obtain ⟨a,b,xs,ys,rfl,rfl,ha,hb,hx,hz,q1,q2⟩:=h
  cases rx
  cases ry
  obtain ⟨its,r1,p1,_⟩:=I.tuple ha
  obtain ⟨its2,r2,p2,_⟩:=I.tuple hb
  refine HT.cat_tup p1 p2 (fun z=>hx (r1.nil_iff.mp z)) (fun z=>⟨.ref a,H,I,rfl,q1 (r2.nil_iff.mp z)⟩) (fun z=>?_) (by rw [← r1.length,← r2.length];exact hz)
  refine ⟨.ref s.heap.objs.size,_,I.laid (t':=s.toks) (o:=.tup (xs ++ ys)) (fun b ob q=>Heap.get?_push_of_some _ q) (Nat.le_refl _) ?_,rfl,q2 (fun w=>z (r2.nil_iff.mpr w)) _ (I.hok.fresh (Nat.le_refl _))⟩
  exact ⟨by rw [List.length_append];exact hz,_,r1.append r2,TupD.new _ _⟩
end
def ixN (n : Nat) (i : Int) : Option Nat:=if 0≤i then (if i < n then some i.toNat else none) else if -(n : Int)≤i then some (i + n).toNat else none
def atI {α : Type} (xs : List α) (i : Int) : Option α:=(ixN xs.length i).bind fun j=>xs[j]?
theorem ixN_seq {n : Nat} {i : Int} {j : Nat} (h : ixN n i = some j) : seqIndex? i n = some j∧j < n∧-(n : Int)≤i∧i < n:=by
  unfold ixN at h
  by_cases h0 : 0≤i
  · rw [if_pos h0] at h
    by_cases h1 : i < n
    · rw [if_pos h1] at h
      have e : i.toNat = j:=Option.some.inj h
      exact ⟨by rw [seqIndex_of h0 h1,e],by omega,by omega,h1⟩
    · rw [if_neg h1] at h;cases h
  · rw [if_neg h0] at h
    by_cases h1 : -(n : Int)≤i
    · rw [if_pos h1] at h
      have e : (i + n).toNat = j:=Option.some.inj h
      exact ⟨by rw [seqIndex_neg (by omega) h1,e],by omega,h1,by omega⟩
    · rw [if_neg h1] at h;cases h
theorem atI_get {α : Type} {xs : List α} {i : Int} {v : α} (h : atI xs i = some v) : ∃ j,seqIndex? i xs.length = some j∧xs[j]? = some v∧j < xs.length∧-(xs.length : Int)≤i∧i < xs.length:=by
  unfold atI at h
  cases e : ixN xs.length i with
  | none=>rw [e] at h;cases h
  | some j =>
    rw [e] at h
    obtain ⟨h1,h2,h3,h4⟩:=ixN_seq e
    exact ⟨j,h1,h,h2,h3,h4⟩
theorem atI_nat {α : Type} {xs : List α} {j : Nat} {v : α} (h : xs[j]? = some v) : atI xs (j : Int) = some v:=by
  have hj : j < xs.length:=(List.getElem?_eq_some_iff.mp h).1
  have e : ixN xs.length (j : Int) = some j:=by
    unfold ixN
    rw [if_pos (by omega),if_pos (by omega)];simp
  unfold atI;rw [e];exact h
def PlainIx (b : Expr) : Prop:=∀ o i,subscripted b false o i = operate [o,i] (getItem o i)
def IxR (X : Cx) (r : R2) : Prop :=
  ∀ (value slice : Expr) (pins : List (Addr × Obj)) (s : Shared) (σ : St) (H : Hp) (x y : V) (v u : Value) (Q : VK),Inv X pins σ H s→RelV x v→RelV y u→r x y H Q →
    subscripted slice false v u = operate [v,u] (getItem v u)→wpAny (model X.prog X.w) X.A (subscriptTail value slice v u) (EP X pins σ Q) X.xe s
def MtR (X : Cx) (id : String) (r : V→List V→Hp→VK→Prop) : Prop :=
  ∀ (pins : List (Addr × Obj)) (s : Shared) (σ : St) (H : Hp) (x : V) (xs : List V) (v : Value) (us : List Value) (Q : VK),Inv X pins σ H s→RelV x v→Vals xs us→r x xs H Q →
    wpAny (model X.prog X.w) X.A (call (.builtin id) (v :: us)) (EP X pins σ Q) X.xe s
section
variable {X : Cx} {a b : Expr} {ta tb : TE} {pos : Pos}
theorem IxR.or {r r' : R2} (h : IxR X r) (h' : IxR X r') : IxR X (fun x y H Q=>r x y H Q∨r' x y H Q):=by
  intro value slice pins s σ H x y v u Q I rx ry q hs
  rcases q with q | q
  · exact h value slice pins s σ H x y v u Q I rx ry q hs
  · exact h' value slice pins s σ H x y v u Q I rx ry q hs
theorem pe_ix {r : R2} (hr : IxR X r) (ha : PE X a ta) (hb : PE X b tb) (hs : PlainIx b) : PE X (.Subscript a b pos) (tOp r ta tb):=.mk <| by
  intro pins s σ H Q I h
  exact Subscript_ (binT ha hb I h fun v u s2 x y H2 I2 rx ry q=>hr a b pins s2 σ H2 x y v u Q I2 rx ry q (hs _ _))
def rIxL (K : PySem.W.Frag) : R2:=fun x y H Q=>∃ p xs i v,x = .ref p∧y = .int i∧SqL K H p xs∧atI xs i = some v∧Q v H
def rIxT (K : PySem.W.Frag) : R2:=fun x y H Q=>∃ p xs i v,x = .ref p∧y = .int i∧SqT K H p xs∧atI xs i = some v∧Q v H
def rIxS : R2:=fun x y H Q=>∃ z i c,x = .str z∧y = .int i∧z.length≤sizeLine∧atI z.cps.toList i = some c∧Q (.str ⟨#[c]⟩) H
theorem ix_list : IxR X (rIxL X.K):=by
  intro value slice pins s σ H x y v u Q I rx ry h hs
  obtain ⟨p,xs,i,z,rfl,rfl,hq,he,q⟩:=h
  cases rx
  obtain ⟨t,rfl⟩:=ry
  obtain ⟨its,r,pl,hz⟩:=I.list hq
  obtain ⟨j,h1,h2,h3,h4,h5⟩:=atI_get he
  obtain ⟨w,ew,rw'⟩:=r.get h2
  have hl:=r.length
  have hn:=line63
  have fin : EP X pins σ Q w s:=⟨z,H,I,rw',q⟩
  by_cases h0 : 0≤i
  · have hj : i.toNat = j:=by
      rw [seqIndex_of h0 h5] at h1
      exact Option.some.inj h1
    exact item_listR pl.isList h0 (by omega) (by rw [hj];simpa using ew) fin hs
  · have hj : (i + (its.toArray.size : Int)).toNat = j:=by
      rw [seqIndex_neg (by omega) h4] at h1
      rw [List.size_toArray,← hl]
      exact Option.some.inj h1
    exact subscriptTail_builtinR (x:=w) pl.isList.typeIs slot_list_getitem.lookup
      (wpAny_getItem_list_neg (Q:=fun r s'=>r = w∧EP X pins σ Q r s') pl.isList (by omega) (by rw [List.size_toArray]<;>omega) (by omega) (by rw [hj];simpa using ew) ⟨rfl,fin⟩) hs
theorem ix_tup : IxR X (rIxT X.K):=by
  intro value slice pins s σ H x y v u Q I rx ry h hs
  obtain ⟨p,xs,i,z,rfl,rfl,hq,he,q⟩:=h
  cases rx
  obtain ⟨t,rfl⟩:=ry
  obtain ⟨its,r,pl,hz⟩:=I.tuple hq
  obtain ⟨j,h1,h2,h3,h4,h5⟩:=atI_get he
  obtain ⟨w,ew,rw'⟩:=r.get h2
  have hl:=r.length
  have hn:=line63
  have fin : EP X pins σ Q w s:=⟨z,H,I,rw',q⟩
  exact subscriptTail_builtinR (x:=w) pl.typeIs slot_tuple_getitem.lookup
    (getItem_tuple (j:=j) (Q:=fun r s'=>r = w∧EP X pins σ Q r s') pl (by omega) (by omega) (by rw [List.size_toArray,← hl];exact h1) (by simpa using ew) ⟨rfl,fin⟩) hs
theorem ix_str : IxR X rIxS:=by
  intro value slice pins s σ H x y v u Q I rx ry h hs
  obtain ⟨z,i,c,rfl,rfl,hz,he,q⟩:=h
  obtain ⟨t,rfl⟩:=rx
  obtain ⟨t',rfl⟩:=ry
  obtain ⟨j,h1,h2,h3,h4,h5⟩:=atI_get he
  have hl : z.cps.toList.length = z.length:=by simp [Str.length]
  rw [hl] at h1 h4 h5
  have hn:=line63
  exact tail_any (typeIs_str s z t) slot_str_getitem.lookup (getItem_str (c:=c) (by
    have e1 : decide (i < -(2 ^ 63 : Int)) = false:=decide_eq_false (by omega)
    have e2 : decide (i ≥ 2 ^ 63) = false:=decide_eq_false (by omega)
    rw [e1,e2,Bool.or_false]) (by rw [h1];simpa using h2) ⟨.str ⟨#[c]⟩,H,I.tok _,⟨_,rfl⟩,q⟩) hs
def rIx (K : PySem.W.Frag) : R2:=fun x y H Q=>rIxL K x y H Q∨rIxT K x y H Q∨rIxS x y H Q
theorem ix_seq : IxR X (rIx X.K):=ix_list.or (ix_tup.or ix_str)
theorem call_list_of : CallR X (.type "list") (fun xs H Q=>∃ p ys,xs = [.ref p]∧(SqL X.K H p ys∨SqT X.K H p ys)∧∀ l,H l = none→Q (.ref l) (upd H l (.lst ys))):=by
  intro pins s σ H xs us Q I r h
  obtain ⟨p,ys,rfl,hq,q⟩:=h
  obtain ⟨u,rfl,rx⟩:=vals1 r
  cases rx
  have fin : ∀ (its : List Value),Vals ys its→ys.length≤sizeLine→∀ (h' : Heap) (c' : Nat),(∀ b o',s.heap.get? b = some o'→h'.get? b = some o') →
      h'.get? s.heap.objs.size = some { cls:=.type "list",dict:=none,data:=.seq its.toArray c',slots:=#[] }→EP X pins σ Q (.ref s.heap.objs.size) { s with heap:=h' }:=fun its r' hz h' c' kp e =>
    ⟨.ref s.heap.objs.size,_,I.laid (t':=s.toks) kp (Nat.le_refl _) (show ObjOk X.prog X.w _ h' _ (.lst ys) from ⟨hz,its,c',r',e⟩),rfl,q _ (I.hok.fresh (Nat.le_refl _))⟩
  rcases hq with hq | hq
  · obtain ⟨its,r',pl,hz⟩:=I.list hq
    have hlen:=r'.length
    obtain ⟨o,ho,hc,n,hd⟩:=pl.isList
    exact call_list_seq p (.inl rfl) ho hc hd (fun h' c' kp e=>fin its r' hz h' c' kp e) (by simp only [List.size_toArray]<;>omega)
  · obtain ⟨its,r',pl,hz⟩:=I.tuple hq
    have hlen:=r'.length
    obtain ⟨o,ho,hc,n,hd⟩:=pl
    exact call_list_seq p (.inr rfl) ho hc hd (fun h' c' kp e=>fin its r' hz h' c' kp e) (by simp only [List.size_toArray]<;>omega)
theorem call_tuple_of : CallR X (.type "tuple") (fun xs H Q=>∃ p ys,xs = [.ref p]∧((SqL X.K H p ys∧∀ l,H l = none→Q (.ref l) (upd H l (.tup ys)))∨(SqT X.K H p ys∧Q (.ref p) H))):=by
  intro pins s σ H xs us Q I r h
  obtain ⟨p,ys,rfl,h⟩:=h
  obtain ⟨u,rfl,rx⟩:=vals1 r
  cases rx
  rcases h with ⟨hq,q⟩ | ⟨hq,q⟩
  · obtain ⟨its,r',pl,hz⟩:=I.list hq
    have hlen:=r'.length
    refine call_tuple_list pl.isList (fun h' kp=>?_) (by simp only [List.size_toArray]<;>omega)
    have I1 : Inv X pins σ H { s with heap:=h' }:=I.kept (t':=s.toks) kp
    have I2 : Inv X pins σ (upd H h'.objs.size (.tup ys)) { s with heap:=h'.push { cls:=.type "tuple",data:=.seq its.toArray } } :=
      I1.laid (t':=s.toks) (fun b o e=>Heap.get?_push_of_some _ e) (Nat.le_refl _) (show ObjOk X.prog X.w _ _ _ (.tup ys) from ⟨hz,its,r',TupD.new _ _⟩)
    exact ⟨.ref h'.objs.size,_,I2,rfl,q _ (I1.hok.fresh (Nat.le_refl _))⟩
  · obtain ⟨its,r',pl,hz⟩:=I.tuple hq
    exact call_tuple_same pl ⟨.ref p,H,I,rfl,q⟩
def tyV (K : PySem.W.Frag) (T : String) (x : V) (H : Hp) : Prop:=match x with
  | .str _=>T = "str"
  | .int _=>T = "int"
  | .ref p=>(T = "list"∧∃ xs,SqL K H p xs)∨(T = "tuple"∧∃ o,K.lookup p = some o∧o.cls = .type "tuple"∧o.dict = none) ∨
      (T = "dict"∧((∃ kvs,H p = some (.dK kvs))∨∃ kvs,H p = some (.dT kvs)))∨(T = "set"∧∃ S n,H p = some (.set S n))
  | _=>False
theorem tyV_is {pins : List (Addr × Obj)} {σ : St} {H : Hp} {s : Shared} {T : String} {x : V} {v : Value} (I : Inv X pins σ H s) (r : RelV x v) (ty : tyV X.K T x H) :
    s.TypeIs v T∧∀ a,v = .ref a→∃ ob,s.heap.get? a = some ob∧ob.dict = none:=by
  cases x with
  | str z =>
    obtain ⟨t,rfl⟩:=r
    cases (show T = "str" from ty)
    exact ⟨typeIs_str s z t,fun _ e=>nomatch e⟩
  | int i =>
    obtain ⟨t,rfl⟩:=r
    cases (show T = "int" from ty)
    exact ⟨typeIs_int s i t,fun _ e=>nomatch e⟩
  | ref p =>
    cases r
    rcases ty with ⟨rfl,xs,hq⟩ | ⟨rfl,o,hk,hc,hd⟩ | ⟨rfl,hk⟩ | ⟨rfl,S,n,hk⟩
    · obtain ⟨its,_,pl,_⟩:=I.list hq
      refine ⟨pl.isList.typeIs,fun a e=>?_⟩
      cases e
      obtain ⟨o,n,e,c,hd,_⟩:=pl
      exact ⟨o,e,hd⟩
    · refine ⟨⟨o,I.kIn p o hk,hc⟩,fun a e=>?_⟩
      cases e
      exact ⟨o,I.kIn _ o hk,hd⟩
    · have z : ∃ o,s.heap.get? p = some o∧o.ExactDict:=by
        rcases hk with ⟨kvs,hk⟩ | ⟨kvs,hk⟩
        · obtain ⟨_,_,_,_,o,_,_,e,ex,_⟩:=I.hok p _ hk
          exact ⟨o,e,ex⟩
        · obtain ⟨_,_,_,_,o,_,_,e,ex,_⟩:=I.hok p _ hk
          exact ⟨o,e,ex⟩
      obtain ⟨o,e,ex⟩:=z
      refine ⟨⟨o,e,ex.1⟩,fun a e2=>?_⟩
      cases e2
      exact ⟨o,e,ex.2.1⟩
    · obtain ⟨o,_,_,_,e,ex,_⟩:=I.hok p _ hk
      refine ⟨⟨o,e,ex.1⟩,fun a e2=>?_⟩
      cases e2
      exact ⟨o,e,ex.2.1⟩
  | _=>exact False.elim ty
def tBM0 (K : PySem.W.Frag) (T : String) (r : V→List V→Hp→VK→Prop) (to : TE) : TE:=fun σ H Q=>to σ H fun x H1=>tyV K T x H1∧r x [] H1 Q
def tBM (K : PySem.W.Frag) (T : String) (r : V→List V→Hp→VK→Prop) (to : TE) (t : TA) : TE:=fun σ H Q=>to σ H fun x H1=>tyV K T x H1∧t σ H1 fun xs H2=>r x xs H2 Q
variable {o e : Expr} {es : List Expr} {to : TE} {t : TA} {name : Str} {apos cpos : Pos} {T id : String} {r : V→List V→Hp→VK→Prop}
theorem pe_bm0 (pa : PlainAttrs T) (slot : Slot T name id) (hty : typeOf (.builtin id) = pure (.type "method_descriptor")) (hm : MtR X id r) (ho : PE X o to)
    (hbase : attributeBase o name X.env (eval o X.env) = eval o X.env:=by rfl) (hline : (apos.endLine == cpos.line) = true:=by rfl) : PE X (.Call (.Attribute o name apos) [] [] cpos) (tBM0 X.K T r to):=.mk <| by
  intro pins s σ H Q I h
  refine wpAny_Call_method0_late hbase hline (thn (ho pins s σ H _ I h) fun v s1 ⟨x,H1,I1,r1,ty,q1⟩=>?_)
  obtain ⟨h1,h2⟩:=tyV_is I1 r1 ty
  exact ⟨T,id,pa,slot,hty,h1,h2,Calls.callWith_builtin rfl (PySem.evalArgs_none (hm pins s1 σ H1 x [] v [] Q I1 r1 .nil q1))⟩
theorem pe_bm (pa : PlainAttrs T) (slot : Slot T name id) (hty : typeOf (.builtin id) = pure (.type "method_descriptor")) (hm : MtR X id r) (ho : PE X o to) (ha : PA X (e :: es) t)
    (hbase : attributeBase o name X.env (eval o X.env) = eval o X.env:=by rfl)
    (hfew : ((backTo cpos (starEach (e :: es) X.env)).all (fun x=>!x.1) && (backToKw cpos (keywordEach [] X.env)).all (fun x=>x.1.isSome)
      && decide ((e :: es).length + ([] : List Keyword).length + (if ([] : List Keyword).isEmpty then 0 else 1) < 30)) = true:=by rfl)
    (hline : (apos.endLine == cpos.line) = true:=by rfl) (hs : starEach (e :: es) X.env = (false,eval e X.env) :: starEach es X.env:=by rfl) (hplain : (backTo cpos (starEach es X.env)).any (·.1) = false:=by rfl) :
    PE X (.Call (.Attribute o name apos) (e :: es) [] cpos) (tBM X.K T r to t):=.mk <| by
  intro pins s σ H Q I h
  refine wpAny_Call_method_late hbase hfew hline rfl (thn (ho pins s σ H _ I h) fun v s1 ⟨x,H1,I1,r1,ty,q1⟩=>?_)
  obtain ⟨h1,h2⟩:=tyV_is I1 r1 ty
  refine ⟨T,id,pa,slot,hty,h1,h2,?_⟩
  have hA:=ha cpos pins s1 σ H1 _ I1 q1
  rw [hs] at hA ⊢
  refine Calls.callWith_builtin (by show (false || (backTo cpos (starEach es X.env)).any (·.1)) = false;rw [hplain]<;>rfl) (Calls.evalArgs_plain ?_)
  exact thn hA fun us s2 ⟨vs,H2,I2,r2,q2⟩=>hm pins s2 σ H2 x vs v us Q I2 r1 r2 q2
end
def MtM (X : Cx) (id : String) (r : V→List V→Hp→VK→Prop) : Prop :=
  ∀ (pins : List (Addr × Obj)) (s : Shared) (σ : St) (H : Hp) (x : V) (xs : List V) (v : Value) (us : List Value) (Q : VK),Inv X pins σ H s→RelV x v→Vals xs us→r x xs H Q →
    wpAny (model X.prog X.w) X.A (call (.builtin id) (v :: us)) (EP X pins σ Q) X.xe s
theorem Vals.one : ∀ {x : V} {us : List Value},Vals [x] us→∃ u,us = [u]∧RelV x u
  | _,_,.cons r .nil=>⟨_,rfl,r⟩
theorem Vals.two : ∀ {x y : V} {us : List Value},Vals [x,y] us→∃ u v,us = [u,v]∧RelV x u∧RelV y v
  | _,_,_,.cons r (.cons q .nil)=>⟨_,_,rfl,r,q⟩
theorem Vals.zero : ∀ {us : List Value},Vals [] us→us = []
  | _,.nil=>rfl
theorem Vals.dropLast {xs : List V} {us : List Value} (h : Vals xs us) : Vals xs.dropLast us.dropLast:=by
  induction h with
  | nil=>exact .nil
  | cons r t ih =>
    cases t with
    | nil=>exact .nil
    | cons q t'=>exact .cons r ih
theorem Vals.eraseIdx : ∀ {xs : List V} {us : List Value} (i : Nat),Vals xs us→Vals (xs.eraseIdx i) (us.eraseIdx i)
  | _,_,_,.nil=>.nil
  | _,_,0,.cons _ t=>t
  | _,_,i + 1,.cons r t=>.cons r (Vals.eraseIdx i t)
theorem Vals.reverse {xs : List V} {us : List Value} (h : Vals xs us) : Vals xs.reverse us.reverse:=by
  induction h with
  | nil=>exact .nil
  | cons r t ih=>rw [List.reverse_cons,List.reverse_cons];exact Vals.append ih (.cons r .nil)
theorem Vals.rep {xs : List V} {us : List Value} (h : Vals xs us) : ∀ k : Nat,Vals (List.replicate k xs).flatten (List.replicate k us).flatten
  | 0=>.nil
  | k + 1=>by
    rw [List.replicate_succ,List.replicate_succ,List.flatten_cons,List.flatten_cons]
    exact Vals.append h (Vals.rep h k)
theorem erase_last {α : Type} (l : List α) : l.eraseIdx (l.length - 1) = l.dropLast:=by
  induction l with
  | nil=>rfl
  | cons a r ih =>
    cases r with
    | nil=>rfl
    | cons b r =>
      have e : (a :: b :: r).length - 1 = ((b :: r).length - 1) + 1:=by
        have h1 : (a :: b :: r).length = r.length + 2:=rfl
        have h2 : (b :: r).length = r.length + 1:=rfl
        omega
      rw [e,List.eraseIdx_cons_succ,ih]
      all_goals rfl
theorem len_erase {α : Type} : ∀ (l : List α) (i : Nat),(l.eraseIdx i).length≤l.length
  | [],_=>Nat.le_refl _
  | _ :: _,0=>Nat.le_succ _
  | _ :: r,i + 1=>Nat.succ_le_succ (len_erase r i)
theorem foldl_rep (its : List Value) : ∀ (k : Nat) (acc : List Value),
    List.foldl (fun x1 x2=>x1 ++ x2) acc.toArray (List.replicate k its.toArray) = (acc ++ (List.replicate k its).flatten).toArray
  | 0,acc=>by simp
  | k + 1,acc=>by
    have e : acc.toArray ++ its.toArray = (acc ++ its).toArray:=by simp
    have e2 : (acc ++ its) ++ (List.replicate k its).flatten = acc ++ (List.replicate (k + 1) its).flatten:=by
      rw [List.replicate_succ,List.flatten_cons,List.append_assoc]
    rw [← e2,← foldl_rep its k (acc ++ its),← e,List.replicate_succ,List.foldl_cons]
section
variable {X : Cx} {pins : List (Addr × Obj)} {σ : St} {H : Hp} {s : Shared} {l b : Addr} {xs ys zs : List V}
theorem Inv.lset {its its' : List Value} {n : Nat} {f : Array Value→Array Value} {t' : Nat} (I : Inv X pins σ H s) (hH : H l = some (.lst xs))
    (e : s.heap.get? l = some { cls:=.type "list",data:=.seq its.toArray n }) (hf : f its.toArray = its'.toArray) (hv : Vals ys its') (hz : ys.length≤sizeLine) :
    Inv X pins σ (upd H l (.lst ys)) { s with heap:=s.heap.update l (Obj.mapSeq f),toks:=t' }:=by
  have q:=PySem.IsL.update e f
  rw [hf] at q
  refine I.write (x:=l) (e:=l) (by rw [hH];exact trivial) (.inl rfl) (fun b' u hb hu=>(Heap.get?_update_other s.heap (Obj.mapSeq f) (Ne.symm hb)).trans hu) ⟨_,q⟩ ?_
  exact ⟨hz,its',_,hv,q⟩
theorem Inv.lnew {its : List Value} {t' : Nat} (I : Inv X pins σ H s) (hv : Vals ys its) (hz : ys.length≤sizeLine) :
    Inv X pins σ (upd H s.heap.objs.size (.lst ys)) { s with heap:=s.heap.push { cls:=.type "list",data:=.seq its.toArray },toks:=t' } :=
  I.laid (fun _ _ q=>Heap.get?_push_of_some _ q) (Nat.le_refl _) ⟨hz,its,0,hv,Heap.get?_push_size _ rfl⟩
theorem Inv.fresh (I : Inv X pins σ H s) : H s.heap.objs.size = none:=I.hok.fresh (Nat.le_refl _)
theorem Inv.lstM (I : Inv X pins σ H s) (hH : H l = some (.lst xs)) : xs.length≤sizeLine∧∃ (its : List Value) (n : Nat),Vals xs its∧xs.length = its.length∧s.heap.get? l = some { cls:=.type "list",data:=.seq its.toArray n }:=by
  obtain ⟨z,its,n,r,e⟩:=I.hok l _ hH
  exact ⟨z,its,n,r,r.length,e⟩
theorem notLongL {n : Nat} (h : n≤sizeLine) : Builtin.List.listTooLong n = false:=by
  unfold Builtin.List.listTooLong
  exact decide_eq_false (by omega)
end
section
variable {X : Cx}
def rAppend : V→List V→Hp→VK→Prop:=fun x vs H Q=>∃ l xs y,x = .ref l∧vs = [y]∧H l = some (.lst xs)∧xs.length < sizeLine∧Q .non (upd H l (.lst (xs ++ [y])))
theorem mt_append : MtM X "list.append" rAppend:=by
  intro pins s σ H x vs v us Q I rx rv h
  obtain ⟨l,xs,y,rfl,rfl,hH,hz,q⟩:=h
  cases rx
  obtain ⟨u,rfl,ru⟩:=rv.one
  obtain ⟨z,its,n,r,hl,e⟩:=I.lstM hH
  refine call_meets F.slot_list_append ⟨_,e,rfl⟩ F.entry_list_append (F.args_list_append_2 _ _) (PySem.list_append l its.toArray n u (by rw [List.size_toArray];omega)) ⟨e,?_⟩
  refine ⟨.non,_,I.lset (its':=its ++ [u]) hH e (by simp) (r.append (.cons ru .nil)) ?_,rfl,q⟩
  rw [List.length_append,List.length_singleton]
  omega
def rPop : V→List V→Hp→VK→Prop:=fun x vs H Q=>∃ l xs y,x = .ref l∧vs = []∧H l = some (.lst xs)∧xs[xs.length - 1]? = some y∧Q y (upd H l (.lst xs.dropLast))
theorem mt_pop : MtM X "list.pop" rPop:=by
  intro pins s σ H x vs v us Q I rx rv h
  obtain ⟨l,xs,y,rfl,rfl,hH,hy,q⟩:=h
  cases rx
  have hus:=rv.zero
  subst hus
  obtain ⟨z,its,n,r,hl,e⟩:=I.lstM hH
  obtain ⟨u,hu,ru⟩:=r.get hy
  have hy' : its.toArray[its.toArray.size - 1]? = some u:=by
    show its.toArray[its.length - 1]? = some u
    rw [← Array.getElem?_toList,← hl]
    exact hu
  refine call_meets F.slot_list_pop ⟨_,e,rfl⟩ F.entry_list_pop (F.args_list_pop_1 _) (MeetsSeq.list_pop_last l its.toArray n u hy' (by rw [List.size_toArray];omega)) ⟨e,?_⟩
  refine ⟨y,_,I.lset (its':=its.dropLast) hH e ?_ r.dropLast ?_,ru,q⟩
  · show its.toArray.eraseIdxIfInBounds (its.toArray.size - 1) = its.dropLast.toArray
    rw [List.size_toArray,List.eraseIdxIfInBounds_toArray,erase_last]
  · rw [List.length_dropLast]
    omega
def rPopAt : V→List V→Hp→VK→Prop:=fun x vs H Q=>∃ l xs i k y,x = .ref l∧vs = [.int i]∧H l = some (.lst xs)∧-(2 ^ 63)≤i∧i < 2 ^ 63∧seqIndex? i xs.length = some k∧xs[k]? = some y∧Q y (upd H l (.lst (xs.eraseIdx k)))
theorem mt_popAt : MtM X "list.pop" rPopAt:=by
  intro pins s σ H x vs v us Q I rx rv h
  obtain ⟨l,xs,i,k,y,rfl,rfl,hH,h1,h2,hk,hy,q⟩:=h
  cases rx
  obtain ⟨u,rfl,ru⟩:=rv.one
  obtain ⟨t,rfl⟩:=ru
  obtain ⟨z,its,n,r,hl,e⟩:=I.lstM hH
  obtain ⟨w,hw,rw'⟩:=r.get hy
  refine call_meets F.slot_list_pop ⟨_,e,rfl⟩ F.entry_list_pop (F.args_list_pop_2 _ _)
    (MeetsSeq.list_pop_at l its.toArray n i t k w (fitsIndex_both h1 h2) (by rw [List.size_toArray,← hl];exact hk) (by rw [← Array.getElem?_toList];exact hw) (by rw [List.size_toArray];omega)) ⟨e,?_⟩
  refine ⟨y,_,I.lset (its':=its.eraseIdx k) hH e ?_ (r.eraseIdx k) ?_,rw',q⟩
  · show its.toArray.eraseIdxIfInBounds k = (its.eraseIdx k).toArray
    rw [List.eraseIdxIfInBounds_toArray]
  · have:=len_erase xs k
    omega
def rCat : R2:=fun x y H Q=>∃ l b xs zs,x = .ref l∧y = .ref b∧H l = some (.lst xs)∧H b = some (.lst zs)∧xs.length + zs.length≤sizeLine∧∀ p,H p = none→Q (.ref p) (upd H p (.lst (xs ++ zs)))
theorem op_cat : OpR X (binaryOp .Add) rCat:=by
  intro pins s σ H x y v u Q I rx ry h
  obtain ⟨l,b,xs,zs,rfl,rfl,hH,hB,hz,q⟩:=h
  cases rx
  cases ry
  obtain ⟨z,its,n,r,hl,e⟩:=I.lstM hH
  obtain ⟨z2,its2,n2,r2,hl2,e2⟩:=I.lstM hB
  refine PySem.P.add_list e e2 ?_ (by rw [List.size_toArray,List.size_toArray];omega)
  have ea : its.toArray ++ its2.toArray = (its ++ its2).toArray:=by simp
  rw [ea]
  exact ⟨.ref _,_,I.lnew (t':=s.toks) (r.append r2) (by rw [List.length_append];omega),rfl,q _ I.fresh⟩
def rRep : R2:=fun x y H Q=>∃ l k xs,x = .ref l∧y = .int k∧H l = some (.lst xs)∧-(2 ^ 63)≤k∧k < 2 ^ 63∧xs.length * k.toNat≤sizeLine ∧
  ∀ p,H p = none→Q (.ref p) (upd H p (.lst (List.replicate k.toNat xs).flatten))
theorem len_rep {α : Type} (xs : List α) (k : Nat) : (List.replicate k xs).flatten.length = k * xs.length:=by
  induction k with
  | zero=>simp
  | succ k ih=>rw [List.replicate_succ,List.flatten_cons,List.length_append,ih,Nat.succ_mul,Nat.add_comm]
theorem op_rep : OpR X (binaryOp .Mult) rRep:=by
  intro pins s σ H x y v u Q I rx ry h
  obtain ⟨l,k,xs,rfl,rfl,hH,h1,h2,hz,q⟩:=h
  cases rx
  obtain ⟨t,rfl⟩:=ry
  obtain ⟨z,its,n,r,hl,e⟩:=I.lstM hH
  have hlen : its.toArray.size * k.toNat≤sizeLine:=by rw [List.size_toArray,← hl];exact hz
  have hcap : ¬ its.toArray.size * k.toNat > (2 ^ 63 - 1) / 8:=by
    have : (sizeLine : Nat)≤(2 ^ 63 - 1) / 8:=by decide
    omega
  have hfit : ¬ (!Builtin.List.listFitsIndex k) = true:=by
    rw [fitsIndex_both h1 h2]
    exact Bool.false_ne_true
  have hlong : ¬ Builtin.List.listTooLong (its.toArray.size * k.toNat) = true:=by
    rw [notLongL hlen]
    exact Bool.false_ne_true
  have hnew : List.foldl (fun x1 x2=>x1 ++ x2) #[] (List.replicate (if its.toArray.isEmpty = true then 0 else k.toNat) its.toArray) = (List.replicate k.toNat its).flatten.toArray:=by
    have f0 : ∀ m : Nat,List.foldl (fun x1 x2=>x1 ++ x2) #[] (List.replicate m its.toArray) = (List.replicate m its).flatten.toArray:=fun m=>by
      have:=foldl_rep its m []
      rw [List.nil_append] at this
      exact this
    rw [f0]
    cases its with
    | nil=>simp
    | cons a r'=>rw [if_neg (by simp)]
  refine wpAny_binaryOp_repeat_ref (T:="list") (U:="int") (by decide) ⟨_,e,rfl⟩ (fun s'=>typeIs_int s' k t) noFill_list_mul F.fills_int_mul F.slot_int_rmul repeat_list F.slot_int_index.lookup
    (call_meets F.slot_int_rmul (typeIs_int s k t) F.entry_int_rmul (F.args_int_rmul_2 _ _) (int___rmul___int_list k t l its.toArray n)
      ⟨e,rfl,⟨_,e,rfl⟩,call_meets F.slot_list_mul ⟨_,e,rfl⟩ F.entry_list_mul (F.args_list_mul_2 _ _) (AutoListH.list___mul___list_int_3 l its.toArray n k t hfit hcap hlong) ⟨e,?_⟩⟩)
  rw [hnew]
  exact ⟨.ref _,_,I.lnew (t':=s.toks) (r.rep k.toNat) (by rw [len_rep,Nat.mul_comm];exact hz),rfl,q _ I.fresh⟩
end
section
variable {prog : Program} {w : World} {A : Around} {E : Value→Shared→Prop} {s : Shared}
set_option maxRecDepth 100000 in
end
section
variable {X : Cx}
end
section
variable {κ : Type} [DecidableEq κ]
def valV (kvs : List (κ × V)) (k : κ) : Option V:=(kvs.find? fun kv=>decide (kv.1 = k)).map (·.2)
def putK (kvs : List (κ × V)) (k : κ) (v : V) : List (κ × V) :=
  if (kvs.any fun kv=>decide (kv.1 = k)) = true then kvs.map (fun kv=>if kv.1 = k then (kv.1,v) else kv) else kvs ++ [(k,v)]
theorem valV_pos {p : κ × V} {r : List (κ × V)} {k : κ} (e : p.1 = k) : valV (p :: r) k = some p.2:=by simp [valV,List.find?_cons,e]
theorem valV_neg {p : κ × V} {r : List (κ × V)} {k : κ} (e : ¬ p.1 = k) : valV (p :: r) k = valV r k:=by simp [valV,List.find?_cons,e]
theorem valV_any (k : κ) : ∀ kvs : List (κ × V),(kvs.any fun kv=>decide (kv.1 = k)) = (valV kvs k).isSome
  | []=>rfl
  | p :: r=>by
    rw [List.any_cons]
    by_cases e : p.1 = k
    · simp only [valV_pos e,decide_eq_true e,Bool.true_or,Option.isSome_some]
    · rw [valV_neg e,decide_eq_false e,Bool.false_or];exact valV_any k r
theorem length_putK (kvs : List (κ × V)) (k : κ) (v : V) : (putK kvs k v).length≤kvs.length + 1:=by
  unfold putK
  split
  · rw [List.length_map];omega
  · rw [List.length_append,List.length_cons,List.length_nil];omega
theorem RelO.isSome_eq {o : Option V} {u : Option Value} (r : RelO o u) : o.isSome = u.isSome:=by
  cases o with
  | none=>cases u with
    | none=>rfl
    | some _=>exact (show False from r).elim
  | some _=>cases u with
    | none=>exact (show False from r).elim
    | some _=>rfl
theorem KV.val {kvs : List (κ × V)} {vs : List (κ × Value)} (r : KV kvs vs) (k : κ) : RelO (valV kvs k) (valueAt vs k):=by
  unfold KV at r
  induction r with
  | nil=>exact True.intro
  | @cons p q ps qs h t ih =>
    obtain ⟨h1,h2⟩:=h
    by_cases e : p.1 = k
    · have e' : q.1 = k:=h1.symm.trans e
      have b : valueAt (q :: qs) k = some q.2:=by simp [valueAt,List.find?_cons,e']
      rw [valV_pos e,b];exact h2
    · have e' : ¬ q.1 = k:=fun z=>e (h1.trans z)
      have b : valueAt (q :: qs) k = valueAt qs k:=by simp [valueAt,List.find?_cons,e']
      rw [valV_neg e,b];exact ih
theorem KV.any {kvs : List (κ × V)} {vs : List (κ × Value)} (r : KV kvs vs) (k : κ) : (kvs.any fun kv=>decide (kv.1 = k)) = vs.any fun kv=>decide (kv.1 = k):=by
  unfold KV at r
  induction r with
  | nil=>rfl
  | cons h t ih=>rw [List.any_cons,List.any_cons,ih,h.1]
theorem KV.repl {kvs : List (κ × V)} {vs : List (κ × Value)} (r : KV kvs vs) (k : κ) {y : V} {u : Value} (ry : RelV y u) :
    KV (kvs.map fun kv=>if kv.1 = k then (kv.1,y) else kv) (vs.map fun kv=>if kv.1 = k then (kv.1,u) else kv):=by
  unfold KV at r ⊢
  induction r with
  | nil=>exact .nil
  | @cons p q ps qs h t ih =>
    rw [List.map_cons,List.map_cons]
    refine .cons ?_ ih
    obtain ⟨h1,h2⟩:=h
    by_cases e : p.1 = k
    · rw [if_pos e,if_pos (h1.symm.trans e)];exact ⟨h1,ry⟩
    · rw [if_neg e,if_neg (fun z=>e (h1.trans z))];exact ⟨h1,h2⟩
theorem KV.put {kvs : List (κ × V)} {vs : List (κ × Value)} (r : KV kvs vs) (k : κ) {y : V} {u : Value} (ry : RelV y u) : KV (putK kvs k y) (stored vs k u):=by
  unfold putK stored
  rw [r.any k]
  by_cases e : (vs.any fun kv=>decide (kv.1 = k)) = true
  · rw [if_pos e,if_pos e];exact r.repl k ry
  · rw [if_neg e,if_neg e];exact Paired.snoc r ⟨rfl,ry⟩
theorem KV.length {kvs : List (κ × V)} {vs : List (κ × Value)} (r : KV kvs vs) : kvs.length = vs.length:=Paired.length r
end
theorem kV_is {P : Program} {w : World} {k : Key} {u : Value} (r : RelV (kV k) u) : (mixKind P w).is k u = true:=by
  cases k with
  | inl i=>obtain ⟨t,e⟩:=(show ∃ t,u = Value.int i t from r);subst e;exact mixKind_int P w i t
  | inr x=>obtain ⟨t,e⟩:=(show ∃ t,u = Value.str x t from r);subst e;exact mixKind_str P w x t
theorem items_are {P : Program} {w : World} : ∀ {ks : List Key} {us : List Value},Vals (ks.map kV) us→ItemsAre (mixKind P w) ks us
  | [],_,r=>by rw [List.map_nil] at r;cases r;exact .nil
  | k :: ks,_,r=>by
    rw [List.map_cons] at r
    cases r with
    | cons h t=>exact .cons (kV_is h) (items_are t)
abbrev KT (H : Hp) : List (List Key × V)→List (List Key × Addr × Value)→Prop:=Paired fun p q=>p.1 = q.1∧H q.2.1 = some (.tup (p.1.map kV))∧RelV p.2 q.2.2
theorem KT.val {H : Hp} {kvs : List (List Key × V)} {xs : List (List Key × Addr × Value)} (r : KT H kvs xs) (k : List Key) : RelO (valV kvs k) ((atKey xs k).map (·.2)):=by
  induction r with
  | nil=>exact True.intro
  | @cons p q ps qs h t ih =>
    obtain ⟨h1,_,h2⟩:=h
    by_cases e : p.1 = k
    · have e' : q.1 = k:=h1.symm.trans e
      have b : atKey (q :: qs) k = some q.2:=by simp [atKey,List.find?_cons,e']
      rw [valV_pos e,b];exact h2
    · have e' : ¬ q.1 = k:=fun z=>e (h1.trans z)
      have b : atKey (q :: qs) k = atKey qs k:=by simp [atKey,List.find?_cons,e']
      rw [valV_neg e,b];exact ih
theorem KT.repl {H : Hp} {kvs : List (List Key × V)} {xs : List (List Key × Addr × Value)} (r : KT H kvs xs) (k : List Key) {y : V} {u : Value} (ry : RelV y u) :
    KT H (kvs.map fun kv=>if kv.1 = k then (kv.1,y) else kv) (xs.map (putAt k u)):=by
  induction r with
  | nil=>exact .nil
  | @cons p q ps qs h t ih =>
    rw [List.map_cons,List.map_cons]
    refine .cons ?_ ih
    obtain ⟨h1,h2,h3⟩:=h
    unfold putAt
    by_cases e : p.1 = k
    · rw [if_pos e,if_pos (h1.symm.trans e)];exact ⟨h1,h2,ry⟩
    · rw [if_neg e,if_neg (fun z=>e (h1.trans z))];exact ⟨h1,h2,h3⟩
theorem KT.put {H : Hp} {kvs : List (List Key × V)} {xs : List (List Key × Addr × Value)} (r : KT H kvs xs) (k : List Key) {b : Addr} {y : V} {u : Value} (hb : H b = some (.tup (k.map kV))) (ry : RelV y u) :
    KT H (putK kvs k y) (storedH xs k b u):=by
  have e : (kvs.any fun kv=>decide (kv.1 = k)) = (atKey xs k).isSome:=by
    rw [valV_any,(r.val k).isSome_eq,Option.isSome_map]
  unfold putK storedH
  rw [e]
  by_cases q : (atKey xs k).isSome = true
  · rw [if_pos q,if_pos q];exact r.repl k ry
  · rw [if_neg q,if_neg q];exact Paired.snoc r ⟨rfl,hb,ry⟩
theorem KT.keeps {H H' : Hp} {kvs : List (List Key × V)} {xs : List (List Key × Addr × Value)} (r : KT H kvs xs) (ht : ∀ b ys,H b = some (.tup ys)→H' b = some (.tup ys)) : KT H' kvs xs :=
  Paired.mapP r fun _ _ z=>⟨z.1,ht _ _ z.2.1,z.2.2⟩
section
variable {P : Program} {w : World} {H : Hp} {h : Heap} {a : Addr}
theorem rd_of {u : HO} (ok : HOk P w H h) (e : Rd H a u) : ObjOk P w H h a u:=e.ok ok
theorem dk_rd {kvs : List (Key × V)} (ok : HOk P w H h) (e : Rd H a (.dK kvs)) : kvs.length≤sizeLine∧(a == sysModules) = false∧∃ vs,KV kvs vs∧h.DictOf (mixKind P w) a vs :=
  show ObjOk P w H h a (.dK kvs) from rd_of ok e
theorem dk_of {kvs : List (Key × V)} (ok : HOk P w H h) (e : H a = some (.dK kvs)) : kvs.length≤sizeLine∧(a == sysModules) = false∧∃ vs,KV kvs vs∧h.DictOf (mixKind P w) a vs:=dk_rd ok (.inl e)
theorem key_of {ks : List Key} (ok : HOk P w H h) (e : H a = some (.tup (ks.map kV))) : (tupleKind (mixKind P w)).is h ks a:=by
  obtain ⟨_,its,r,⟨o,h1,h2,n,h3⟩,_⟩:=(show ObjOk P w H h a (.tup (ks.map kV)) from ok a _ e)
  exact ⟨o,its.toArray,n,h1,h2,h3,by simpa using items_are r⟩
theorem dt_rd {kvs : List (List Key × V)} (ok : HOk P w H h) (e : Rd H a (.dT kvs)) : kvs.length≤sizeLine∧(a == sysModules) = false ∧
    ∃ xs,KT H kvs xs∧h.DictOfH (tupleKind (mixKind P w)) a xs:=by
  obtain ⟨z,y,xs,r,o,es,ep,h1,h2,h3,h4,h5⟩:=(show ObjOk P w H h a (.dT kvs) from rd_of ok e)
  refine ⟨z,y,xs,r,o,es,ep,h1,h2,h3,h4,fun x hx=>?_,h5⟩
  have all : ∀ {l : List (List Key × V)} {m : List (List Key × Addr × Value)},KT H l m→∀ x∈m,(tupleKind (mixKind P w)).is h x.1 x.2.1:=by
    intro l m q
    induction q with
    | nil=>intro x hx;exact nomatch hx
    | @cons p q ps qs hq t ih =>
      intro x hx
      rcases List.mem_cons.mp hx with e | hx
      · subst e
        exact key_of ok (by rw [← hq.1];exact hq.2.1)
      · exact ih x hx
  exact all r x hx
theorem dt_of {kvs : List (List Key × V)} (ok : HOk P w H h) (e : H a = some (.dT kvs)) : kvs.length≤sizeLine∧(a == sysModules) = false ∧
    ∃ xs,KT H kvs xs∧h.DictOfH (tupleKind (mixKind P w)) a xs:=dt_rd ok (.inl e)
end
def DGet (H : Hp) (a : Addr) (y : V) (r : Option V) : Prop :=
  (∃ kvs k,Rd H a (.dK kvs)∧y = kV k∧r = valV kvs k)∨∃ kvs k b,Rd H a (.dT kvs)∧y = .ref b∧H b = some (.tup (k.map kV))∧r = valV kvs k
def DPut (H : Hp) (a : Addr) (y v : V) (H' : Hp) : Prop :=
  (∃ kvs k,H a = some (.dK kvs)∧y = kV k∧kvs.length < sizeLine∧H' = upd H a (.dK (putK kvs k v))) ∨
  ∃ kvs k b,H a = some (.dT kvs)∧y = .ref b∧H b = some (.tup (k.map kV))∧kvs.length < sizeLine∧H' = upd H a (.dT (putK kvs k v))
theorem DGet.k {H : Hp} {a : Addr} {kvs : List (Key × V)} {k : Key} (e : H a = some (.dK kvs)) : DGet H a (kV k) (valV kvs k):=.inl ⟨kvs,k,.inl e,rfl,rfl⟩
theorem DPut.k {H : Hp} {a : Addr} {kvs : List (Key × V)} {k : Key} {v : V} (e : H a = some (.dK kvs)) (hl : kvs.length < sizeLine) : DPut H a (kV k) v (upd H a (.dK (putK kvs k v))):=.inl ⟨kvs,k,e,rfl,hl,rfl⟩
section
variable {X : Cx} {pins : List (Addr × Obj)} {σ : St} {H : Hp} {s : Shared} {a : Addr} {y v : V} {u r : Value} {o : Option V} {A : Around} {E : Value→Shared→Prop}
theorem Inv.big (I : Inv X pins σ H s) : sysModules < s.heap.objs.size:=by
  have h : mainGlobals < s.heap.objs.size:=(I.mod.glob.keeps I.bk).lt
  exact Nat.lt_trans (by decide) h
theorem d_getItem {Q : Value→Shared→Prop} (hu : A.units + 1 < cLine) (I : Inv X pins σ H s) (g : DGet H a y (some v)) (ry : RelV y u) (h : ∀ w' s',Inv X pins σ H s'→RelV v w'→Q w' s') :
    wpAny (model X.prog X.w) A (getItem (.ref a) u) Q E s:=by
  rcases g with ⟨kvs,k,e,ey,l⟩ | ⟨kvs,k,b,e,ey,eb,l⟩
  · subst ey
    obtain ⟨z,hd,vs,rel,dd⟩:=dk_rd I.hok e
    obtain ⟨w',hw,rw'⟩:=RelO.some_of (v:=v) (o:=valueAt vs k) (by rw [l];exact rel.val k)
    exact wpAny_getItem_of (kV_is ry) dd.mapOf hw (h w' _ (I.tok _) rw')
  · subst ey
    cases (show u = Value.ref b from ry)
    obtain ⟨z,hd,xs,rel,dd⟩:=dt_rd I.hok e
    obtain ⟨w',hw,rw'⟩:=RelO.some_of (v:=v) (o:=(atKey xs k).map (·.2)) (by rw [l];exact rel.val k)
    obtain ⟨p,hp,hp2⟩:=Option.map_eq_some_iff.mp hw
    refine wpAny_getItem_heap (tupleKind_room_in1 hu) (key_of I.hok eb) dd hp ?_
    rw [hp2]
    exact h w' _ (I.tok _) rw'
theorem d_write {h' : Heap} {t' : Nat} {ob : HO} (I : Inv X pins σ H s) (mu : Mut (H a)) (hs : Heap.SameBut a s.heap h') (he : ∃ q,h'.get? a = some q) (new : ObjOk X.prog X.w (upd H a ob) h' a ob) :
    Inv X pins σ (upd H a ob) { s with heap:=h',toks:=t' } :=
  I.write (x:=a) (e:=a) mu (.inl rfl) (fun b q hb z=>(hs.2 b hb).trans z) he new
theorem dk_new {P : Program} {w : World} {H' : Hp} {h' : Heap} {kvs : List (Key × V)} {vs : List (Key × Value)} (z : kvs.length≤sizeLine) (hd : (a == sysModules) = false) (rel : KV kvs vs) (dd : h'.DictOf (mixKind P w) a vs) :
    ObjOk P w H' h' a (.dK kvs):=⟨z,hd,vs,rel,dd⟩
theorem d_setItem {H' : Hp} {Q : Unit→Shared→Prop} (hu : A.units + 1 < cLine) (I : Inv X pins σ H s) (g : DPut H a y v H') (ry : RelV y u) (rv : RelV v r) (h : ∀ s',Inv X pins σ H' s'→Q () s') :
    wpAny (model X.prog X.w) A (setItem (.ref a) u r) Q E s:=by
  rcases g with ⟨kvs,k,e,ey,l,eH⟩ | ⟨kvs,k,b,e,ey,eb,l,eH⟩
  · subst ey eH
    obtain ⟨z,hd,vs,rel,dd⟩:=dk_of I.hok e
    have hz : vs.length≤sizeLine:=by rw [← rel.length];exact z
    have hl : (putK kvs k v).length≤sizeLine:=by have:=length_putK kvs k v;omega
    refine wpAny_setItem_pairs (hsz:=hz) (kV_is ry) dd fun h' dd' hs=>h _ ?_
    have he : ∃ q,h'.get? a = some q:=let ⟨q,_,_,hq,_⟩:=dd';⟨q,hq⟩
    exact d_write I (by rw [e];exact True.intro) hs he (dk_new hl hd (rel.put k rv) dd')
  · subst ey eH
    cases (show u = Value.ref b from ry)
    obtain ⟨z,hd,xs,rel,dd⟩:=dt_of I.hok e
    have hz : xs.length≤sizeLine:=by rw [← Paired.length rel];exact z
    have hl : (putK kvs k v).length≤sizeLine:=by have:=length_putK kvs k v;omega
    refine wpAny_setItem_heap (hsz:=hz) (tupleKind_room_in1 hu) (key_of I.hok eb) dd fun h' dd' hs=>h _ ?_
    obtain ⟨q,es,ep,hq,h2,h3,h4,_,h5⟩:=dd'
    refine d_write I (by rw [e];exact True.intro) hs ⟨q,hq⟩ ⟨hl,hd,_,(rel.put k eb rv).keeps fun c ys ec=>?_,q,es,ep,hq,h2,h3,h4,h5⟩
    rw [upd_ne (ne_of ec e (fun z=>nomatch z))]
    exact ec
end
section
variable {X : Cx} {pins : List (Addr × Obj)} {σ : St} {H : Hp} {s : Shared} {a : Addr} {kvs : List (Key × V)} {k : Key} {u : Value} {A : Around} {E : Value→Shared→Prop}
end
def NoSl (i : Expr) : Prop:=∀ ov iv,subscripted i false ov iv = operate [ov,iv] (getItem ov iv)
theorem subD_of {prog : Program} {w : World} {A : Around} {E : Value→Shared→Prop} {s : Shared} {env : Env} {value slice : Expr} {pos : Pos} {T id : String} {Q : Value→Shared→Prop}
    (hl : typeLookup (.type T) "__getitem__" = pure (some (.builtin id))) (hs : NoSl slice)
    (h : wpAny (model prog w) A (eval value env) (fun o s₁=>wpAny (model prog w) A (eval slice env) (fun i s₂=>s₂.TypeIs o T∧wpAny (model prog w) A (getItem o i) Q E s₂) E s₁) E s) :
    wpAny (model prog w) A (eval (.Subscript value slice pos) env) Q E s:=by
  refine Subscript_ (wpAny_mono h (fun o s₁ h₁=>wpAny_mono h₁ (fun i s₂ h₂=>?_) fun _ _ x=>x) fun _ _ x=>x)
  obtain ⟨hT,h₂⟩:=h₂
  unfold subscriptTail
  refine wpAny_bind ?_
  rw [getitemInPython_of_ne hT.not_modules]
  refine wpAny_bind (wpAny_specialOf hT hl ?_)
  have fin : wpAny (model prog w) A (subscripted slice false o i) (fun r s₃=>wpAny (model prog w) A (letTemporaryGo value o r >>= fun _=>pure r) Q E s₃) E s₂:=by
    rw [hs o i]
    exact wpAny_operating (wpAny_mono h₂ (fun r s₃ h₃=>wpAny_bind (wpAny_letTemporaryGo (wpAny_pure h₃))) fun _ _ x=>x)
  first
    | exact wpAny_pure (wpAny_bind fin)
    | exact wpAny_bind (wpAny_pure (wpAny_bind fin))
    | exact wpAny_bind fin
theorem dict_typeIs {X : Cx} {pins : List (Addr × Obj)} {σ : St} {H : Hp} {s : Shared} {a : Addr} {y : V} {o : Option V} (I : Inv X pins σ H s) (g : DGet H a y o) : s.TypeIs (.ref a) "dict":=by
  rcases g with ⟨kvs,k,e,_,_⟩ | ⟨kvs,k,b,e,_,_,_⟩
  · obtain ⟨_,_,vs,_,dd⟩:=dk_rd I.hok e
    exact dd.typeIs
  · obtain ⟨_,_,xs,_,dd⟩:=dt_rd I.hok e
    exact dd.typeIs
def tDGet (td ty : TE) : TE:=fun σ H Q=>td σ H fun x H1=>ty σ H1 fun y H2=>∃ a v,x = .ref a∧DGet H2 a y (some v)∧Q v H2
def sDPut (td ty tv : TE) : TS:=fun D σ H=>tv σ H fun v H1=>td σ H1 fun x H2=>ty σ H2 fun y H3=>∃ a H4,x = .ref a∧DPut H3 a y v H4∧D.nx σ H4
section
variable {X : Cx} {o i e value : Expr} {pos pos' tpos : Pos} {td ty tv : TE}
theorem pe_dget (hu : X.A.units + 1 < cLine) (ho : PE X o td) (hi : PE X i ty) (hs : NoSl i) : PE X (.Subscript o i pos) (tDGet td ty):=.mk <| by
  intro pins s σ H Q I h
  refine subD_of PySem.F.slot_dict_getitem.lookup hs (thn (ho pins s σ H _ I h) fun u s1 ⟨x,H1,I1,rx,q1⟩=>thn (hi pins s1 σ H1 _ I1 q1) fun iv s2 ⟨y,H2,I2,ry,a,v,ex,g,q2⟩=>?_)
  subst ex
  obtain rfl : u = Value.ref a:=rx
  exact ⟨dict_typeIs I2 g,d_getItem hu I2 g ry fun w' s3 I3 rw'=>⟨v,H2,I3,rw',q2⟩⟩
theorem ps_dput (hu : X.A.units + 1 < cLine) (ho : PE X o td) (hi : PE X i ty) (hv : PE X value tv) (hs : swapsWith value (some (.Subscript o i pos')) pos.line X.env = pure false) :
    PS X (.Assign [.Subscript o i pos'] value pos) (sDPut td ty tv):=.mk <| by
  intro pins s σ H D I h
  refine wpAny_Assign_Subscript (thn (hv pins s σ H _ I h) fun r s1 ⟨v,H1,I1,rv,q1⟩=>thn (ho pins s1 σ H1 _ I1 q1) fun u s2 ⟨x,H2,I2,rx,q2⟩=>thn (hi pins s2 σ H2 _ I2 q2) fun iv s3 ⟨y,H3,I3,ry,a,H4,ex,g,q3⟩=>?_) hs
  subst ex
  obtain rfl : u = Value.ref a:=rx
  exact d_setItem hu I3 g ry rv fun s4 I4=>⟨σ,H4,I4,q3⟩
end
theorem dk_empty {P : Program} {w : World} {H : Hp} (h : Heap) (hb : sysModules < h.objs.size) : ObjOk P w H (h.push { cls:=.type "dict",data:=.dict #[] }) h.objs.size (.dK []) :=
  ⟨Nat.zero_le _,beq_eq_false_iff_ne.mpr (Ne.symm (Nat.ne_of_lt hb)),[],.nil,Heap.DictOf.new h⟩
section
variable {X : Cx} {pos : Pos}
end
def tPairs : List (TE × TE)→St→Hp→(List (V × V)→Hp→Prop)→Prop
  | [],_,H,Q=>Q [] H
  | (tk,tv) :: r,σ,H,Q=>tk σ H fun x H1=>tv σ H1 fun y H2=>tPairs r σ H2 fun ps H3=>Q ((x,y) :: ps) H3
abbrev VV : List (V × V)→List (Value × Value)→Prop:=Paired fun p q=>RelV p.1 q.1∧RelV p.2 q.2
def PPs (X : Cx) (pos : Pos) (keys : List (Option Expr)) (values : List Expr) (trs : List (TE × TE)) : Prop :=
  ∀ (pins : List (Addr × Obj)) (s : Shared) (σ : St) (H : Hp) (Q : List (V × V)→Hp→Prop),Inv X pins σ H s→tPairs trs σ H Q →
    wpAny (model X.prog X.w) X.A (evalPairs (pairTrees keys values X.env pos)) (fun vs s'=>∃ ps H',Inv X pins σ H' s'∧VV ps vs∧Q ps H') X.xe s
theorem pps_nil {X : Cx} {pos : Pos} : PPs X pos [] [] []:=fun pins s σ H Q I h=>pairTrees_nil_walk ⟨[],H,I,.nil,h⟩
theorem pps_cons {X : Cx} {pos : Pos} {k v : Expr} {ks : List (Option Expr)} {vs : List Expr} {tk tv : TE} {trs : List (TE × TE)} (hk : PE X k tk) (hv : PE X v tv) (hr : PPs X pos ks vs trs) :
    PPs X pos (some k :: ks) (v :: vs) ((tk,tv) :: trs):=fun pins s σ H Q I h =>
  pairTrees_cons_walk (thn (hk pins s σ H _ I h) fun u s1 ⟨x,H1,I1,rx,q1⟩=>thn (hv pins s1 σ H1 _ I1 q1) fun w2 s2 ⟨y,H2,I2,ry,q2⟩ =>
    thn (hr pins s2 σ H2 _ I2 q2) fun ws s3 ⟨ps,H3,I3,rel,q3⟩=>⟨(x,y) :: ps,H3,I3,.cons ⟨rx,ry⟩ rel,q3⟩)
def mergeK (kvs more : List (Key × V)) : List (Key × V):=more.foldl (fun acc kv=>putK acc kv.1 kv.2) kvs
theorem KV.merge : ∀ {more : List (Key × V)} {rs : List (Key × Value)} {kvs : List (Key × V)} {vs : List (Key × Value)},KV more rs→KV kvs vs→KV (mergeK kvs more) (merged vs rs):=by
  intro more rs kvs vs r
  unfold KV at r
  induction r generalizing kvs vs with
  | nil=>intro q;exact q
  | @cons p q ps qs h t ih =>
    intro r0
    have e : KV (putK kvs p.1 p.2) (stored vs q.1 q.2):=by
      have:=r0.put p.1 h.2
      rw [← h.1];exact this
    exact ih e
theorem length_mergeK : ∀ (more kvs : List (Key × V)),(mergeK kvs more).length≤kvs.length + more.length
  | [],kvs=>by show kvs.length≤kvs.length + 0;omega
  | p :: r,kvs=>by
    have h1:=length_mergeK r (putK kvs p.1 p.2)
    have h2:=length_putK kvs p.1 p.2
    show (mergeK (putK kvs p.1 p.2) r).length≤_
    rw [List.length_cons];omega
theorem carries_of {P : Program} {w : World} : ∀ {kvs : List (Key × V)} {ws : List (Value × Value)},VV (kvs.map fun kv=>(kV kv.1,kv.2)) ws→∃ rs,Carries (mixKind P w) ws rs∧KV kvs rs
  | [],_,r=>by rw [List.map_nil] at r;cases r;exact ⟨[],True.intro,.nil⟩
  | p :: kvs,_,r=>by
    rw [List.map_cons] at r
    cases r with
    | @cons a b as bs h t =>
      obtain ⟨rs,c,q⟩:=carries_of (P:=P) (w:=w) t
      obtain ⟨b1,b2⟩:=b
      exact ⟨(p.1,b2) :: rs,⟨kV_is h.1,rfl,c⟩,.cons ⟨rfl,h.2⟩ q⟩
def tDisp (trs : List (TE × TE)) : TE:=fun σ H Q=>∀ p,H p = none→tPairs trs σ (upd H p (.dK [])) fun ps H2=>H2 p = some (.dK [])∧∃ kvs : List (Key × V),ps = kvs.map (fun kv=>(kV kv.1,kv.2))∧kvs.length≤15∧Q (.ref p) (upd H2 p (.dK (mergeK [] kvs)))
theorem pe_disp {X : Cx} {pos : Pos} {keys : List (Option Expr)} {values : List Expr} {trs : List (TE × TE)} (h : PPs X pos keys values trs) (hall : keys.all (·.isSome) = true) (hl : keys.length = values.length) (h0 : keys≠[])
    (h15 : keys.length≤15) : PE X (.Dict keys values pos) (tDisp trs):=.mk <| by
  intro pins s σ H Q I q
  have hn:=I.hok.fresh (Nat.le_refl s.heap.objs.size)
  have I1:=I.laid (a:=s.heap.objs.size) (o:=.dK []) (h':=s.heap.push { cls:=.type "dict",data:=.dict #[] }) (t':=s.toks) (fun _ _ q=>Heap.get?_push_of_some _ q) (Nat.le_refl _) (dk_empty s.heap I.big)
  refine wpAny_Dict_walk (knd:=mixKind X.prog X.w) hall hl h0 h15 (thn (h pins _ σ _ _ I1 (q _ hn)) fun ws s2 ⟨ps,H2,I2,rel,e,kvs,ep,lk,q2⟩=>?_)
  subst ep
  obtain ⟨rs,c,rk⟩:=carries_of (P:=X.prog) (w:=X.w) rel
  obtain ⟨z,hd,vs0,r0,dd⟩:=dk_of I2.hok e
  cases r0
  refine ⟨rs,c,dd,fun h' dd' hs=>⟨.ref s.heap.objs.size,_,?_,rfl,q2⟩⟩
  have hz : (mergeK [] kvs).length≤sizeLine:=by
    have h1:=length_mergeK kvs []
    rw [List.length_nil] at h1
    rw [sizeLine_eq];omega
  have he : ∃ q,h'.get? s.heap.objs.size = some q:=let ⟨q,_,_,hq,_⟩:=dd';⟨q,hq⟩
  exact d_write I2 (by rw [e];exact True.intro) hs he (dk_new hz hd (rk.merge .nil) dd')
structure M1 (X : Cx) (o : Expr) (m : Str) (apos : Pos) (e : Expr) (cpos : Pos) : Prop where
  base : attributeBase o m X.env (eval o X.env) = eval o X.env
  few : ((backTo cpos (starEach [e] X.env)).all (fun x=>!x.1) && (backToKw cpos (keywordEach [] X.env)).all (fun x=>x.1.isSome)
    && decide (([e] : List Expr).length + ([] : List Keyword).length + (if ([] : List Keyword).isEmpty then 0 else 1) < 30)) = true
  line : (apos.endLine == cpos.line) = true
  trees : backTo cpos (starEach [e] X.env) = [(false,eval e X.env)]
structure M2 (X : Cx) (o : Expr) (m : Str) (apos : Pos) (e f : Expr) (cpos : Pos) : Prop where
  base : attributeBase o m X.env (eval o X.env) = eval o X.env
  few : ((backTo cpos (starEach [e,f] X.env)).all (fun x=>!x.1) && (backToKw cpos (keywordEach [] X.env)).all (fun x=>x.1.isSome)
    && decide (([e,f] : List Expr).length + ([] : List Keyword).length + (if ([] : List Keyword).isEmpty then 0 else 1) < 30)) = true
  line : (apos.endLine == cpos.line) = true
  trees : backTo cpos (starEach [e,f] X.env) = [(false,eval e X.env),(false,eval f X.env)]
section
variable {X : Cx} {pins : List (Addr × Obj)} {σ : St} {H : Hp} {s : Shared} {a : Addr} {y d : V} {u r : Value} {o : Option V} {A : Around} {E : Value→Shared→Prop}
end
section
variable {X : Cx} {o e f : Expr} {apos cpos : Pos} {td ty tx : TE}
end
section
variable {X : Cx} {pins : List (Addr × Obj)} {σ : St} {H : Hp} {s : Shared} {a : Addr} {kvs : List (Key × V)} {A : Around} {E : Value→Shared→Prop}
end
section
variable {X : Cx} {pins : List (Addr × Obj)} {σ : St} {H : Hp} {s : Shared} {a : Addr} {y : V} {u : Value} {A : Around} {E : Value→Shared→Prop}
end
end L2
namespace Att
open PySem PySem.W PySem.Calls PyProof.Rows
theorem ints_of_wellAll {P : Params} {h : Heap} : ∀ (ns : List Int) (vs : List Value),WellAll P h vs (ns.map WData.int)→IntsAre vs ns:=by
  intro ns
  induction ns with
  | nil =>
    intro vs w
    rw [List.map_nil] at w
    cases w
    exact .nil
  | cons n ns ih =>
    intro vs w
    rw [List.map_cons] at w
    cases w with
    | cons a b =>
      cases a
      exact .cons _ _ (ih _ b)
theorem script_of {l : OpenLaw} {n : Nat} (hn : l.most = some n) {P : Params} {h : Heap} {args : List WData} {vals : List Value}
    (hpre : l.row.toRowW.claim.pre args = true) (hwl : WellAll P h vals args) :
    ∃ a vs ns,vals = [Value.ref a]∧args = [WData.list (ns.map WData.int)]∧h.get? a = some { cls:=.type "list",data:=.seq vs.toArray }∧IntsAre vs ns∧ns.length≤n:=by
  have hsh : WShape.hasAll [] args [.list .int] = true:=(pre_splitW hpre).1
  have hc : l.pre.holds [] { args:=args } = true:=(pre_splitW hpre).2
  obtain ⟨d,r,rfl,h1,h2⟩:=hasAllW_cons hsh
  obtain rfl:=hasAllW_nil h2
  obtain ⟨xs,rfl,h3⟩:=hasW_list h1
  obtain ⟨ns,rfl⟩:=items_int h3
  have hlen : ns.length≤n:=by
    unfold OpenLaw.pre at hc
    have h4 : (WTm.not (.lt (.lit (.int (n : Int))) (.len (.arg 0)))).holds [] { args:=[.list (ns.map .int)] } = true:=by
      have h4:=(holds_andW hc).1
      rw [hn] at h4
      exact h4
    have h5:=condW_of h4 (w_not (w_lt w_lit (w_len_list (w_arg rfl))))
    rw [List.length_map] at h5
    refine Nat.le_of_not_lt fun q=>?_
    have q' : (n : Int) < ((ns.length : Nat) : Int):=by omega
    first
      | (rw [decide_eq_true q'] at h5;exact absurd h5 (by decide))
      | (simp at h5;omega)
  cases hwl with
  | cons w1 w2 =>
    cases w2
    cases w1 with
    | list ho hall=>exact ⟨_,_,ns,rfl,rfl,ho,ints_of_wellAll ns _ hall,hlen⟩
theorem post_true (l : OpenLaw) (args : List WData) : l.row.toRowW.claim.post args (.bool true) args = true :=
  postW_of (r:=l.row.toRowW) (X:=(true == true))
    (show WShape.has [] (.bool true) .bool = true by first | rfl | decide | simp [WShape.has,WShape.arms,WShape.armsAll])
    (show (WTm.eq .res (.lit (.bool true))).value [] { args:=args,res:=some (.bool true),after:=args } = some (.bool (true == true)) from w_eq_bool (w_res rfl) w_lit) rfl
theorem attach_call {l : OpenLaw} {n : Nat} {q : Program} {loose : List Str} {XP : (Str→Option Value)→Heap→Prop} {YP : World→Heap→Prop} {d : DefRec}
    (hn : l.most = some n) (hdf : d.params.defaults = [])
    (call : ∀ (w : World) (s₀ s₁ : Shared) (mg mb : Str→Option Value) (fa : Addr) (o : Obj) (pm cd doc : Value) (a : Addr) (vs : List Value) (ns : List Int),
      Ground q loose [] XP w s₀ mg mb s₁.heap→YP w s₁.heap →
      s₁.heap.get? fa = some o→o.data = .func (docDef d.name d.params d.body d.scope pm cd doc)→s₁.heap.CodeRec cd d.name→mg d.name = some (.ref fa) →
      s₁.heap.get? a = some { cls:=.type "list",data:=.seq vs.toArray }→IntsAre vs ns→ns.length≤n→s₁.gens = #[] →
      codeAny (model l.prog w) callerA (.call (.ref fa) ⟨[.ref a],[]⟩) (fun r s'=>r = .ok (.ret (.bool true))∧OldK s₁.heap s'.heap∧s'.os = s₁.os∧AllBare s'.gens) s₁) :
    WalkO q loose XP YP l.row.toRowW d [] (fun f vs=>PySem.call f vs):=by
  intro w s₀ s₁ mg mb G Y fa o pm cd doc dV kV ho hd hcd hD hmg hg args vals as hpre hlay hrd hwl hlo
  obtain rfl : dV = .none:=Dflts.none hD hdf
  obtain rfl : kV = .none:=Dflts.noKw hD
  obtain ⟨a,vs,ns,rfl,rfl,hobj,hints,hlen⟩:=script_of hn hpre hwl
  refine enter_call (codeAny_mono (call w s₀ s₁ mg mb fa o pm cd doc a vs ns G Y ho (fd_plain hd) hcd hmg hobj hints hlen hg) fun r s' hq=>?_)
  obtain ⟨rfl,h2,h3,h4⟩:=hq
  exact ⟨.inl ⟨.bool true,.bool true,[],rfl,fun _=>rfl,.bool true,post_true l _,fun _=>⟨List.Pairwise.nil,fun _ hm=>(nomatch hm)⟩⟩,h2,h3,h4⟩
section
variable {prog : Program} {w : World} {A : Around} {E : Value→Shared→Prop} {s : Shared} {K : Frag}
end
end Att
namespace L2
open PySem PySem.Spec PyProof.Rows
theorem vals_ints : ∀ {vs : List Value} {ns : List Int},IntsAre vs ns→Vals (ns.map V.int) vs
  | _,_,.nil=>.nil
  | _,_,.cons n t h=>.cons ⟨t,rfl⟩ (vals_ints h)
def Only (_ : Hp) : Prop:=True
abbrev KOf {K : PySem.W.Frag} {h : Heap} (_ : K.In h) : PySem.W.Frag:=K
def defArgs (s : Stmt) : Arguments:=match s with
  | .FunctionDef _ a _ _ _ _ _ _ _ _=>a
  | _=>{ posonlyargs:=[],args:=[],vararg:=none,kwonlyargs:=[],kw_defaults:=[],kwarg:=none,defaults:=[] }
def defBody (s : Stmt) : List Stmt:=match s with
  | .FunctionDef _ _ b _ _ _ _ _ _ _=>b
  | _=>[]
def defScope (s : Stmt) : Scope:=match s with
  | .FunctionDef _ _ _ _ _ _ sc _ _ _=>sc
  | _=>{ kind:=.function,names:=[],isGenerator:=false,isCoroutine:=false }
abbrev CX0 : CXT:=fun _ _ _ _ _ _=>False
abbrev E0 : XK:=fun _ _ _=>False
theorem pass0 {X : Cx} : Passes CX0 X E0:=fun _ _ _ _ _ _ _ h=>h.elim
structure Fun (K : PySem.W.Frag) (x qual : Str) (st : Stmt) (f : Addr) (fd : FuncData) : Prop where
  ex : ∃ (oc : Value) (od : Option Addr) (kV doc pm : Value) (an : Option Addr) (cdv ct : Value) (osl : Array (Option Value)),
    fd = PySem.W.fnOf x qual (defArgs st) (defBody st) (defScope st) .none kV doc pm an cdv ct∧K.lookup f = some ⟨oc,od,.func fd,osl⟩∧PySem.W.codeIn K cdv qual = true
  kp : PySem.W.keepIn K (.ref f) = true
section
variable {P : Program} {w : World} {K : PySem.W.Frag} {mg : Str→Option Value} {base : Heap}
theorem Fun.ok {x qual : Str} {st : Stmt} {f : Addr} {fd : FuncData} {N ps : List Str} {k : Nat} {sp : Sp} (F : Fun K x qual st f fd) (S : FnScope N ps (defScope st)) (len : ∀ vs H Q E,sp vs H Q E→vs.length = ps.length)
    (hbody : ∀ (cdv : Value) (A : Around) (outer : List Env) (s : Shared) (H : Hp) (vs : List V) (Q : VK) (E : XK),Room k (A.deeper (envOfC qual (defScope st) s.heap.objs.size f cdv))→sp vs H Q E →
      ∃ t,PSs (cxOf CX0 P w K mg base N qual (defScope st) f cdv A outer s H E).nox (defBody st) t∧t { nx:=fun _ H'=>Q .non H',rt:=Q } (start N vs) H) : FnOk P w K mg base CX0 (k + 1) f fd ps sp:=by
  obtain ⟨oc,od,kV,doc,pm,an,cdv,ct,osl,rfl,lk,hcd⟩:=F.ex
  refine fn_of lk hcd S len fun A outer s H vs Q E hr hsp=>?_
  obtain ⟨t,h,q⟩:=hbody cdv A outer s H vs Q E hr hsp
  exact ⟨t,h.nox,q⟩
theorem Fun.binds {x qual : Str} {st : Stmt} {f : Addr} {fd : FuncData} {ps : List Str} (F : Fun K x qual st f fd)
    (h : ∀ (kV doc pm : Value) (an : Option Addr) (cdv ct : Value) (us : List Value),us.length = ps.length→bindArgs (PySem.W.fnOf x qual (defArgs st) (defBody st) (defScope st) .none kV doc pm an cdv ct) ⟨us,[]⟩ = pure (ps.zip us)) : Binds K fd ps []:=by
  obtain ⟨oc,od,kV,doc,pm,an,cdv,ct,osl,rfl,lk,hcd⟩:=F.ex
  exact .all (h kV doc pm an cdv ct)
theorem fun_mk {x qual : Str} {st : Stmt} {f : Addr} {oc : Value} {od an : Option Addr} {osl : Array (Option Value)} {kV doc pm cdv ct : Value} (l : K.lookup f = some ⟨oc,od,.func (PySem.W.fnOf x qual (defArgs st) (defBody st) (defScope st) .none kV doc pm an cdv ct),osl⟩)
    (c : PySem.W.codeIn K cdv qual = true) (k : PySem.W.keepIn K (.ref f) = true) : Fun K x qual st f (PySem.W.fnOf x qual (defArgs st) (defBody st) (defScope st) .none kV doc pm an cdv ct):=⟨⟨oc,od,kV,doc,pm,an,cdv,ct,osl,rfl,l,c⟩,k⟩
end
theorem hu_of {A : Around} {k : Nat} (hr : Room k A) : A.units + 1 < cLine:=Nat.lt_of_le_of_lt (Nat.add_le_add_left (by decide : 1≤64) _) hr.units
theorem small1000 {n : Nat} (h : n≤1000) : n < sizeLine:=Nat.lt_of_le_of_lt h (by decide)
section
variable {X : Cx}
theorem pv (i : Nat) {x : Str} {pos : Pos} (hN : X.N[i]? = some x:=by rfl) (hv : Vis X.env.scope x:=by first | exact Or.inl rfl | exact Or.inr (Or.inl rfl) | exact Or.inr (Or.inr rfl)) (hd : (x == ("__debug__" : Str)) = false:=by decide)
    (hcd : (x == ("__classdict__" : Str)) = false:=by decide) : PE X (.Name x pos) (tVar i):=pe_var hN hv hd hcd
end
theorem iteF {A B : Prop} (h : B) : if false = true then A else B:=by
  rw [if_neg Bool.false_ne_true]
  exact h
theorem iteT {A B : Prop} (h : A) : if true = true then A else B:=by
  rw [if_pos rfl]
  exact h
theorem ite2 {c A B : Prop} [Decidable c] (h1 : c→A) (h2 : ¬ c→B) : if c then A else B:=by
  by_cases h : c
  · rw [if_pos h]
    exact h1 h
  · rw [if_neg h]
    exact h2 h
def Same (H H' : Hp) : Prop:=∀ b o,H b = some o→H' b = some o
theorem Same.refl (H : Hp) : Same H H:=fun _ _ h=>h
theorem Same.trans {H H1 H2 : Hp} (a : Same H H1) (b : Same H1 H2) : Same H H2:=fun c o h=>b c o (a c o h)
section
variable {κ : Type} [DecidableEq κ]
end
end L2
set_option maxHeartbeats 1000000
namespace L2
open PySem PySem.Spec PyProof.Rows
section
variable {prog : Program} {w : World} {A : Around} {E : Value→Shared→Prop} {R : Result→Shared→Prop} {s : Shared}
def compTail (elt : Expr) (gens : List Comprehension) (scope : Scope) (pos : Pos) (d : Nat) (acc : Value) (env : Env) : Sem Unit :=
  match gens[d + 1]? with
  | some g'=>do
    let x ← eval g'.iter env
    standAt g'.iter.pos
    let x ← if g'.is_async != 0 then foldedIterable g'.iter x else foldedSetIterable g'.iter env x
    let _ ← runOwn (.compStart (.ListComp elt gens scope pos) (d + 1) (← holding [x] (if g'.is_async != 0 then asyncIter x else pyIter x)) acc env) env
  | none=>do let _ ← call (.builtin "list.append") [acc,← eval elt env]
theorem compLoop_gen {elt target iter : Expr} {gens : List Comprehension} {ifs : List Expr} {scope : Scope} {pos : Pos} {d : Nat} {it acc : Value} {env : Env} (I : Nat→Shared→Prop)
    (hg : gens[d]? = some ⟨target,iter,ifs,0⟩) (ha : ∀ g',gens[d + 1]? = some g'→g'.is_async = 0)
    (turn : ∀ n s,I n s→wpAny (model prog w) A (pyNext it) (fun r s₁=>match r with
      | none=>R (.ok .next) s₁
      | some v=>wpAny (model prog w) A (letOwnedTupleGo target it v) (fun _ s₁'=>wpAny (model prog w) A (assign target env v) (fun _ s₂ =>
          wpAny (model prog w) A (forIn ifs true fun c r=>if r = true then do let ok ← isTrue c env (eval c env);pure (ForInStep.yield ok) else pure (ForInStep.yield r)) (fun ok s₃ =>
            if ok = true then wpAny (model prog w) A (compTail elt gens scope pos d acc env) (fun _ s₅=>∃ m,m < n∧I m s₅) (fun _ _=>False) s₃
            else ∃ m,m < n∧I m s₃) (fun _ _=>False) s₂) (fun _ _=>False) s₁') (fun _ _=>False) s₁) (fun _ _=>False) s)
    (n : Nat) (h : I n s) :
    codeAny (model prog w) A (.compLoop (.ListComp elt gens scope pos) d it acc env) R s:=by
  refine codeAny_loop rfl I (fun n s hI=>?_) n h
  show wpAny _ A ((compTurn (.ListComp elt gens scope pos) d it acc env).onRaise (fun x=>do noteFrame x env;theTreesLotGoes x)) _ _ s
  refine wpAny_noted ?_
  unfold compTurn
  simp only [hg]
  refine wpAny_bind (wpAny_standAt (wpAny_bind (wpAny_mono (turn n s hI) (fun r s₁ h₁=>?_) fun _ _ x=>x.elim)))
  cases r with
  | none=>exact wpAny_pure h₁
  | some v =>
    refine wpAny_bind (wpAny_mono h₁ (fun _ s₁' h₁'=>?_) fun _ _ x=>x.elim)
    refine wpAny_bind (wpAny_mono h₁' (fun _ s₂ h₂=>wpAny_bind (wpAny_mono h₂ (fun ok s₃ h₃=>?_) fun _ _ x=>x.elim)) fun _ _ x=>x.elim)
    cases ok with
    | false=>exact wpAny_pure ⟨rfl,h₃⟩
    | true =>
      have h₃' : wpAny (model prog w) A (compTail elt gens scope pos d acc env) (fun _ s₅=>∃ m,m < n∧I m s₅) (fun _ _=>False) s₃:=h₃
      unfold compTail at h₃'
      rw [if_pos rfl]
      cases hd : gens[d + 1]? with
      | none =>
        rw [hd] at h₃'
        exact wpAny_bind (wpAny_mono h₃' (fun _ s₅ h₅=>wpAny_pure ⟨rfl,h₅⟩) fun _ _ x=>x.elim)
      | some g' =>
        rw [hd] at h₃'
        have h0:=ha g' hd
        have e0 : (g'.is_async != 0) = false:=by rw [h0];rfl
        dsimp only at h₃' ⊢
        simp only [e0,Bool.false_eq_true,if_false] at h₃' ⊢
        intro Γ p hΓ
        have q:=h₃' Γ p hΓ
        simp only [Sem.wp_bind'] at q ⊢
        refine Sem.wp_mono _ Γ _ (fun x p₁ s₄ q₁=>?_) (fun _ _ _ z=>z.elim) _ _ q
        refine Sem.wp_mono _ Γ _ (fun _ p₂ s₄ q₂=>?_) (fun _ _ _ z=>z.elim) _ _ q₁
        refine Sem.wp_mono _ Γ _ (fun x p₂ s₄ q₂=>?_) (fun _ _ _ z=>z.elim) _ _ q₂
        refine Sem.wp_mono _ Γ _ (fun x p₂ s₄ q₂=>?_) (fun _ _ _ z=>z.elim) _ _ q₂
        refine Sem.wp_mono _ Γ _ (fun x p₂ s₄ q₂=>?_) (fun _ _ _ z=>z.elim) _ _ q₂
        exact ⟨rfl,q₂⟩
end
section
variable {prog : Program} {w : World} {A : Around} {E : Value→Shared→Prop} {R : Result→Shared→Prop} {s : Shared}
theorem compStart_gen {elt target iter : Expr} {gens : List Comprehension} {ifs : List Expr} {scope : Scope} {pos : Pos} {d : Nat} {it acc : Value} {env : Env}
    (hg : gens[d]? = some ⟨target,iter,ifs,0⟩)
    (h0 : codeAny (model prog w) A (.compLoop (.ListComp elt gens scope pos) d it acc env) R s)
    (h : wpAny (model prog w) A (pyIter it) (fun it' s'=>codeAny (model prog w) A (.compLoop (.ListComp elt gens scope pos) d it' acc env) R s') (fun _ _=>False) s) :
    codeAny (model prog w) A (.compStart (.ListComp elt gens scope pos) d it acc env) R s:=by
  refine codeAny_of_tree ?_
  show wpAny _ _ ((compStart (.ListComp elt gens scope pos) d it acc env).onRaise (fun x=>do noteFrame x env;standAt theWindowsPlace)) _ _ s
  refine wpAny_notedAt ?_
  unfold compStart
  have hcl : clausesOf (.ListComp elt gens scope pos) = gens:=rfl
  simp only [hcl,hg,Option.elim]
  refine wpAny_ite ?_
  rw [if_neg (by decide)]
  refine wpAny_bind (wpAny_askSetting (wpAny_ite ?_))
  split
  · first
      | exact wpAny_bind (wpAny_pure (wpAny_pure (And.intro rfl h0)))
      | exact wpAny_pure (And.intro rfl h0)
  · exact wpAny_bind (wpAny_rule (wpAny_bind (wpAny_standAt (wpAny_bind (wpAny_mono h (fun it' s' h'=>wpAny_pure (And.intro rfl h')) fun _ _ x=>x.elim)))))
end
abbrev TL:=Addr→St→Hp→(St→Hp→Prop)→Prop
def PL (X : Cx) (elt : Expr) (gens : List Comprehension) (scope : Scope) (pos : Pos) (d : Nat) (t : TL) : Prop :=
  ∀ (pins : List (Addr × Obj)) (s : Shared) (σ : St) (H : Hp) (acc : Addr) (K : St→Hp→Prop),Inv X pins σ H s→t acc σ H K →
    wpAny (model X.prog X.w) X.A (compTail elt gens scope pos d (.ref acc) X.env) (fun _ s'=>∃ σ' H',Inv X pins σ' H' s'∧K σ' H') (fun _ _=>False) s
def PTs (X : Cx) (ifs : List Expr) (t : TT) : Prop :=
  ∀ (pins : List (Addr × Obj)) (s : Shared) (σ : St) (H : Hp) (Q : Bool→Hp→Prop),Inv X pins σ H s→t σ H Q →
    wpAny (model X.prog X.w) X.A (forIn ifs true fun c r=>if r = true then do let ok ← isTrue c X.env (eval c X.env);pure (ForInStep.yield ok) else pure (ForInStep.yield r)) (TP X pins σ Q) X.xe s
def tNoTest : TT:=fun _ H Q=>Q true H
def lLast (te : TE) : TL:=fun acc σ H K=>te σ H fun y H1=>∃ xs,H1 acc = some (.lst xs)∧xs.length < sizeLine∧K σ (upd H1 acc (.lst (xs ++ [y])))
def lLoop (J : It) (g : TG) (tc : TT) (l : TL) : TL:=fun acc σ H K=>∃ W : Nat→Nat→St→Hp→Prop,(∃ m,W 0 m σ H)∧∀ i m σ H,W i m σ H →
  (J.stop i H∧K σ H)∨(J.go i H∧∀ x H',J.yld i H x H'→g x σ H' fun σ2 H2=>tc σ2 H2 fun b H3 =>
    if b = true then l acc σ2 H3 (fun σ3 H4=>∃ m',m' < m∧W (i + 1) m' σ3 H4) else ∃ m',m' < m∧W (i + 1) m' σ2 H3)
def lFor (wi : TI) (g : TG) (tc : TT) (l : TL) : TL:=fun acc σ H K=>wi σ H fun J H1=>lLoop J g tc l acc σ H1 K
section
variable {X : Cx} {elt : Expr} {gens : List Comprehension} {scope : Scope} {pos : Pos} {d : Nat} {te : TE} {l : TL} {tg iter : Expr} {ifs : List Expr} {wi : TI} {g : TG} {tc : TT}
theorem pts_nil : PTs X [] tNoTest:=fun pins s σ H Q I h=>wpAny_tests_nil ⟨H,I,h⟩
theorem pts_one {c : Expr} (hc : PT X c tc) : PTs X [c] tc:=fun pins s σ H Q I h=>wpAny_tests_one (hc pins s σ H Q I h)
theorem pl_last (hx : X.xe = fun _ _=>False) (hd : gens[d + 1]? = none) (he : PE X elt te) : PL X elt gens scope pos d (lLast te):=by
  intro pins s σ H acc K I h
  unfold compTail
  rw [hd]
  have he':=he pins s σ H _ I h
  rw [hx] at he'
  refine wpAny_bind (thn he' fun u s1 ⟨y,H1,I1,r1,xs,e1,z1,k1⟩=>?_)
  have ha:=mt_append pins s1 σ H1 (.ref acc) [y] (.ref acc) [u] (fun v H2=>v = .non∧H2 = upd H1 acc (.lst (xs ++ [y]))) I1 rfl (.cons r1 .nil) ⟨acc,xs,y,rfl,rfl,e1,z1,rfl,rfl⟩
  rw [hx] at ha
  refine wpAny_bind (thn ha fun v s2 ⟨v',H2,I2,r2,e2,e3⟩=>wpAny_pure ⟨σ,H2,I2,by rw [e3];exact k1⟩)
theorem comp_loop (hx : X.xe = fun _ _=>False) (hc : X.calm = true) (hd : gens[d]? = some ⟨tg,iter,ifs,0⟩) (ha : ∀ g',gens[d + 1]? = some g'→g'.is_async = 0) (hg : PG X tg g) (ht : PTs X ifs tc) (hl : PL X elt gens scope pos d l)
    {pins : List (Addr × Obj)} {s : Shared} {σ : St} {H : Hp} {acc it : Addr} {fp : List Addr} {tn : Nat→Heap→Prop} {J : It} {K : St→Hp→Prop} {R : Result→Shared→Prop} (I : Inv X pins σ H s) (T : Turn X.prog X.w X.K tg J fp it tn) (st : tn 0 s.heap) (f2 : ∀ b∈fp,FpOk X pins H b)
    (h : lLoop J g tc l acc σ H K) (hR : ∀ σ' H' s',Inv X pins σ' H' s'→K σ' H'→R (.ok .next) s') :
    codeAny (model X.prog X.w) X.A (.compLoop (.ListComp elt gens scope pos) d (.ref it) (.ref acc) X.env) R s:=by
  obtain ⟨W,⟨m0,w0⟩,turn⟩:=h
  have stat : ∀ {H' : Hp},(∀ b∈fp,H' b = none)→∀ b∈fp,FpOk X pins H' b:=fun hn b hb=>⟨hn b hb,(f2 b hb).2⟩
  refine compLoop_gen (fun n s'=>∃ i σ' H',Inv X pins σ' H' s'∧tn i s'.heap∧(∀ b∈fp,H' b = none)∧W i n σ' H') hd ha ?_ m0 ⟨0,σ,H,I,st,fun b hb=>(f2 b hb).1,w0⟩
  rintro n s3 ⟨i,σ3,H3,I3,st3,fr3,w3⟩
  rcases turn i n σ3 H3 w3 with ⟨stop,qn⟩ | ⟨go,step⟩
  · refine thn (T.done X rfl rfl rfl hc i pins s3 σ3 H3 _ I3 (stat fr3) st3 stop) fun r s4 ⟨hr,I4⟩=>?_
    subst hr
    exact hR σ3 H3 s4 I4 qn
  · refine thn (T.item X rfl rfl rfl hc i pins s3 σ3 H3 _ I3 (stat fr3) st3 go) fun r s4 ⟨u,hr,h4⟩=>?_
    subst hr
    refine thn h4 fun _ s5 ⟨x,H5,I5,r5,y5,st5,fr5⟩=>?_
    have I5':=I5.pinned (stat fr5) (T.obj _ _ st5)
    have again : ∀ {σ7 : St} {H7 : Hp} {s7 : Shared} {m' : Nat},Inv X (pins ++ pinsAt fp s5.heap) σ7 H7 s7→m' < n→W (i + 1) m' σ7 H7→∃ m,m < n∧∃ i σ' H',Inv X pins σ' H' s7∧tn i s7.heap∧(∀ b∈fp,H' b = none)∧W i m σ' H':=fun {σ7 H7 s7 m'} I7 hm w7=>by
      refine ⟨m',hm,i + 1,σ7,H7,I7.unpinned,T.keep _ _ _ st5 fun b hb o e=>(I7.pin (b,o) (List.mem_append_right _ (List.mem_append_right _ (mem_pinsAt hb e)))).1,fun b hb=>?_,w7⟩
      obtain ⟨o,e,d⟩:=T.obj _ _ st5 b hb
      exact (I7.pin (b,o) (List.mem_append_right _ (List.mem_append_right _ (mem_pinsAt hb e)))).2.1
    have hg':=hg _ s5 σ3 H5 x u _ I5' r5 (step x H5 y5)
    rw [hx] at hg'
    refine thn hg' fun _ s6 ⟨σ6,H6,I6,q6⟩=>?_
    have ht':=ht _ s6 σ6 H6 _ I6 q6
    rw [hx] at ht'
    refine thn ht' fun ok s7 ⟨H7,I7,q7⟩=>?_
    cases ok with
    | false =>
      rw [if_neg Bool.false_ne_true] at q7 ⊢
      obtain ⟨m',hm,w7⟩:=q7
      exact again I7 hm w7
    | true =>
      rw [if_pos rfl] at q7 ⊢
      refine thn (hl _ s7 σ6 H7 acc _ I7 q7) fun _ s8 ⟨σ8,H8,I8,m',hm,w8⟩=>?_
      exact again I8 hm w8
theorem pl_for (hx : X.xe = fun _ _=>False) (hc : X.calm = true) (hd : gens[d + 1]? = some ⟨tg,iter,ifs,0⟩) (ha : ∀ g',gens[d + 2]? = some g'→g'.is_async = 0) (hi : PI X tg iter wi) (hg : PG X tg g) (ht : PTs X ifs tc) (hl : PL X elt gens scope pos (d + 1) l)
    (hs : ∀ x,foldedSetIterable iter X.env x = pure x:=by intro _;rfl) : PL X elt gens scope pos d (lFor wi g tc l):=by
  intro pins s σ H acc K I h
  unfold compTail
  rw [hd]
  dsimp only
  have e0 : ((0 : Int) != 0) = false:=by decide
  simp only [show (((⟨tg,iter,ifs,0⟩ : Comprehension).is_async != 0) = false) from rfl,Bool.false_eq_true,if_false]
  have hi':=hi pins s σ H _ I h
  rw [hx] at hi'
  refine wpAny_bind (thn hi' fun v s1 h1=>wpAny_bind (wpAny_standAt (wpAny_bind (wpAny_of_eq (hs v) ?_))))
  refine wpAny_bind (wpAny_holding (thn h1 fun itv s2 h2=>?_))
  obtain ⟨it,fp,tn,J,H2,e,I2,T,st2,f2,q⟩:=h2
  subst e
  have loop : codeAny (model X.prog X.w) X.A (.compLoop (.ListComp elt gens scope pos) (d + 1) (.ref it) (.ref acc) X.env) (fun r s'=>match r with | .ok f=>wpAny (model X.prog X.w) X.A (pure () : Sem Unit) (fun _ s'=>∃ σ' H',Inv X pins σ' H' s'∧K σ' H') (fun _ _=>False) s' | .error e=>cameBackBy (model X.prog X.w) X.A X.env (fun _ _=>False) e s') s2 :=
    comp_loop hx hc hd ha hg ht hl I2 T st2 f2 q fun σ' H' s' I' k'=>wpAny_pure ⟨σ',H',I',k'⟩
  exact wpAny_bind (wpAny_runOwn (compStart_gen hd loop (T.self X.A 0 s2 _ _ st2 loop)))
end
def clOf (env : Env) : List (Str × NameKind)→List (Str × Addr)→List (Str × Addr)
  | [],acc=>acc
  | (n,k) :: r,acc=>if k == .free then clOf env r ((n,(env.cells.lookup n).getD 0) :: acc) else clOf env r acc
theorem closure_eq {scope : Scope} {env : Env} (h : ∀ y∈scope.names,y.2 = .free→∃ c,env.cells.lookup y.1 = some c) : closureFor scope env = pure (clOf env scope.names []):=by
  have gen : ∀ (names : List (Str × NameKind)) (acc : List (Str × Addr)),(∀ y∈names,y.2 = .free→∃ c,env.cells.lookup y.1 = some c) →
      (forIn names acc fun (x : Str × NameKind) (r : List (Str × Addr))=>(if (x.2 == NameKind.free) = true then do let a ← cellOf env x.1;pure (ForInStep.yield ((x.1,a) :: r)) else pure (ForInStep.yield r) : Sem _)) = pure (clOf env names acc):=by
    intro names
    induction names with
    | nil=>intro acc _;rfl
    | cons y r ih =>
      intro acc hy
      obtain ⟨n,k⟩:=y
      rw [List.forIn_cons]
      unfold clOf
      cases hk : k == NameKind.free with
      | true =>
        obtain ⟨c,hc⟩:=hy (n,k) (List.mem_cons_self ..) (by simpa using hk)
        simp only [hk,if_true,cellOf,hc,Option.getD_some]
        exact ih _ fun y hy'=>hy y (List.mem_cons_of_mem _ hy')
      | false =>
        simp only [hk,Bool.false_eq_true,if_false]
        exact ih _ fun y hy'=>hy y (List.mem_cons_of_mem _ hy')
  have:=gen scope.names [] h
  unfold closureFor
  show ((forIn scope.names ([] : List (Str × Addr)) fun (x : Str × NameKind) (r : List (Str × Addr))=>(if (x.2 == NameKind.free) = true then do let a ← cellOf env x.1;pure (ForInStep.yield ((x.1,a) :: r)) else pure (ForInStep.yield r) : Sem _)) >>= fun z=>pure z) = _
  rw [this]
  rfl
theorem mem_clOf {env : Env} : ∀ {names : List (Str × NameKind)} {acc : List (Str × Addr)} {n : Str} {c : Addr},(n,c)∈clOf env names acc→(n,c)∈acc∨((n,NameKind.free)∈names∧c = (env.cells.lookup n).getD 0)
  | [],_,_,_,h=>.inl h
  | (m,k) :: r,acc,n,c,h=>by
    unfold clOf at h
    split at h
    · rename_i hk
      rcases mem_clOf h with h | ⟨h1,h2⟩
      · rcases List.mem_cons.mp h with e | e
        · cases e
          have : k = .free:=by simpa using hk
          subst this
          exact .inr ⟨List.mem_cons_self ..,rfl⟩
        · exact .inl e
      · exact .inr ⟨List.mem_cons_of_mem _ h1,h2⟩
    · rcases mem_clOf h with h | ⟨h1,h2⟩
      · exact .inl h
      · exact .inr ⟨List.mem_cons_of_mem _ h1,h2⟩
theorem clOf_mem {env : Env} : ∀ {names : List (Str × NameKind)} {acc : List (Str × Addr)} {n : Str},((n,NameKind.free)∈names∨∃ c,(n,c)∈acc)→∃ c,(n,c)∈clOf env names acc
  | [],_,_,h=>by
    rcases h with h | h
    · cases h
    · exact h
  | (m,k) :: r,acc,n,h=>by
    unfold clOf
    split
    · rename_i hk
      apply clOf_mem
      rcases h with h | ⟨c,h⟩
      · rcases List.mem_cons.mp h with e | e
        · cases e;exact .inr ⟨_,List.mem_cons_self ..⟩
        · exact .inl e
      · exact .inr ⟨c,List.mem_cons_of_mem _ h⟩
    · rename_i hk
      apply clOf_mem
      rcases h with h | h
      · rcases List.mem_cons.mp h with e | e
        · cases e;simp at hk
        · exact .inl e
      · exact .inr h
theorem mem_cellsFrom : ∀ {names : List (Str × NameKind)} {h : Heap} {acc : List (Str × Addr)} {n : Str} {c : Addr},(n,c)∈cellsFrom h.objs.size names acc →
    (n,c)∈acc∨((n,NameKind.cell)∈names∧h.objs.size≤c∧(pushCells h names).IsCell c none)
  | [],_,_,_,_,m=>.inl m
  | (x,k) :: r,h,acc,n,c,m=>by
    unfold cellsFrom at m
    unfold pushCells
    split at m
    · rename_i hk
      rw [if_pos hk]
      have sz : (h.push { cls:=.type "cell",data:=.cell none }).objs.size = h.objs.size + 1:=Heap.size_push ..
      rw [← sz] at m
      rcases mem_cellsFrom m with m | ⟨m1,m2,m3⟩
      · rcases List.mem_cons.mp m with e | e
        · cases e
          have : k = .cell:=by simpa using hk
          subst this
          exact .inr ⟨List.mem_cons_self ..,Nat.le_refl _,⟨_,pushCells_keeps _ _ _ _ (Heap.get?_push_size _ rfl),rfl⟩⟩
        · exact .inl e
      · exact .inr ⟨List.mem_cons_of_mem _ m1,by omega,m3⟩
    · rename_i hk
      rw [if_neg hk]
      rcases mem_cellsFrom m with m | ⟨m1,m2,m3⟩
      · exact .inl m
      · exact .inr ⟨List.mem_cons_of_mem _ m1,m2,m3⟩
theorem cellsFrom_mem : ∀ {names : List (Str × NameKind)} {k : Nat} {acc : List (Str × Addr)} {n : Str},((n,NameKind.cell)∈names∨∃ c,(n,c)∈acc)→∃ c,(n,c)∈cellsFrom k names acc
  | [],_,_,_,h=>by
    rcases h with h | h
    · cases h
    · exact h
  | (m,k) :: r,j,acc,n,h=>by
    unfold cellsFrom
    split
    · rename_i hk
      apply cellsFrom_mem
      rcases h with h | ⟨c,h⟩
      · rcases List.mem_cons.mp h with e | e
        · cases e;exact .inr ⟨_,List.mem_cons_self ..⟩
        · exact .inl e
      · exact .inr ⟨c,List.mem_cons_of_mem _ h⟩
    · rename_i hk
      apply cellsFrom_mem
      rcases h with h | h
      · rcases List.mem_cons.mp h with e | e
        · cases e;simp at hk
        · exact .inl e
      · exact .inr h
theorem cellsFrom_inj : ∀ {names : List (Str × NameKind)} {k : Nat} {acc : List (Str × Addr)},(∀ n c,(n,c)∈acc→c < k)→(∀ n m c,(n,c)∈acc→(m,c)∈acc→n = m) →
    ∀ n m c,(n,c)∈cellsFrom k names acc→(m,c)∈cellsFrom k names acc→n = m
  | [],_,_,_,h2,n,m,c,a,b=>h2 n m c a b
  | (x,kd) :: r,k,acc,h1,h2,n,m,c,a,b=>by
    unfold cellsFrom at a b
    split at a
    · rename_i hk
      rw [if_pos hk] at b
      refine cellsFrom_inj (k:=k + 1) ?_ ?_ n m c a b
      · intro n c h
        rcases List.mem_cons.mp h with e | e
        · cases e;exact Nat.lt_succ_self _
        · exact Nat.lt_succ_of_lt (h1 n c e)
      · intro n m c h h'
        rcases List.mem_cons.mp h with e | e<;>rcases List.mem_cons.mp h' with e' | e'
        · cases e;cases e';rfl
        · cases e;exact absurd (h1 _ _ e') (Nat.lt_irrefl _)
        · cases e';exact absurd (h1 _ _ e) (Nat.lt_irrefl _)
        · exact h2 n m c e e'
    · rename_i hk
      rw [if_neg hk] at b
      exact cellsFrom_inj h1 h2 n m c a b
theorem lookup_some_of_mem {α : Type} : ∀ {l : List (Str × α)} {n : Str},(∃ c,(n,c)∈l)→∃ c,l.lookup n = some c
  | [],_,⟨_,h⟩=>by cases h
  | (k,v) :: r,n,⟨c,h⟩=>by
    rw [List.lookup_cons]
    cases hb : n == k with
    | true=>exact ⟨v,rfl⟩
    | false =>
      rcases List.mem_cons.mp h with e | e
      · cases e;simp at hb
      · exact lookup_some_of_mem ⟨c,e⟩
def blkOk (scope osc : Scope) (N : List Str) (src : List (Option Nat)) (ON : List Str) : Bool :=
  (scope.kind == .function) && (osc.kind == .function) && decide (src.length = N.length) &&
  (scope.names.all fun y=>(scope.names.lookup y.1 == some y.2) && (if y.2 == .free then osc.names.lookup y.1 == some .cell else true)) &&
  ((N.zip src).all fun p=>match p.2 with | none=>true | some j=>(ON[j]? == some p.1) && (scope.names.lookup p.1 == some .free))
def blkSt (src : List (Option Nat)) (σ : St) : St:=src.map fun o=>match o with | none=>none | some j=>(σ[j]?).join
def Cx.blk (X : Cx) (scope : Scope) (N : List Str) (cs : List (Str × Addr)) (C : Addr) (s : Shared) (H : Hp) (ex : List Addr) (pn : List (Addr × Obj)) : Cx :=
  { X with N:=N,s₀:=s,H₀:=H,env:=compEnvC scope cs C X.env,outer:=X.stack,stack:=X.stack,ex:=ex,fn:=fun x=>decide (scope.names.lookup x = some .cell),pn:=pn,xe:=fun _ _=>False }
section
variable {X : Cx} {pins : List (Addr × Obj)} {σ : St} {H : Hp} {s : Shared} {scope : Scope} {N : List Str} {src : List (Option Nat)}
theorem blk_facts {osc : Scope} {ON : List Str} (h : blkOk scope osc N src ON = true) : scope.kind = .function∧osc.kind = .function∧src.length = N.length ∧
    (∀ y∈scope.names,scope.names.lookup y.1 = some y.2)∧(∀ y∈scope.names,y.2 = .free→osc.names.lookup y.1 = some .cell) ∧
    (∀ (i : Nat) (x : Str) (j : Nat),N[i]? = some x→src[i]? = some (some j)→ON[j]? = some x∧scope.names.lookup x = some .free):=by
  unfold blkOk at h
  simp only [Bool.and_eq_true,decide_eq_true_eq,beq_iff_eq,List.all_eq_true] at h
  obtain ⟨⟨⟨⟨h1,h2⟩,h3⟩,h4⟩,h5⟩:=h
  refine ⟨h1,h2,h3,fun y hy=>(h4 y hy).1,fun y hy e=>?_,fun i x j e1 e2=>?_⟩
  · have:=(h4 y hy).2
    rw [e] at this
    simpa using this
  · have hm : (x,some j)∈N.zip src:=by
      apply List.mem_of_getElem? (i:=i)
      rw [List.getElem?_zip_eq_some]
      exact ⟨e1,e2⟩
    have:=h5 _ hm
    simpa using this
theorem relabel_lookup {env : Env} (hk : env.scope.kind = .function) : ∀ {names : List (Str × NameKind)} {x : Str} {k : NameKind},names.lookup x = some k→(k = .free→env.kindOf x = some .cell) →
    (names.map fun (n,k)=>if (k == NameKind.free && env.scope.kind == .function && env.kindOf n == some .cell) then (n,NameKind.cell) else (n,k)).lookup x = some (if k = .free then .cell else k)
  | [],_,_,h,_=>by simp at h
  | (n,k') :: r,x,k,h,hf=>by
    have ih:=@relabel_lookup env hk r x k
    show List.lookup x ((if (k' == NameKind.free && env.scope.kind == .function && env.kindOf n == some .cell) = true then (n,NameKind.cell) else (n,k')) :: _) = _
    cases hx : x == n with
    | true =>
      simp only [List.lookup_cons,hx] at h
      have e : x = n:=by simpa using hx
      subst e
      cases h
      by_cases hfr : k' = .free
      · have:=hf hfr
        subst hfr
        rw [if_pos (by rw [this,hk];rfl)]
        simp [List.lookup_cons]
      · have hfr' : (k' == NameKind.free) = false:=by simpa using hfr
        rw [if_neg (by rw [hfr'];simp),if_neg hfr]
        simp [List.lookup_cons]
    | false =>
      simp only [List.lookup_cons,hx] at h
      by_cases hc : (k' == NameKind.free && env.scope.kind == .function && env.kindOf n == some .cell) = true
      · rw [if_pos hc];simp only [List.lookup_cons,hx];exact ih h hf
      · rw [if_neg hc];simp only [List.lookup_cons,hx];exact ih h hf
theorem relabel_mem {env : Env} {names : List (Str × NameKind)} {x : Str} (h : (names.map fun (n,k)=>if (k == NameKind.free && env.scope.kind == .function && env.kindOf n == some .cell) then (n,NameKind.cell) else (n,k)).lookup x = some .cell) :
    (x,NameKind.cell)∈names∨(x,NameKind.free)∈names:=by
  have hm:=mem_of_lookup h
  obtain ⟨⟨n,k⟩,hy,e⟩:=List.mem_map.mp hm
  dsimp only at e
  split at e
  · rename_i hc
    cases e
    simp only [Bool.and_eq_true,beq_iff_eq] at hc
    rw [hc.1.1] at hy
    exact .inr hy
  · cases e;exact .inl hy
theorem relabel_memF {env : Env} {names : List (Str × NameKind)} {x : Str} (hk : env.scope.kind = .function) (hfr : ∀ y∈names,y.2 = .free→env.kindOf y.1 = some .cell)
    (h : (names.map fun (n,k)=>if (k == NameKind.free && env.scope.kind == .function && env.kindOf n == some .cell) then (n,NameKind.cell) else (n,k)).lookup x = some .free) : False:=by
  have hm:=mem_of_lookup h
  obtain ⟨⟨n,k⟩,hy,e⟩:=List.mem_map.mp hm
  dsimp only at e
  split at e
  · cases e
  · rename_i hc
    cases e
    have:=hfr _ hy rfl
    exact hc (by rw [this,hk];rfl)
theorem blk_start {fp : List Addr} (I : Inv X pins σ H s) (hb : blkOk scope X.env.scope N src X.N = true) (f2 : ∀ b∈fp,FpOk X pins H b) (fo : ∀ b∈fp,∃ o,s.heap.get? b = some o) {t : Nat} :
    Inv (X.blk scope N (cellsFrom (s.heap.objs.size + 1) scope.names (clOf X.env scope.names [])) s.heap.objs.size s H fp (X.pn ++ pins)) [] (blkSt src σ) H { s with heap:=pushCells (s.heap.push { cls:=.type "dict",data:=.dict #[] }) scope.names,toks:=t }:=by
  obtain ⟨hk,hok,hlen,hnd,hfr,hsrc⟩:=blk_facts hb
  have keep : ∀ b o,s.heap.get? b = some o→(pushCells (s.heap.push { cls:=.type "dict",data:=.dict #[] }) scope.names).get? b = some o:=fun b o e=>pushCells_keeps _ _ b o (Heap.get?_push_of_some _ e)
  have hfr' : ∀ y∈scope.names,y.2 = .free→X.env.kindOf y.1 = some .cell:=hfr
  have sz : (s.heap.push { cls:=.type "dict",data:=.dict #[] }).objs.size = s.heap.objs.size + 1:=Heap.size_push ..
  have cell : ∀ n c,(n,c)∈cellsFrom (s.heap.objs.size + 1) scope.names (clOf X.env scope.names []) →
      (X.env.cells.lookup n = some c∧(n,NameKind.free)∈scope.names)∨((n,NameKind.cell)∈scope.names∧s.heap.objs.size < c∧(pushCells (s.heap.push { cls:=.type "dict",data:=.dict #[] }) scope.names).IsCell c none):=by
    intro n c h
    rw [← sz] at h
    rcases mem_cellsFrom h with h | ⟨h1,h2,h3⟩
    · rcases mem_clOf h with h | ⟨h1,h2⟩
      · cases h
      · obtain ⟨c',hc'⟩:=I.ok.has n (.inl (hfr' _ h1 rfl))
        rw [hc'] at h2
        exact .inl ⟨by rw [hc',h2];rfl,h1⟩
    · exact .inr ⟨h1,by rw [sz] at h2;exact h2,h3⟩
  have oldc : ∀ n c,X.env.cells.lookup n = some c→c < s.heap.objs.size:=fun n c e=>by
    obtain ⟨v,o,ho,_⟩:=I.cell n c e
    exact Heap.lt_size ho
  have hH : H s.heap.objs.size = none:=I.hok.fresh (Nat.le_refl _)
  have ok : (X.blk scope N (cellsFrom (s.heap.objs.size + 1) scope.names (clOf X.env scope.names [])) s.heap.objs.size s H fp (X.pn ++ pins)).Ok:={
    mod:=I.ok.mod
    kind:=hk
    glob:=I.ok.glob
    blt:=I.ok.blt
    above:=Nat.le_refl _
    inj:=fun x y c a b=>by
      refine cellsFrom_inj (k:=s.heap.objs.size + 1) (acc:=clOf X.env scope.names []) ?_ ?_ x y c (mem_of_lookup a) (mem_of_lookup b)
      · intro n c h
        rcases mem_clOf h with h | ⟨h1,h2⟩
        · cases h
        · obtain ⟨c',hc'⟩:=I.ok.has n (.inl (hfr' _ h1 rfl))
          rw [hc'] at h2
          rw [h2]
          exact Nat.lt_succ_of_lt (oldc n c' hc')
      · intro n m c h h'
        rcases mem_clOf h with h | ⟨h1,h2⟩
        · cases h
        · rcases mem_clOf h' with h' | ⟨h1',h2'⟩
          · cases h'
          · obtain ⟨c1,hc1⟩:=I.ok.has n (.inl (hfr' _ h1 rfl))
            obtain ⟨c2,hc2⟩:=I.ok.has m (.inl (hfr' _ h1' rfl))
            rw [hc1] at h2
            rw [hc2] at h2'
            have e1 : c = c1:=h2
            have e2 : c = c2:=h2'
            exact I.ok.inj n m c (by rw [e1];exact hc1) (by rw [e2];exact hc2)
    has:=fun x h=>by
      have hm : (x,NameKind.cell)∈scope.names∨(x,NameKind.free)∈scope.names:=by
        rcases h with h | h
        · exact relabel_mem (env:=X.env) h
        · exact (relabel_memF (env:=X.env) hok hfr' h).elim
      have : ∃ c,(x,c)∈cellsFrom (s.heap.objs.size + 1) scope.names (clOf X.env scope.names []):=by
        rcases hm with hm | hm
        · exact cellsFrom_mem (.inl hm)
        · exact cellsFrom_mem (.inr (clOf_mem (.inl hm)))
      exact lookup_some_of_mem this
    cab:=fun x c hf e=>by
      have hf' : scope.names.lookup x = some .cell:=of_decide_eq_true hf
      rcases cell x c (mem_of_lookup e) with ⟨_,h⟩ | ⟨_,h,_⟩
      · have:=hnd _ h
        rw [hf'] at this
        cases this
      · exact Nat.le_of_lt h
    hd:=I.ok.hd
    frames:=I.ok.frames
    stk:=.inl rfl
    exf:=fun b hb=>by
      obtain ⟨o,ho⟩:=fo b hb
      have hlt:=Heap.lt_size ho
      refine ⟨Nat.ne_of_lt hlt,fun x c e=>?_⟩
      rcases cell x c (mem_of_lookup e) with ⟨h,_⟩ | ⟨_,h,_⟩
      · exact (f2 b hb).2.2.2.2.1 x c h
      · exact Nat.ne_of_gt (Nat.lt_trans hlt h)
    bs:=I.bs
    bsz:=Nat.le_trans I.ok.bsz I.sz
    noex:=fun b o e hb=>by
      rcases (f2 b hb).2.2.2.1 with h | h
      · exact I.ok.noex b o e h
      · exact absurd (Nat.lt_of_lt_of_le (Heap.lt_size e) (Nat.le_trans I.ok.bsz h)) (Nat.lt_irrefl _)
    exfs:=fun b hb hm=>by
      rcases List.mem_cons.mp (I.stkSub b hm) with h | h
      · exact (f2 b hb).2.1 h
      · exact (f2 b hb).2.2.1 h
    funs:=I.stack
    frf:=I.stkFree
    tt:=I.ok.tt.mono I.base.tbls }
  refine ⟨ok,rfl,I.bare,Un.kept keep,⟨fun _=>none,(Heap.Ns.new s.heap (.type "dict")).keeps (pushCells_keeps _ _),fun i x v e1 e2 e3=>?_⟩,fun x c e=>?_,hH,fun x c e=>?_,fun p hp=>?_,I.hok.kept keep,?_⟩
  · -- a captured name
    have e2' : (src.map fun o=>match o with | none=>none | some j=>(σ[j]?).join)[i]? = some (some v):=e2
    rw [List.getElem?_map] at e2'
    cases hs : src[i]? with
    | none=>rw [hs] at e2';cases e2'
    | some o =>
      rw [hs] at e2'
      cases o with
      | none=>cases e2'
      | some j =>
        have ej : (σ[j]?).join = some v:=by simpa using e2'
        have ej' : σ[j]? = some (some v):=by
          cases hq : σ[j]? with
          | none=>rw [hq] at ej;cases ej
          | some z=>rw [hq] at ej;simpa using ej
        obtain ⟨n1,n2⟩:=hsrc i x j e1 hs
        have hfree : X.env.kindOf x = some .cell:=hfr' (x,.free) (mem_of_lookup n2) rfl
        obtain ⟨m,hn,hl⟩:=I.loc
        obtain ⟨u,r,l⟩:=hl j x v n1 ej' (.inr (.inl hfree))
        refine ⟨u,r,.inr ⟨.inl ?_,?_⟩⟩
        · have:=relabel_lookup (env:=X.env) hok n2 (fun _=>hfree)
          exact this
        · rcases l with ⟨h,_⟩ | ⟨_,c,hc,hcell⟩
          · rw [hfree] at h;cases h
          · have : ∃ c',(x,c')∈cellsFrom (s.heap.objs.size + 1) scope.names (clOf X.env scope.names []):=cellsFrom_mem (.inr (clOf_mem (.inl (mem_of_lookup n2))))
            obtain ⟨c',hc'⟩:=lookup_some_of_mem this
            refine ⟨c',hc',?_⟩
            rcases cell x c' (mem_of_lookup hc') with ⟨h,_⟩ | ⟨h,_,_⟩
            · rw [hc] at h
              cases h
              obtain ⟨oc,ho,hd⟩:=hcell
              exact ⟨oc,keep _ _ ho,hd⟩
            · have:=hnd _ h
              rw [n2] at this
              cases this
  · rcases cell x c (mem_of_lookup e) with ⟨h,_⟩ | ⟨_,_,h⟩
    · obtain ⟨v,o,ho,hd⟩:=I.cell x c h
      exact ⟨v,o,keep _ _ ho,hd⟩
    · exact ⟨_,h⟩
  · rcases cell x c (mem_of_lookup e) with ⟨h,_⟩ | ⟨_,h,_⟩
    · exact I.freeC x c h
    · exact I.hok.fresh (Nat.le_of_lt h)
  · rw [List.append_nil] at hp
    obtain ⟨e,n,ne,nf,d⟩:=I.pin p hp
    refine ⟨keep _ _ e,n,Nat.ne_of_lt (Heap.lt_size e),fun hm=>?_,d⟩
    rcases List.mem_cons.mp (I.stkSub _ hm) with h | h
    · exact ne h
    · exact nf h
  · show (src.map _).length = N.length
    rw [List.length_map]
    exact hlen
theorem blk_end {fp : List Addr} {cs : List (Str × Addr)} {C : Addr} {σ' : St} {H' : Hp} {s' : Shared} {pins' : List (Addr × Obj)} (I : Inv X pins σ H s) (f2 : ∀ b∈fp,FpOk X pins H b)
    (I' : Inv (X.blk scope N cs C s H fp (X.pn ++ pins)) pins' σ' H' s') : Inv X pins σ H' s' :=
  I.call' (ch:=fp) I'.os I'.base I'.hok I'.bare fun b hb=>⟨(f2 b hb).2.2.2.1,(f2 b hb).2.1,(f2 b hb).2.2.2.2.1,(f2 b hb).2.2.2.2.2⟩
theorem blk_gone {C : Addr} {h' : Heap} (I : Inv X pins σ H s) (hC : H C = none) (hL : C≠X.env.locals) (h1 : X.s₀.heap.objs.size≤C) (h2 : ∀ x c,X.env.cells.lookup x = some c→c≠C) (h3 : ∀ p∈X.pn ++ pins,p.1≠C)
    (hs : Heap.SameBut C s.heap h') : Inv X pins σ H { s with heap:=h' } :=
  I.turned (t':=s.toks) (fun b o hb e=>(hs.2 b hb).trans e) hC hL (.inr h1) h2 h3
end
section
variable {M : Model} {A : Around} {E : Value→Shared→Prop} {s : Shared}
theorem wp_newBlock {scope : Scope} {globals : Addr} {cl : List (Str × Addr)} {qual : Str} {env : Env} {Q : Env→Shared→Prop}
    (hQ : Q (newEnv scope s.heap.objs.size globals (cellsFrom (s.heap.objs.size + 1) scope.names cl) qual none .none (some env) builtinsNs) { s with heap:=pushCells (s.heap.push { cls:=.type "dict",data:=.dict #[] }) scope.names }) :
    wpAny M A (newFunctionEnv scope globals cl [] qual none .none (some env)) Q E s:=by
  simp only [newFunctionEnv,Option.isSome_some,if_true]
  refine wpAny_bind (wpAny_alloc ?_)
  refine wpAny_bind (wpAny_layCells _ (fun name kind cells=>by cases hkc : kind == NameKind.cell<;>simp [hkc]) _ _ _ _ ?_)
  rw [show ({ s with heap:=s.heap.push { cls:=.type "dict",data:=.dict #[] } } : Shared).heap.objs.size = s.heap.objs.size + 1 from Heap.size_push ..]
  simp only [List.forIn_nil]
  exact wpAny_bind (wpAny_pure (wpAny_pure hQ))
end
section
variable {X : Cx} {elt tg iter : Expr} {ifs : List Expr} {rest : List Comprehension} {scope : Scope} {pos : Pos} {N : List Str} {src : List (Option Nat)} {wi : TI} {g : TG} {tc : TT} {l : TL}
def tComp (src : List (Option Nat)) (wi : TI) (g : TG) (tc : TT) (l : TL) : TE:=fun σ H Q=>wi σ H fun J H1=>∀ acc,H1 acc = none→lLoop J g tc l acc (blkSt src σ) (upd H1 acc (.lst [])) fun _ H'=>Q (.ref acc) H'
theorem comp_run {use : Option (Value→Sem Unit)} {pins : List (Addr × Obj)} {s : Shared} {σ : St} {H : Hp} {Q : Value→Shared→Prop} {Q' : VK} (hc : X.calm = true) (hb : blkOk scope X.env.scope N src X.N = true) (ha : ∀ g',rest[0]? = some g'→g'.is_async = 0)
    (hi : PI X tg iter wi)
    (hg : ∀ cs C s H ex pn,PG (X.blk scope N cs C s H ex pn) tg g) (ht : ∀ cs C s H ex pn,PTs (X.blk scope N cs C s H ex pn) ifs tc)
    (hl : ∀ cs C s H ex pn,PL (X.blk scope N cs C s H ex pn) elt (⟨tg,iter,ifs,0⟩ :: rest) scope pos 0 l)
    (hs : ∀ x,foldedSetIterable iter X.env x = pure x) (I : Inv X pins σ H s) (h : tComp src wi g tc l σ H Q')
    (hQ : ∀ (acc C : Addr) (H' : Hp) (s' : Shared) (m : Str→Option Value),Inv X pins σ H' s'→Q' (.ref acc) H'→s'.heap.Ns C m→H' C = none→C≠X.env.locals→X.s₀.heap.objs.size≤C→(∀ x c,X.env.cells.lookup x = some c→c≠C)→(∀ p∈X.pn ++ pins,p.1≠C) →
      compPost (model X.prog X.w) X.A X.xe use Q (.ref acc) C (.ok .next) s') :
    wpAny (model X.prog X.w) X.A (comprehension (.ListComp elt (⟨tg,iter,ifs,0⟩ :: rest) scope pos) scope X.env (firstIterPos (⟨tg,iter,ifs,0⟩ :: rest) pos) (newList []) false (firstIter (⟨tg,iter,ifs,0⟩ :: rest) X.env) use) Q X.xe s:=by
  obtain ⟨hk,hok,hlen,hnd,hfr,hsrc⟩:=blk_facts hb
  refine wpAny_comprehension_free (g:=⟨tg,iter,ifs,0⟩) (gs:=rest) rfl hs (closure_eq fun y hy e=>I.ok.has y.1 (.inl (hfr y hy e))) hk (fun y hy e=>by have:=hnd y hy;rw [e] at this;exact this) ?_
  refine thn (hi pins s σ H _ I h) fun v s1 h1=>thn h1 fun itv s2 h2=>?_
  obtain ⟨it,fp,tn,J,H2,e,I2,T,st2,f2,q⟩:=h2
  subst e
  have hfresh : H2 s2.heap.objs.size = none:=I2.hok.fresh (Nat.le_refl _)
  refine wpAny_newObj_type (wp_newBlock ?_)
  dsimp only
  have old : ∀ b o,s2.heap.get? b = some o→(s2.heap.push { cls:=.type "list",dict:=none,data:=.seq ([] : List Value).toArray }).get? b = some o:=fun b o e=>Heap.get?_push_of_some _ e
  have I3 : Inv X pins σ (upd H2 s2.heap.objs.size (.lst [])) { s2 with heap:=s2.heap.push { cls:=.type "list",dict:=none,data:=.seq ([] : List Value).toArray } } :=
    I2.lnew (its:=[]) (t':=s2.toks) .nil (by decide)
  have f3 : ∀ b∈fp,FpOk X pins (upd H2 s2.heap.objs.size (.lst [])) b:=fun b hb=>by
    obtain ⟨o,ho,_⟩:=T.obj _ _ st2 b hb
    exact ⟨by rw [upd_ne (Nat.ne_of_lt (Heap.lt_size ho))];exact (f2 b hb).1,(f2 b hb).2⟩
  have fo3 : ∀ b∈fp,∃ o,({ s2 with heap:=s2.heap.push { cls:=.type "list",dict:=none,data:=.seq ([] : List Value).toArray } } : Shared).heap.get? b = some o:=fun b hb=>by
    obtain ⟨o,ho,_⟩:=T.obj _ _ st2 b hb
    exact ⟨o,old b o ho⟩
  generalize hs3 : ({ s2 with heap:=s2.heap.push { cls:=.type "list",dict:=none,data:=.seq ([] : List Value).toArray } } : Shared) = s3 at I3 fo3 ⊢
  have st3 : tn 0 s3.heap:=by
    rw [← hs3]
    exact T.keep _ _ _ st2 fun b _ o e=>old b o e
  have IB:=blk_start (t:=s3.toks) I3 hb f3 fo3
  have stB : tn 0 (pushCells (s3.heap.push { cls:=.type "dict",data:=.dict #[] }) scope.names):=T.keep _ _ _ st3 fun b _ o e=>pushCells_keeps _ _ b o (Heap.get?_push_of_some _ e)
  have fB : ∀ b∈fp,FpOk (X.blk scope N (cellsFrom (s3.heap.objs.size + 1) scope.names (clOf X.env scope.names [])) s3.heap.objs.size s3 (upd H2 s2.heap.objs.size (.lst [])) fp (X.pn ++ pins)) [] (upd H2 s2.heap.objs.size (.lst [])) b:=fun b hb=>by
    obtain ⟨n0,n1,n2,n3,n4,n5⟩:=f3 b hb
    refine ⟨n0,(IB.ok.exf b hb).1,IB.ok.exfs b hb,.inl hb,(IB.ok.exf b hb).2,fun p hp=>?_⟩
    rw [List.append_nil] at hp
    exact n5 p hp
  have loop : codeAny (model X.prog X.w) X.A (.compLoop (.ListComp elt (⟨tg,iter,ifs,0⟩ :: rest) scope pos) 0 (.ref it) (.ref s2.heap.objs.size) (compEnvC scope (cellsFrom (s3.heap.objs.size + 1) scope.names (clOf X.env scope.names [])) s3.heap.objs.size X.env))
      (compPost (model X.prog X.w) X.A X.xe use Q (.ref s2.heap.objs.size) s3.heap.objs.size) { s3 with heap:=pushCells (s3.heap.push { cls:=.type "dict",data:=.dict #[] }) scope.names }:=by
    refine comp_loop (X:=X.blk scope N (cellsFrom (s3.heap.objs.size + 1) scope.names (clOf X.env scope.names [])) s3.heap.objs.size s3 (upd H2 s2.heap.objs.size (.lst [])) fp (X.pn ++ pins)) rfl hc rfl (by simpa using ha) (hg _ _ _ _ _ _) (ht _ _ _ _ _ _) (hl _ _ _ _ _ _) IB T stB fB (q _ hfresh) fun σ' H' s' I' k'=>?_
    obtain ⟨m,hn,_⟩:=I'.loc
    refine hQ _ _ H' s' m (blk_end I3 f3 I') k' hn I'.free ?_ I3.sz ?_ ?_
    · exact Nat.ne_of_gt I3.lt
    · intro x c e
      obtain ⟨v,o,ho,_⟩:=I3.cell x c e
      exact Nat.ne_of_lt (Heap.lt_size ho)
    · intro p hp
      exact Nat.ne_of_lt (Heap.lt_size (I3.pin p hp).1)
  subst hs3
  exact compStart_gen (d:=0) rfl loop (T.self X.A 0 _ _ _ stB loop)
theorem pe_comp (hc : X.calm = true) (hb : blkOk scope X.env.scope N src X.N = true) (ha : ∀ g',rest[0]? = some g'→g'.is_async = 0)
    (hi : PI X tg iter wi)
    (hg : ∀ cs C s H ex pn,PG (X.blk scope N cs C s H ex pn) tg g) (ht : ∀ cs C s H ex pn,PTs (X.blk scope N cs C s H ex pn) ifs tc)
    (hl : ∀ cs C s H ex pn,PL (X.blk scope N cs C s H ex pn) elt (⟨tg,iter,ifs,0⟩ :: rest) scope pos 0 l)
    (hs : ∀ x,foldedSetIterable iter X.env x = pure x:=by intro _;rfl) : PE X (.ListComp elt (⟨tg,iter,ifs,0⟩ :: rest) scope pos) (tComp src wi g tc l):=.mk <| by
  intro pins s σ H Q I h
  rw [eval_ListComp]
  refine comp_run (use:=none) hc hb ha hi hg ht hl hs I h fun acc C H' s' m I' q' hn hC hL h1 h2 h3=>?_
  exact ⟨m,hn,fun h' hs'=>⟨.ref acc,H',blk_gone I' hC hL h1 h2 h3 hs',rfl,q'⟩⟩
theorem ps_setC {i : Nat} {x : Str} {pos' spos : Pos} (hN : X.N.Nodup) (hi0 : X.N[i]? = some x) (hx : Loc X.env.scope x) (hc : X.calm = true) (hb : blkOk scope X.env.scope N src X.N = true) (ha : ∀ g',rest[0]? = some g'→g'.is_async = 0)
    (hi : PI X tg iter wi)
    (hg : ∀ cs C s H ex pn,PG (X.blk scope N cs C s H ex pn) tg g) (ht : ∀ cs C s H ex pn,PTs (X.blk scope N cs C s H ex pn) ifs tc)
    (hl : ∀ cs C s H ex pn,PL (X.blk scope N cs C s H ex pn) elt (⟨tg,iter,ifs,0⟩ :: rest) scope pos 0 l)
    (hs : ∀ x,foldedSetIterable iter X.env x = pure x:=by intro _;rfl)
    (hsw : swapsWith (.ListComp elt (⟨tg,iter,ifs,0⟩ :: rest) scope pos) (some (.Name x pos')) spos.line X.env = pure true:=by rfl)
    (hf : X.fn x = true∨X.env.scope.names.lookup x = some .local:=by first | exact .inl rfl | exact .inr rfl | assumption) :
    PS X (.Assign [.Name x pos'] (.ListComp elt (⟨tg,iter,ifs,0⟩ :: rest) scope pos) spos) (tAsg (tComp src wi g tc l) (gName i)):=.mk <| by
  intro pins s σ H D I h
  rw [exec_Assign_Name_used _ _ _ _ hsw]
  refine wpAny_bind (wpAny_standAt (wpAny_bind ?_))
  show wpAny _ X.A (do let _ ← comprehension (.ListComp elt (⟨tg,iter,ifs,0⟩ :: rest) scope pos) scope X.env (firstIterPos (⟨tg,iter,ifs,0⟩ :: rest) pos) (newList []) false (firstIter (⟨tg,iter,ifs,0⟩ :: rest) X.env) (some (assign (.Name x pos') X.env))) _ _ s
  refine wpAny_bind (wpAny_mono (comp_run (use:=some (assign (.Name x pos') X.env)) (Q:=fun _ s'=>SP X pins D .next s') hc hb ha hi hg ht hl hs I h fun acc C H' s' m I' q' hn hC hL h1 h2 h3=>?_) (fun _ s' hq=>wpAny_pure (wpAny_pure hq)) fun _ _ e=>e)
  show wpAny _ X.A (assign (.Name x pos') X.env (.ref acc)) _ _ _
  refine wpAny_assign_Name (store_ok2 (v:=.ref acc) I' hN hi0 hx rfl (fun s'' I'' ⟨a,hsb,hwh⟩=>?_) hf)
  have hne : C≠a:=by
    rcases hwh with e | e
    · rw [e];exact hL
    · exact fun z=>h2 x a e z.symm
  exact ⟨m,hn.sameBut hsb hne,fun h' hs'=>⟨σ.set i (some (.ref acc)),H',blk_gone I'' hC hL h1 h2 h3 hs',q'⟩⟩
end
section
variable {X : Cx}
def tyName (H : Hp) : V→Option String
  | .non=>some "NoneType"
  | .bl _=>some "bool"
  | .int _=>some "int"
  | .str _=>some "str"
  | .ref a=>match H a with
    | some (.lst _)=>some "list"
    | some (.tup _)=>some "tuple"
    | some (.dK _)=>some "dict"
    | some (.frz _ (.lst _))=>some "list"
    | _=>none
  | _=>none
def isA (H : Hp) (x : V) (T : String) : Bool:=match tyName H x with
  | some t=>t == T || (t == "bool" && T == "int")
  | none=>false
theorem tyName_of {K : PySem.W.Frag} {H : Hp} {x : V} {t : String} (h : tyName H x = some t) : TyOf K H x (.type t):=by
  cases x with
  | non=>cases h;exact .non
  | bl b=>cases h;exact .bl b
  | int i=>cases h;exact .int i
  | str z=>cases h;exact .str z
  | byt b=>cases h
  | flt b=>cases h
  | ty n=>cases h
  | ref a =>
    unfold tyName at h
    dsimp only at h
    split at h
    · rename_i e;cases h;exact .lst e
    · rename_i e;cases h;exact .tup e
    · rename_i e;cases h;exact .dK e
    · rename_i e;cases h;exact .frz e
    · cases h
def kinds : List String:=["NoneType","bool","int","str","list","tuple","dict"]
theorem tyName_kind {H : Hp} {x : V} {t : String} (h : tyName H x = some t) : t∈kinds:=by
  cases x with
  | non=>cases h;decide
  | bl b=>cases h;decide
  | int i=>cases h;decide
  | str z=>cases h;decide
  | byt b=>cases h
  | flt b=>cases h
  | ty n=>cases h
  | ref a =>
    unfold tyName at h
    dsimp only at h
    split at h<;>first | (cases h;decide) | cases h
theorem kit_ty (K : PySem.W.Frag) {t T : String} (ht : t∈kinds) (hT : T∈kinds) : PySem.W.kitOne K (.type t) (.type T) = some (t == T || (t == "bool" && T == "int")):=by
  simp only [kinds,List.mem_cons,List.not_mem_nil,or_false] at ht hT
  rcases ht with rfl | rfl | rfl | rfl | rfl | rfl | rfl<;>rcases hT with rfl | rfl | rfl | rfl | rfl | rfl | rfl<;>with_unfolding_all rfl
theorem call_isA : CallR X (.builtin "isinstance") (fun xs H Q=>∃ x T,xs = [x,.ty T]∧T∈kinds∧(tyName H x).isSome = true∧Q (.bl (isA H x T)) H):=by
  intro pins s σ H xs us Q I r h
  obtain ⟨x,T,rfl,hT,hs,q⟩:=h
  obtain ⟨u,w',rfl,rx,rT⟩:=vals2 r
  cases (show w' = Value.type T from rT)
  obtain ⟨t,ht⟩:=Option.isSome_iff_exists.mp hs
  refine isinst_ok I rx (tyName_of ht) (kit_ty X.K (tyName_kind ht) hT) fun tk=>⟨.bl (isA H x T),H,I.tok tk,?_,q⟩
  show _ = Value.bool (isA H x T)
  unfold isA
  rw [ht]
theorem vals_bl : ∀ {bs : List Bool} {its : List Value},Vals (bs.map V.bl) its→its = bs.map Value.bool
  | [],_,.nil=>rfl
  | _ :: _,_,.cons r t=>by
    have e : _ = Value.bool _:=r
    rw [e,vals_bl t];rfl
theorem all_range (bs : List Bool) : (List.range bs.length).all (fun i=>bs.getD i false) = bs.all id:=by
  rw [Bool.eq_iff_iff]
  simp only [List.all_eq_true,List.mem_range,id]
  constructor
  · intro h b hb
    obtain ⟨i,hi,e⟩:=List.getElem_of_mem hb
    have:=h i hi
    rw [List.getD_eq_getElem?_getD,List.getElem?_eq_getElem hi] at this
    rw [← e];exact this
  · intro h i hi
    rw [List.getD_eq_getElem?_getD,List.getElem?_eq_getElem hi]
    exact h _ (List.getElem_mem hi)
theorem any_range (bs : List Bool) : (List.range bs.length).any (fun i=>bs.getD i false) = bs.any id:=by
  rw [Bool.eq_iff_iff]
  simp only [List.any_eq_true,List.mem_range,id]
  constructor
  · rintro ⟨i,hi,h⟩
    rw [List.getD_eq_getElem?_getD,List.getElem?_eq_getElem hi] at h
    exact ⟨_,List.getElem_mem hi,h⟩
  · rintro ⟨b,hb,h⟩
    obtain ⟨i,hi,e⟩:=List.getElem_of_mem hb
    refine ⟨i,hi,?_⟩
    rw [List.getD_eq_getElem?_getD,List.getElem?_eq_getElem hi,e]
    exact h
theorem call_all (hc : X.calm = true) : CallR X (.builtin "all") (fun xs H Q=>∃ (a : Addr) (bs : List Bool),xs = [.ref a]∧SqL X.K H a (bs.map V.bl)∧Q (.bl (bs.all id)) H):=by
  intro pins s σ H xs us Q I r h
  obtain ⟨a,bs,rfl,hq,q⟩:=h
  obtain ⟨u,rfl,rx⟩:=vals1 r
  cases rx
  obtain ⟨its,rv,p,hz⟩:=I.list hq
  have e:=vals_bl rv
  subst e
  have hlt : a < s.heap.objs.size:=by
    obtain ⟨o,ho,_⟩:=p.isList
    exact Heap.lt_size ho
  refine call_all_walk (wpAny_pyIter_list p.isList ?_)
  refine ⟨s.heap.objs.size,_,_,_,_,_,fun i=>bs.getD i false,rfl,Walks.list (A:=X.A.in1) (I.ok.hd hc) _ a (Nat.ne_of_lt hlt) _,⟨⟨_,Heap.get?_push_size _ rfl,rfl,rfl⟩,p.isList.push _⟩,?_,fun h' tk hk=>?_⟩
  · intro i v s' Q' E' hP hQ'
    have : (bs.map Value.bool)[i]? = some v:=by simpa using hP
    rw [List.getElem?_map] at this
    cases e : bs[i]? with
    | none=>rw [e] at this;cases this
    | some b =>
      rw [e] at this
      cases this
      refine wpAny_truthy_bool ?_
      dsimp only at hQ'
      rw [List.getD_eq_getElem?_getD,e] at hQ'
      exact hQ'
  · refine ⟨.bl (bs.all id),H,I.kept (t':=tk) fun b o e=>hk b o (fun hm=>?_) (Heap.get?_push_of_some _ e),?_,q⟩
    · have : b = s.heap.objs.size:=by simpa using hm
      exact absurd (this ▸ Heap.lt_size e) (Nat.lt_irrefl _)
    · show _ = Value.bool _
      rw [← all_range]
      simp
theorem call_any (hc : X.calm = true) : CallR X (.builtin "any") (fun xs H Q=>∃ (a : Addr) (bs : List Bool),xs = [.ref a]∧SqL X.K H a (bs.map V.bl)∧Q (.bl (bs.any id)) H):=by
  intro pins s σ H xs us Q I r h
  obtain ⟨a,bs,rfl,hq,q⟩:=h
  obtain ⟨u,rfl,rx⟩:=vals1 r
  cases rx
  obtain ⟨its,rv,p,hz⟩:=I.list hq
  have e:=vals_bl rv
  subst e
  have hlt : a < s.heap.objs.size:=by
    obtain ⟨o,ho,_⟩:=p.isList
    exact Heap.lt_size ho
  refine call_any_walk (wpAny_pyIter_list p.isList ?_)
  refine ⟨s.heap.objs.size,_,_,_,_,_,fun i=>bs.getD i false,rfl,Walks.list (A:=X.A.in1) (I.ok.hd hc) _ a (Nat.ne_of_lt hlt) _,⟨⟨_,Heap.get?_push_size _ rfl,rfl,rfl⟩,p.isList.push _⟩,?_,fun h' tk hk=>?_⟩
  · intro i v s' Q' E' hP hQ'
    have : (bs.map Value.bool)[i]? = some v:=by simpa using hP
    rw [List.getElem?_map] at this
    cases e : bs[i]? with
    | none=>rw [e] at this;cases this
    | some b =>
      rw [e] at this
      cases this
      refine wpAny_truthy_bool ?_
      dsimp only at hQ'
      rw [List.getD_eq_getElem?_getD,e] at hQ'
      exact hQ'
  · refine ⟨.bl (bs.any id),H,I.kept (t':=tk) fun b o e=>hk b o (fun hm=>?_) (Heap.get?_push_of_some _ e),?_,q⟩
    · have : b = s.heap.objs.size:=by simpa using hm
      exact absurd (this ▸ Heap.lt_size e) (Nat.lt_irrefl _)
    · show _ = Value.bool _
      rw [← any_range]
      simp
end
end L2
set_option autoImplicit false
namespace L2
open PySem PySem.Spec PyProof.Rows
inductive D where
  | non | bl (b : Bool) | int (i : Int) | str (x : Str) | tup (ds : List D) | lst (ds : List D)
mutual
def Dat (H : Hp) : D→V→Prop
  | .non,v=>v = .non
  | .bl b,v=>v = .bl b
  | .int i,v=>v = .int i
  | .str x,v=>v = .str x
  | .tup ds,v=>∃ a xs,v = .ref a∧H a = some (.tup xs)∧Dats H ds xs
  | .lst ds,v=>∃ a xs,v = .ref a∧H a = some (.lst xs)∧Dats H ds xs
def Dats (H : Hp) : List D→List V→Prop
  | [],xs=>xs = []
  | d :: ds,xs=>∃ x r,xs = x :: r∧Dat H d x∧Dats H ds r
end
mutual
def dep : D→Nat
  | .tup ds=>deps ds + 1
  | .lst ds=>deps ds + 1
  | _=>0
def deps : List D→Nat
  | []=>0
  | d :: ds=>max (dep d) (deps ds)
end
mutual
def eqD : D→D→Bool
  | .non,.non=>true
  | .bl a,.bl b=>a == b
  | .bl a,.int b=>(if a then 1 else 0) == b
  | .int a,.bl b=>a == (if b then 1 else 0)
  | .int a,.int b=>a == b
  | .str a,.str b=>a == b
  | .tup a,.tup b=>eqDs a b
  | .lst a,.lst b=>eqDs a b
  | _,_=>false
def eqDs : List D→List D→Bool
  | [],[]=>true
  | x :: xs,y :: ys=>eqD x y && eqDs xs ys
  | _,_=>false
end
theorem deps_mem : ∀ {ds : List D} {d : D},d∈ds→dep d≤deps ds
  | d :: ds,e,h=>by
    unfold deps
    rcases List.mem_cons.mp h with rfl | h
    · exact Nat.le_max_left _ _
    · exact Nat.le_trans (deps_mem h) (Nat.le_max_right _ _)
theorem Dats.length : ∀ {H : Hp} {ds : List D} {xs : List V},Dats H ds xs→xs.length = ds.length
  | H,[],xs,h=>by
    have e : xs = []:=by simpa [Dats] using h
    rw [e];rfl
  | H,d :: ds,xs,h=>by
    obtain ⟨x,r,rfl,_,t⟩ : ∃ x r,xs = x :: r∧Dat H d x∧Dats H ds r:=by simpa only [Dats] using h
    rw [List.length_cons,List.length_cons,Dats.length t]
theorem Dats.get : ∀ {H : Hp} {ds : List D} {xs : List V} {i : Nat} {d : D},Dats H ds xs→ds[i]? = some d→∃ x,xs[i]? = some x∧Dat H d x
  | H,[],xs,i,d,h,e=>by simp at e
  | H,d' :: ds,xs,i,d,h,e=>by
    obtain ⟨x,r,rfl,hx,t⟩ : ∃ x r,xs = x :: r∧Dat H d' x∧Dats H ds r:=by simpa only [Dats] using h
    cases i with
    | zero=>simp at e;subst e;exact ⟨x,rfl,hx⟩
    | succ i=>simpa using Dats.get t (i:=i) (by simpa using e)
theorem Dats.append : ∀ {H : Hp} {ds es : List D} {xs ys : List V},Dats H ds xs→Dats H es ys→Dats H (ds ++ es) (xs ++ ys)
  | H,[],es,xs,ys,h,h'=>by
    have e : xs = []:=by simpa [Dats] using h
    rw [e];exact h'
  | H,d :: ds,es,xs,ys,h,h'=>by
    obtain ⟨x,r,rfl,hx,t⟩ : ∃ x r,xs = x :: r∧Dat H d x∧Dats H ds r:=by simpa only [Dats] using h
    show Dats H (d :: (ds ++ es)) (x :: (r ++ ys))
    simp only [Dats]
    exact ⟨x,r ++ ys,rfl,hx,Dats.append t h'⟩
theorem Dats.one {H : Hp} {d : D} {x : V} (h : Dat H d x) : Dats H [d] [x]:=by
  simp only [Dats]
  exact ⟨x,[],rfl,h,rfl⟩
mutual
theorem Dat.same {H H' : Hp} (e : Same H H') : ∀ {d : D} {v : V},Dat H d v→Dat H' d v
  | .non,v,h=>by simpa only [Dat] using h
  | .bl b,v,h=>by simpa only [Dat] using h
  | .int i,v,h=>by simpa only [Dat] using h
  | .str x,v,h=>by simpa only [Dat] using h
  | .tup ds,v,h=>by
    simp only [Dat] at h ⊢
    obtain ⟨a,xs,rfl,h1,h2⟩:=h
    exact ⟨a,xs,rfl,e a _ h1,Dats.same e h2⟩
  | .lst ds,v,h=>by
    simp only [Dat] at h ⊢
    obtain ⟨a,xs,rfl,h1,h2⟩:=h
    exact ⟨a,xs,rfl,e a _ h1,Dats.same e h2⟩
theorem Dats.same {H H' : Hp} (e : Same H H') : ∀ {ds : List D} {xs : List V},Dats H ds xs→Dats H' ds xs
  | [],xs,h=>by simpa only [Dats] using h
  | d :: ds,xs,h=>by
    simp only [Dats] at h ⊢
    obtain ⟨x,r,rfl,h1,h2⟩:=h
    exact ⟨x,r,rfl,Dat.same e h1,Dats.same e h2⟩
end
mutual
theorem Dat.inj {H : Hp} : ∀ {d e : D} {v : V},Dat H d v→Dat H e v→d = e
  | .non,e,v,h,h'=>by
    simp only [Dat] at h;subst h
    cases e<;>simp only [Dat] at h'<;>first | rfl | (obtain ⟨_,_,h',_⟩:=h';cases h';done) | (cases h';done)
  | .bl b,e,v,h,h'=>by
    simp only [Dat] at h;subst h
    cases e<;>simp only [Dat] at h'<;>first | (obtain ⟨_,_,h',_⟩:=h';cases h';done) | (cases h';rfl) | (cases h';done)
  | .int i,e,v,h,h'=>by
    simp only [Dat] at h;subst h
    cases e<;>simp only [Dat] at h'<;>first | (obtain ⟨_,_,h',_⟩:=h';cases h';done) | (cases h';rfl) | (cases h';done)
  | .str x,e,v,h,h'=>by
    simp only [Dat] at h;subst h
    cases e<;>simp only [Dat] at h'<;>first | (obtain ⟨_,_,h',_⟩:=h';cases h';done) | (cases h';rfl) | (cases h';done)
  | .tup ds,e,v,h,h'=>by
    simp only [Dat] at h
    obtain ⟨a,xs,rfl,h1,h2⟩:=h
    cases e with
    | tup es =>
      simp only [Dat] at h'
      obtain ⟨b,ys,e1,h3,h4⟩:=h'
      cases e1
      rw [h1] at h3;cases h3
      rw [Dats.inj h2 h4]
    | lst es =>
      simp only [Dat] at h'
      obtain ⟨b,ys,e1,h3,h4⟩:=h'
      cases e1
      rw [h1] at h3;cases h3
    | _=>simp only [Dat] at h';cases h'
  | .lst ds,e,v,h,h'=>by
    simp only [Dat] at h
    obtain ⟨a,xs,rfl,h1,h2⟩:=h
    cases e with
    | lst es =>
      simp only [Dat] at h'
      obtain ⟨b,ys,e1,h3,h4⟩:=h'
      cases e1
      rw [h1] at h3;cases h3
      rw [Dats.inj h2 h4]
    | tup es =>
      simp only [Dat] at h'
      obtain ⟨b,ys,e1,h3,h4⟩:=h'
      cases e1
      rw [h1] at h3;cases h3
    | _=>simp only [Dat] at h';cases h'
theorem Dats.inj {H : Hp} : ∀ {ds es : List D} {xs : List V},Dats H ds xs→Dats H es xs→ds = es
  | [],[],_,_,_=>rfl
  | [],e :: es,xs,h,h'=>by
    simp only [Dats] at h h'
    obtain ⟨x,r,rfl,_⟩:=h'
    cases h
  | d :: ds,[],xs,h,h'=>by
    simp only [Dats] at h h'
    obtain ⟨x,r,rfl,_⟩:=h
    cases h'
  | d :: ds,e :: es,xs,h,h'=>by
    simp only [Dats] at h h'
    obtain ⟨x,r,rfl,h1,h2⟩:=h
    obtain ⟨x',r',e1,h3,h4⟩:=h'
    cases e1
    rw [Dat.inj h1 h3,Dats.inj h2 h4]
end
mutual
theorem eqD_refl : ∀ d : D,eqD d d = true
  | .non=>by simp [eqD]
  | .bl b=>by simp [eqD]
  | .int i=>by simp [eqD]
  | .str x=>by simp [eqD]
  | .tup ds=>by simp only [eqD];exact eqDs_refl ds
  | .lst ds=>by simp only [eqD];exact eqDs_refl ds
theorem eqDs_refl : ∀ ds : List D,eqDs ds ds = true
  | []=>by simp [eqDs]
  | d :: ds=>by simp only [eqDs,eqD_refl d,eqDs_refl ds,Bool.and_self]
end
theorem eqDs_len : ∀ {ds es : List D},ds.length≠es.length→eqDs ds es = false
  | [],[],h=>absurd rfl h
  | [],_ :: _,_=>by simp [eqDs]
  | _ :: _,[],_=>by simp [eqDs]
  | d :: ds,e :: es,h=>by
    simp only [eqDs,eqDs_len (ds:=ds) (es:=es) (by simpa using h),Bool.and_false]
theorem eqDs_range : ∀ {ds es : List D},ds.length = es.length→(List.range ds.length).all (fun j=>eqD (ds.getD j .non) (es.getD j .non)) = eqDs ds es
  | [],[],_=>by simp [eqDs]
  | [],_ :: _,h=>by simp at h
  | _ :: _,[],h=>by simp at h
  | d :: ds,e :: es,h=>by
    have ih:=eqDs_range (ds:=ds) (es:=es) (by simpa using h)
    rw [List.length_cons,List.range_succ_eq_map,List.all_cons,List.all_map]
    simp only [eqDs,← ih]
    rfl
section
variable {X : Cx} {pins : List (Addr × Obj)} {σ : St} {H : Hp} {s : Shared}
theorem vals_at : ∀ {xs : List V} {us : List Value} {j : Nat} {x : V},Vals xs us→xs[j]? = some x→∀ (h : j < us.toArray.size),RelV x us.toArray[j]:=fun {xs us j x} r e h=>by
  obtain ⟨u,h1,h2⟩:=r.get e
  have : us[j]? = some us.toArray[j]:=by
    rw [List.getElem?_eq_getElem (by simpa using h)]
    simp
  rw [h1] at this
  cases this
  exact h2
theorem tup_at (I : Inv X pins σ H s) {a : Addr} {xs : List V} (h : H a = some (.tup xs)) : ∃ its : List Value,Vals xs its∧s.heap.IsTuple a its.toArray:=by
  obtain ⟨its,r,p,_⟩:=I.tuple (SqT.of (K:=X.K) h)
  exact ⟨its,r,p⟩
theorem lst_at (I : Inv X pins σ H s) {a : Addr} {xs : List V} (h : H a = some (.lst xs)) : ∃ its : List Value,Vals xs its∧s.heap.IsList a its.toArray:=by
  obtain ⟨its,r,p,_⟩:=I.list (SqL.of (K:=X.K) h)
  exact ⟨its,r,p.isList⟩
theorem eqDs_min {ds es : List D} : ((List.range (min ds.length es.length)).all (fun j=>eqD (ds.getD j .non) (es.getD j .non)) && ds.length == es.length) = eqDs ds es:=by
  by_cases h : ds.length = es.length
  · rw [← eqDs_range h]
    have : min ds.length es.length = ds.length:=by omega
    rw [this]
    simp [h]
  · rw [eqDs_len h]
    have : (ds.length == es.length) = false:=by simpa using h
    rw [this,Bool.and_false]
theorem eqAt_D (I : Inv X pins σ H s) (n : Nat) : ∀ (d e : D) (x y : V) (v u : Value) (A : Around),dep d≤n→A.units + n < cLine→Dat H d x→Dat H e y→RelV x v→RelV y u →
    SeqAt.RcAt A s v u (eqD d e)∧SeqAt.EqAt A s v u (eqD d e)∧SeqAt.RcNeAt A s v u (!eqD d e):=by
  induction n with
  | zero =>
    intro d e x y v u A hd hu hx hy rx ry
    have hu' : A.units < cLine:=by omega
    cases d with
    | tup ds=>simp only [dep] at hd;omega
    | lst ds=>simp only [dep] at hd;omega
    | non =>
      simp only [Dat] at hx;subst hx;cases rx
      cases e with
      | non=>simp only [Dat] at hy;subst hy;cases ry;exact ⟨SeqAt.RcAt.none_none,SeqAt.EqAt.same _,SeqAt.RcNeAt.none_none⟩
      | bl b=>simp only [Dat] at hy;subst hy;cases ry;exact ⟨SeqAt.RcAt.none_bool b,SeqAt.EqAt.none_bool b,SeqAt.RcNeAt.none_bool b⟩
      | int b=>simp only [Dat] at hy;subst hy;obtain ⟨t,rfl⟩:=ry;exact ⟨SeqAt.RcAt.none_int b t,SeqAt.EqAt.none_int b t,SeqAt.RcNeAt.none_int b t⟩
      | str b=>simp only [Dat] at hy;subst hy;obtain ⟨t,rfl⟩:=ry;exact ⟨SeqAt.RcAt.none_str b t,SeqAt.EqAt.none_str b t,SeqAt.RcNeAt.none_str b t⟩
      | tup es =>
        simp only [Dat] at hy;obtain ⟨b,ys,rfl,hb,_⟩:=hy;cases ry
        obtain ⟨its,_,p⟩:=tup_at I hb
        exact ⟨SeqAt.RcAt.none_tuple p hu',SeqAt.EqAt.none_tuple p hu',SeqAt.RcNeAt.none_tuple p hu'⟩
      | lst es =>
        simp only [Dat] at hy;obtain ⟨b,ys,rfl,hb,_⟩:=hy;cases ry
        obtain ⟨its,_,p⟩:=lst_at I hb
        exact ⟨SeqAt.RcAt.none_list p hu',SeqAt.EqAt.none_list p hu',SeqAt.RcNeAt.none_list p hu'⟩
    | bl a =>
      simp only [Dat] at hx;subst hx;cases rx
      cases e with
      | non=>simp only [Dat] at hy;subst hy;cases ry;exact ⟨SeqAt.RcAt.bool_none a,SeqAt.EqAt.bool_none a,SeqAt.RcNeAt.bool_none a⟩
      | bl b=>simp only [Dat] at hy;subst hy;cases ry;exact ⟨SeqAt.RcAt.bool_bool a b,SeqAt.EqAt.bool_bool a b,SeqAt.RcNeAt.bool_bool a b⟩
      | int b=>simp only [Dat] at hy;subst hy;obtain ⟨t,rfl⟩:=ry;exact ⟨SeqAt.RcAt.bool_int a b t,SeqAt.EqAt.bool_int a b t,SeqAt.RcNeAt.bool_int a b t⟩
      | str b=>simp only [Dat] at hy;subst hy;obtain ⟨t,rfl⟩:=ry;exact ⟨SeqAt.RcAt.bool_str a b t,SeqAt.EqAt.bool_str a b t,SeqAt.RcNeAt.bool_str a b t⟩
      | tup es =>
        simp only [Dat] at hy;obtain ⟨b,ys,rfl,hb,_⟩:=hy;cases ry
        obtain ⟨its,_,p⟩:=tup_at I hb
        exact ⟨SeqAt.RcAt.bool_tuple a p hu',SeqAt.EqAt.bool_tuple a p hu',SeqAt.RcNeAt.bool_tuple a p hu'⟩
      | lst es =>
        simp only [Dat] at hy;obtain ⟨b,ys,rfl,hb,_⟩:=hy;cases ry
        obtain ⟨its,_,p⟩:=lst_at I hb
        exact ⟨SeqAt.RcAt.bool_list a p hu',SeqAt.EqAt.bool_list a p hu',SeqAt.RcNeAt.bool_list a p hu'⟩
    | int a =>
      simp only [Dat] at hx;subst hx;obtain ⟨t',rfl⟩:=rx
      cases e with
      | non=>simp only [Dat] at hy;subst hy;cases ry;exact ⟨SeqAt.RcAt.int_none a t',SeqAt.EqAt.int_none a t',SeqAt.RcNeAt.int_none a t'⟩
      | bl b=>simp only [Dat] at hy;subst hy;cases ry;exact ⟨SeqAt.RcAt.int_bool a t' b,SeqAt.EqAt.int_bool a t' b,SeqAt.RcNeAt.int_bool a t' b⟩
      | int b=>simp only [Dat] at hy;subst hy;obtain ⟨t,rfl⟩:=ry;exact ⟨SeqAt.RcAt.int_int a t' b t,SeqAt.EqAt.int_int a t' b t,SeqAt.RcNeAt.int_int a t' b t⟩
      | str b=>simp only [Dat] at hy;subst hy;obtain ⟨t,rfl⟩:=ry;exact ⟨SeqAt.RcAt.int_str a t' b t,SeqAt.EqAt.int_str a t' b t,SeqAt.RcNeAt.int_str a t' b t⟩
      | tup es =>
        simp only [Dat] at hy;obtain ⟨b,ys,rfl,hb,_⟩:=hy;cases ry
        obtain ⟨its,_,p⟩:=tup_at I hb
        exact ⟨SeqAt.RcAt.int_tuple a t' p hu',SeqAt.EqAt.int_tuple a t' p hu',SeqAt.RcNeAt.int_tuple a t' p hu'⟩
      | lst es =>
        simp only [Dat] at hy;obtain ⟨b,ys,rfl,hb,_⟩:=hy;cases ry
        obtain ⟨its,_,p⟩:=lst_at I hb
        exact ⟨SeqAt.RcAt.int_list a t' p hu',SeqAt.EqAt.int_list a t' p hu',SeqAt.RcNeAt.int_list a t' p hu'⟩
    | str a =>
      simp only [Dat] at hx;subst hx;obtain ⟨t',rfl⟩:=rx
      cases e with
      | non=>simp only [Dat] at hy;subst hy;cases ry;exact ⟨SeqAt.RcAt.str_none a t',SeqAt.EqAt.str_none a t',SeqAt.RcNeAt.str_none a t'⟩
      | bl b=>simp only [Dat] at hy;subst hy;cases ry;exact ⟨SeqAt.RcAt.str_bool a t' b,SeqAt.EqAt.str_bool a t' b,SeqAt.RcNeAt.str_bool a t' b⟩
      | int b=>simp only [Dat] at hy;subst hy;obtain ⟨t,rfl⟩:=ry;exact ⟨SeqAt.RcAt.str_int a t' b t,SeqAt.EqAt.str_int a t' b t,SeqAt.RcNeAt.str_int a t' b t⟩
      | str b=>simp only [Dat] at hy;subst hy;obtain ⟨t,rfl⟩:=ry;exact ⟨SeqAt.RcAt.str_str a t' b t,SeqAt.EqAt.str_str a t' b t,SeqAt.RcNeAt.str_str a t' b t⟩
      | tup es =>
        simp only [Dat] at hy;obtain ⟨b,ys,rfl,hb,_⟩:=hy;cases ry
        obtain ⟨its,_,p⟩:=tup_at I hb
        exact ⟨SeqAt.RcAt.str_tuple a t' p hu',SeqAt.EqAt.str_tuple a t' p hu',SeqAt.RcNeAt.str_tuple a t' p hu'⟩
      | lst es =>
        simp only [Dat] at hy;obtain ⟨b,ys,rfl,hb,_⟩:=hy;cases ry
        obtain ⟨its,_,p⟩:=lst_at I hb
        exact ⟨SeqAt.RcAt.str_list a t' p hu',SeqAt.EqAt.str_list a t' p hu',SeqAt.RcNeAt.str_list a t' p hu'⟩
  | succ n ih =>
    intro d e x y v u A hd hu hx hy rx ry
    have hu' : A.units < cLine:=by omega
    by_cases h0 : dep d≤n
    · exact ih d e x y v u A h0 (by omega) hx hy rx ry
    have hin : A.in1.units + n < cLine:=by show A.units + 1 + n < cLine;omega
    have items : ∀ (ds es : List D) (xs ys : List V) (its its2 : List Value),deps ds≤n→Dats H ds xs→Dats H es ys→Vals xs its→Vals ys its2 →
        ∀ j (h1 : j < its.toArray.size) (h2 : j < its2.toArray.size),SeqAt.EqAt A.in1 s its.toArray[j] its2.toArray[j] (eqD (ds.getD j .non) (es.getD j .non)):=by
      intro ds es xs ys its its2 hdp hxs hys r1 r2 j h1 h2
      have l1 : j < ds.length:=by rw [← hxs.length,r1.length];simpa using h1
      have l2 : j < es.length:=by rw [← hys.length,r2.length];simpa using h2
      obtain ⟨x',ex,hx'⟩:=hxs.get (List.getElem?_eq_getElem l1)
      obtain ⟨y',ey,hy'⟩:=hys.get (List.getElem?_eq_getElem l2)
      have g1 : ds.getD j .non = ds[j]:=by rw [List.getD_eq_getElem?_getD,List.getElem?_eq_getElem l1];rfl
      have g2 : es.getD j .non = es[j]:=by rw [List.getD_eq_getElem?_getD,List.getElem?_eq_getElem l2];rfl
      rw [g1,g2]
      exact (ih ds[j] es[j] x' y' _ _ A.in1 (Nat.le_trans (deps_mem (List.getElem_mem l1)) hdp) hin hx' hy' (vals_at r1 ex h1) (vals_at r2 ey h2)).2.1
    cases d with
    | non=>simp only [dep] at h0;omega
    | bl a=>simp only [dep] at h0;omega
    | int a=>simp only [dep] at h0;omega
    | str a=>simp only [dep] at h0;omega
    | tup ds =>
      simp only [dep] at hd
      have hx0:=hx
      simp only [Dat] at hx;obtain ⟨a,xs,rfl,ha,hxs⟩:=hx;cases rx
      obtain ⟨its,r1,p⟩:=tup_at I ha
      cases e with
      | non=>simp only [Dat] at hy;subst hy;cases ry;exact ⟨SeqAt.RcAt.tuple_none p hu',SeqAt.EqAt.tuple_none p hu',SeqAt.RcNeAt.tuple_none p hu'⟩
      | bl b=>simp only [Dat] at hy;subst hy;cases ry;exact ⟨SeqAt.RcAt.tuple_bool b p hu',SeqAt.EqAt.tuple_bool b p hu',SeqAt.RcNeAt.tuple_bool b p hu'⟩
      | int b=>simp only [Dat] at hy;subst hy;obtain ⟨t,rfl⟩:=ry;exact ⟨SeqAt.RcAt.tuple_int b t p hu',SeqAt.EqAt.tuple_int b t p hu',SeqAt.RcNeAt.tuple_int b t p hu'⟩
      | str b=>simp only [Dat] at hy;subst hy;obtain ⟨t,rfl⟩:=ry;exact ⟨SeqAt.RcAt.tuple_str b t p hu',SeqAt.EqAt.tuple_str b t p hu',SeqAt.RcNeAt.tuple_str b t p hu'⟩
      | lst es =>
        simp only [Dat] at hy;obtain ⟨b,ys,rfl,hb,_⟩:=hy;cases ry
        obtain ⟨its2,_,p2⟩:=lst_at I hb
        exact ⟨SeqAt.RcAt.tuple_list p p2 hu',SeqAt.EqAt.tuple_list p p2 hu',SeqAt.RcNeAt.tuple_list p p2 hu'⟩
      | tup es =>
        have hy0:=hy
        simp only [Dat] at hy;obtain ⟨b,ys,rfl,hb,hys⟩:=hy;cases ry
        obtain ⟨its2,r2,p2⟩:=tup_at I hb
        have it:=items ds es xs ys its its2 (by omega) hxs hys r1 r2
        have z1 : its.toArray.size = ds.length:=by rw [← hxs.length,r1.length];simp
        have z2 : its2.toArray.size = es.length:=by rw [← hys.length,r2.length];simp
        have e0:=eqDs_min (ds:=ds) (es:=es)
        have rc : SeqAt.RcAt A s (.ref a) (.ref b) (eqDs ds es):=by
          have:=SeqAt.RcAt.tuples p p2 hu' it
          rw [z1,z2,e0] at this
          exact this
        have rn : SeqAt.RcNeAt A s (.ref a) (.ref b) (!eqDs ds es):=by
          have:=SeqAt.RcNeAt.tuples p p2 hu' it
          rw [z1,z2,e0] at this
          exact this
        simp only [eqD]
        refine ⟨rc,?_,rn⟩
        by_cases hab : a = b
        · subst hab
          have : D.tup ds = D.tup es:=hx0.inj hy0
          cases this
          rw [eqDs_refl]
          exact SeqAt.EqAt.same _
        · exact .of_refs hab rc
    | lst ds =>
      simp only [dep] at hd
      have hx0:=hx
      simp only [Dat] at hx;obtain ⟨a,xs,rfl,ha,hxs⟩:=hx;cases rx
      obtain ⟨its,r1,p⟩:=lst_at I ha
      cases e with
      | non=>simp only [Dat] at hy;subst hy;cases ry;exact ⟨SeqAt.RcAt.list_none p hu',SeqAt.EqAt.list_none p hu',SeqAt.RcNeAt.list_none p hu'⟩
      | bl b=>simp only [Dat] at hy;subst hy;cases ry;exact ⟨SeqAt.RcAt.list_bool b p hu',SeqAt.EqAt.list_bool b p hu',SeqAt.RcNeAt.list_bool b p hu'⟩
      | int b=>simp only [Dat] at hy;subst hy;obtain ⟨t,rfl⟩:=ry;exact ⟨SeqAt.RcAt.list_int b t p hu',SeqAt.EqAt.list_int b t p hu',SeqAt.RcNeAt.list_int b t p hu'⟩
      | str b=>simp only [Dat] at hy;subst hy;obtain ⟨t,rfl⟩:=ry;exact ⟨SeqAt.RcAt.list_str b t p hu',SeqAt.EqAt.list_str b t p hu',SeqAt.RcNeAt.list_str b t p hu'⟩
      | tup es =>
        simp only [Dat] at hy;obtain ⟨b,ys,rfl,hb,_⟩:=hy;cases ry
        obtain ⟨its2,_,p2⟩:=tup_at I hb
        exact ⟨SeqAt.RcAt.list_tuple p p2 hu',SeqAt.EqAt.list_tuple p p2 hu',SeqAt.RcNeAt.list_tuple p p2 hu'⟩
      | lst es =>
        have hy0:=hy
        simp only [Dat] at hy;obtain ⟨b,ys,rfl,hb,hys⟩:=hy;cases ry
        obtain ⟨its2,r2,p2⟩:=lst_at I hb
        have it:=items ds es xs ys its its2 (by omega) hxs hys r1 r2
        have z1 : its.toArray.size = ds.length:=by rw [← hxs.length,r1.length];simp
        have z2 : its2.toArray.size = es.length:=by rw [← hys.length,r2.length];simp
        have both : SeqAt.RcAt A s (.ref a) (.ref b) (eqDs ds es)∧SeqAt.RcNeAt A s (.ref a) (.ref b) (!eqDs ds es):=by
          by_cases hl : ds.length = es.length
          · have r:=SeqAt.RcAt.lists p p2 (by rw [z1,z2];exact hl) hu' it
            have q:=SeqAt.RcNeAt.lists p p2 (by rw [z1,z2];exact hl) hu' it
            rw [z1,eqDs_range hl] at r q
            exact ⟨r,q⟩
          · have hne : (its.toArray.size != its2.toArray.size) = true:=by rw [z1,z2];simpa using hl
            rw [eqDs_len hl]
            exact ⟨SeqAt.RcAt.lists_lengths p p2 hne hu',SeqAt.RcNeAt.lists_lengths p p2 hne hu'⟩
        simp only [eqD]
        refine ⟨both.1,?_,both.2⟩
        by_cases hab : a = b
        · subst hab
          have : D.lst ds = D.lst es:=hx0.inj hy0
          cases this
          rw [eqDs_refl]
          exact SeqAt.EqAt.same _
        · exact .of_refs hab both.1
def rEqD (neg : Bool) : R2:=fun x y H Q=>∃ d e,Dat H d x∧Dat H e y∧dep d≤100∧Q (.bl (if neg then !eqD d e else eqD d e)) H
theorem op_eqD (hu : X.A.units + 100 < cLine) : OpR X (compareOp .Eq) (rEqD false):=by
  intro pins s σ H x y v u Q I rx ry h
  obtain ⟨d,e,hx,hy,hd,q⟩:=h
  exact (eqAt_D I 100 d e x y v u X.A hd hu hx hy rx ry).1 X.prog X.w _ _ ⟨.bl _,H,I,rfl,q⟩
theorem op_neD (hu : X.A.units + 100 < cLine) : OpR X (compareOp .NotEq) (rEqD true):=by
  intro pins s σ H x y v u Q I rx ry h
  obtain ⟨d,e,hx,hy,hd,q⟩:=h
  exact (eqAt_D I 100 d e x y v u X.A hd hu hx hy rx ry).2.2 X.prog X.w _ _ ⟨.bl _,H,I,rfl,q⟩
end
theorem same_upd {H : Hp} {p : Addr} {o : HO} (h : H p = none) : Same H (upd H p o):=fun b u e=>by
  rw [upd_ne (ne_of_none e h)];exact e
theorem dats_ints_eq {H : Hp} : ∀ {ns : List Int} {xs : List V},Dats H (ns.map D.int) xs→xs = ns.map V.int
  | [],xs,h=>by simpa [Dats] using h
  | n :: r,xs,h=>by
    simp only [List.map_cons,Dats] at h
    obtain ⟨x,t,rfl,h1,h2⟩:=h
    rw [dats_ints_eq h2]
    simp only [Dat] at h1
    rw [h1];rfl
section
variable {X : Cx}
end
section
variable {K : PySem.W.Frag} {g : TG} {tc : TT} {l : TL} {acc : Addr} {σ : St} {H : Hp} {R : St→Hp→Prop}
end
theorem cmul_mod {e k y : Int} (h : 0 < k) (h2 : k≤2 ^ 64) : CMul (e % k) y:=by
  have h1:=Int.emod_nonneg e (Int.ne_of_gt h)
  have h3:=Int.emod_lt_of_pos e h
  exact .inl ⟨by omega,by omega⟩
theorem cmul_l {x y : Int} (h : -(2 ^ 64) < x∧x < 2 ^ 64) : CMul x y:=.inl h
theorem cmul_r {x y : Int} (h : -(2 ^ 64) < y∧y < 2 ^ 64) : CMul x y:=.inr h
section
variable {X : Cx} {tg a b l : Expr} {ta tb tl : TE} {pos : Pos}
theorem ix_seqK (K : PySem.W.Frag) (h : X.K = K) : IxR X (rIx K):=h ▸ ix_seq
theorem call_lenK (K : PySem.W.Frag) (h : X.K = K) : CallR X (.builtin "len") (fun xs H Q=>∃ x n,xs = [x]∧LenV K x H n∧Q (.int n) H):=h ▸ call_len
theorem call_allK (K : PySem.W.Frag) (h : X.K = K) (hc : X.calm = true) : CallR X (.builtin "all") (fun xs H Q=>∃ (a : Addr) (bs : List Bool),xs = [.ref a]∧SqL K H a (bs.map V.bl)∧Q (.bl (bs.all id)) H):=h ▸ call_all hc
theorem call_anyK (K : PySem.W.Frag) (h : X.K = K) (hc : X.calm = true) : CallR X (.builtin "any") (fun xs H Q=>∃ (a : Addr) (bs : List Bool),xs = [.ref a]∧SqL K H a (bs.map V.bl)∧Q (.bl (bs.any id)) H):=h ▸ call_any hc
theorem pt_truthK (K : PySem.W.Frag) (h : X.K = K) (ha : PE X a ta) (he : ∀ whole,isTrue a X.env whole = (do let v ← whole;standAt a.pos;holding [v] (truthy v))) :
    PT X a (fun σ H Q=>ta σ H fun x H'=>∃ k,TruV K x H' k∧Q k H'):=h ▸ pt_truth ha he
theorem call_list_ofK (K : PySem.W.Frag) (h : X.K = K) : CallR X (.type "list") (fun xs H Q=>∃ p ys,xs = [.ref p]∧(SqL K H p ys∨SqT K H p ys)∧∀ l,H l = none→Q (.ref l) (upd H l (.lst ys))):=h ▸ call_list_of
theorem call_tuple_ofK (K : PySem.W.Frag) (h : X.K = K) : CallR X (.type "tuple") (fun xs H Q=>∃ p ys,xs = [.ref p]∧((SqL K H p ys∧∀ l,H l = none→Q (.ref l) (upd H l (.tup ys)))∨(SqT K H p ys∧Q (.ref p) H))):=h ▸ call_tuple_of
end
def forW (J : It) (g : TG) (tb : TS) (D : Ends) (σ : St) (H : Hp) : Prop:=∃ W : Nat→Nat→St→Hp→Prop,(∃ m,W 0 m σ H)∧∀ i m σ H,W i m σ H →
  (J.stop i H∧D.nx σ H)∨(J.go i H∧∃ N : St→Hp→Prop,(∀ σ' H',N σ' H'→∃ m',m' < m∧W (i + 1) m' σ' H')∧∀ x H',J.yld i H x H'→g x σ H' fun σ2 H2=>tb { D with nx:=N,ct:=N,bk:=D.nx } σ2 H2)
theorem tFor_eq (wi : TI) (g : TG) (tb : TS) (D : Ends) (σ : St) (H : Hp) : tFor wi g tb D σ H = wi σ H fun J H1=>forW J g tb D σ H1:=rfl
section
variable {K : PySem.W.Frag} {a : Addr} {xs : List V} {g : TG} {tb : TS} {D : Ends} {σ : St} {H : Hp}
end
def TSame (H H' : Hp) : Prop:=∀ b xs,H b = some (.tup xs)→H' b = some (.tup xs)
mutual
def noL : D→Bool
  | .lst _=>false
  | .tup ds=>noLs ds
  | _=>true
def noLs : List D→Bool
  | []=>true
  | d :: ds=>noL d && noLs ds
end
mutual
theorem Dat.t {H H' : Hp} (e : TSame H H') : ∀ {d : D} {v : V},noL d = true→Dat H d v→Dat H' d v
  | .non,v,_,h=>by simpa only [Dat] using h
  | .bl b,v,_,h=>by simpa only [Dat] using h
  | .int i,v,_,h=>by simpa only [Dat] using h
  | .str x,v,_,h=>by simpa only [Dat] using h
  | .tup ds,v,n,h=>by
    simp only [Dat] at h ⊢
    simp only [noL] at n
    obtain ⟨a,xs,rfl,h1,h2⟩:=h
    exact ⟨a,xs,rfl,e a _ h1,Dats.t e n h2⟩
  | .lst ds,v,n,h=>by simp [noL] at n
theorem Dats.t {H H' : Hp} (e : TSame H H') : ∀ {ds : List D} {xs : List V},noLs ds = true→Dats H ds xs→Dats H' ds xs
  | [],xs,_,h=>by simpa only [Dats] using h
  | d :: ds,xs,n,h=>by
    simp only [Dats] at h ⊢
    simp only [noLs,Bool.and_eq_true] at n
    obtain ⟨x,r,rfl,h1,h2⟩:=h
    exact ⟨x,r,rfl,Dat.t e n.1 h1,Dats.t e n.2 h2⟩
end
theorem noLs_all : ∀ {ds : List D},(∀ d∈ds,noL d = true)→noLs ds = true
  | [],_=>by simp [noLs]
  | d :: ds,h=>by
    simp only [noLs,Bool.and_eq_true]
    exact ⟨h d (List.mem_cons_self ..),noLs_all fun e he=>h e (List.mem_cons_of_mem _ he)⟩
theorem noLs_ints (ns : List Int) : noLs (ns.map D.int) = true:=noLs_all fun d hd=>by
  obtain ⟨n,_,rfl⟩:=List.mem_map.mp hd
  simp [noL]
end L2
namespace L2
end L2
namespace L2
open PySem
theorem Room.u100 {k : Nat} {A : Around} (r : Room k A) : A.units + 100 < cLine:=by have:=r.un;omega
theorem deps_le : ∀ {ds : List D} {n : Nat},(∀ d∈ds,dep d≤n)→deps ds≤n
  | [],n,_=>by simp [deps]
  | d :: ds,n,h=>by
    simp only [deps]
    exact Nat.max_le.mpr ⟨h d (List.mem_cons_self ..),deps_le fun e he=>h e (List.mem_cons_of_mem _ he)⟩
theorem deps_ints (ns : List Int) : deps (ns.map D.int) = 0:=by
  have : deps (ns.map D.int)≤0:=deps_le fun d hd=>by
    obtain ⟨n,_,rfl⟩:=List.mem_map.mp hd
    simp [dep]
  omega
end L2
namespace L2
open PySem PySem.Spec PyProof.Rows
section
variable {X : Cx}
end
end L2
namespace L2
open PySem
end L2
namespace L2
open PySem PySem.Spec PyProof.Rows
section
variable {X : Cx} {e st : Expr} {te ts : TE} {pos p2 : Pos}
def tRev (K : PySem.W.Frag) (te ts : TE) : TE:=fun σ H Q=>te σ H fun x H1=>ts σ H1 fun k H2=>k = .int (-1)∧∃ a xs,x = .ref a∧SqL K H2 a xs∧∀ p,H2 p = none→Q (.ref p) (upd H2 p (.lst xs.reverse))
theorem pe_rev (K : PySem.W.Frag) (hK : X.K = K) (he : PE X e te) (hs : PE X st ts) : PE X (.Subscript e (.Slice none none (some st) p2) pos) (tRev K te ts):=.mk <| by
  subst hK
  intro pins s σ H Q I h
  refine Subscript_ (thn (he pins s σ H _ I h) fun v s1 ⟨x,H1,I1,r1,q1⟩=>?_)
  refine wpAny_Slice ?_
  rw [evalPart_none]
  refine wpAny_pure (wpAny_pure ?_)
  rw [evalPart_some]
  refine thn (hs pins s1 σ H1 _ I1 q1) fun u s2 ⟨k,H2,I2,r2,q2⟩=>?_
  obtain ⟨rfl,a,xs,rfl,hx,q⟩:=q2
  obtain ⟨t,rfl⟩:=r2
  cases r1
  have I4 : Inv X pins σ H2 { s2 with heap:=s2.heap.push { cls:=.type "slice",data:=.fields #[.none,.none,.int (-1) t] } }:=I2.kept (t':=s2.toks) fun b ob q=>Heap.get?_push_of_some _ q
  obtain ⟨its,r,ht,hz⟩:=I4.list hx
  have hlen:=r.length
  refine tail_any (ops:=[.ref a,.ref s2.heap.objs.size]) (ht.isList.typeIs) slot_list_getitem.lookup ?_ (by with_unfolding_all rfl)
  refine wpAny_getItem_list_slice ht.isList (Heap.IsSliceOf.new ..) .none .none (.int (-1) t) (by simp) ?_ (by rw [List.size_toArray]<;>omega)
  rw [PySem.W.krv_pick]
  refine ⟨.ref _,_,I4.laid (t':=s2.toks) (o:=.lst xs.reverse) (fun b ob q=>Heap.get?_push_of_some _ q) (Nat.le_refl _) ?_,rfl,q _ (I4.hok.fresh (Nat.le_refl _))⟩
  refine ⟨by rw [List.length_reverse];exact hz,its.reverse,0,?_,Heap.get?_push_size _ rfl⟩
  exact r.reverse
end
def LD (H : Hp) (l : Addr) (ds : List D) : Prop:=noLs ds = true∧∃ xs,H l = some (.lst xs)∧Dats H ds xs
theorem noLs_append {ds es : List D} : noLs (ds ++ es) = (noLs ds && noLs es):=by
  induction ds with
  | nil=>simp [noLs]
  | cons d ds ih=>simp [noLs,ih,Bool.and_assoc]
inductive Tr where
  | lf (x : List D)
  | nd (x : List D) (l r : Tr)
namespace Tr
def d : Tr→D
  | .lf x=>.tup x
  | .nd x l r=>.tup (x ++ [l.d,r.d])
def size : Tr→Nat
  | .lf _=>1
  | .nd _ l r=>l.size + r.size + 1
def lvs : Tr→Nat
  | .lf _=>1
  | .nd _ l r=>l.lvs + r.lvs
def dp : Tr→Nat
  | .lf _=>0
  | .nd _ l r=>1 + max l.dp r.dp
def post : Tr→List Tr
  | .lf x=>[.lf x]
  | .nd x l r=>l.post ++ r.post ++ [.nd x l r]
def pre : Tr→List Tr
  | .lf x=>[.lf x]
  | .nd x l r=>.nd x l r :: (r.pre ++ l.pre)
def ok (lw : Str) : Tr→Prop
  | .lf x=>x[0]? = some (.str lw)∧noLs x = true
  | .nd x l r=>(∃ w,x[0]? = some (.str w)∧w≠lw)∧noLs x = true∧l.ok lw∧r.ok lw
theorem pre_rev : ∀ t : Tr,t.pre.reverse = t.post
  | .lf x=>rfl
  | .nd x l r=>by simp [pre,post,pre_rev l,pre_rev r]
theorem size_pos : ∀ t : Tr,1≤t.size
  | .lf x=>Nat.le_refl _
  | .nd x l r=>by simp only [size];omega
theorem size_lvs : ∀ t : Tr,t.size + 1 = 2 * t.lvs
  | .lf x=>rfl
  | .nd x l r=>by
    have:=size_lvs l
    have:=size_lvs r
    simp only [size,lvs];omega
theorem ok.noL {lw : Str} : ∀ {t : Tr},t.ok lw→noL t.d = true
  | .lf x,h=>by simp only [d,L2.noL];exact h.2
  | .nd x l r,h=>by
    obtain ⟨_,h1,h2,h3⟩:=h
    simp only [d,L2.noL,noLs_append,Bool.and_eq_true]
    exact ⟨h1,by simp [noLs,ok.noL h2,ok.noL h3]⟩
theorem ok.post {lw : Str} : ∀ {t : Tr},t.ok lw→∀ u∈t.post,u.ok lw
  | .lf x,h,u,hu=>by simp only [Tr.post,List.mem_singleton] at hu;subst hu;exact h
  | .nd x l r,h,u,hu=>by
    simp only [Tr.post,List.mem_append,List.mem_singleton] at hu
    rcases hu with (hu | hu) | hu
    · exact ok.post h.2.2.1 u hu
    · exact ok.post h.2.2.2 u hu
    · subst hu;exact h
theorem ok.noLs {lw : Str} {ts : List Tr} (h : ∀ t∈ts,t.ok lw) : noLs (ts.map d) = true:=noLs_all fun e he=>by
  obtain ⟨t,ht,rfl⟩:=List.mem_map.mp he
  exact (h t ht).noL
end Tr
section
variable {K : PySem.W.Frag} {a p : Addr} {ds : List D} {zs : List V} {g : TG} {tb : TS} {Dn : Ends} {σ : St} {H : Hp}
end
section
variable {K : PySem.W.Frag} {a acc : Addr} {ds : List D} {g : TG} {tc : TT} {l : TL} {σ : St} {H : Hp} {R : St→Hp→Prop} {zs : List V}
end
section
variable {X : Cx}
end
section
variable {K : PySem.W.Frag} {a : Addr} {ds : List D} {xs : List V} {g : TG} {tb : TS} {Dn : Ends} {σ : St} {H : Hp}
end
section
variable {K : PySem.W.Frag} {a acc : Addr} {ds : List D} {xs : List V} {g : TG} {tc : TT} {l : TL} {σ : St} {H : Hp} {R : St→Hp→Prop}
end
section
variable {X : Cx}
end
def wdD (w : List Int) : D:=.tup (w.map D.int)
def csD (pl : Nat) (ys ns : List (List Int)) : D:=.tup [.int pl,.tup (ys.map wdD),.tup (ns.map wdD)]
theorem noL_wd (w : List Int) : noL (wdD w) = true:=by simp only [wdD,noL];exact noLs_ints w
theorem noLs_wds (ws : List (List Int)) : noLs (ws.map wdD) = true:=noLs_all fun d hd=>by
  obtain ⟨w,_,rfl⟩:=List.mem_map.mp hd
  exact noL_wd w
structure SN (n : Nat) (H : Hp) (S : Addr) (ad : Nat→Addr) (fs : Nat→List D) : Prop where
  s : H S = some (.lst ((List.range n).map fun i=>.ref (ad i)))
  l : ∀ i,i < n→LD H (ad i) (fs i)
def StE (w : World) (e : DictEntry) (p : Str × V) : Prop:=e.hash = PyData.keyHash w.params p.1∧(∃ t,e.key = .str p.1 t)∧RelV p.2 e.val
def StD (w : World) (K : PySem.W.Frag) (a : Addr) (kvs : List (Str × V)) : Prop:=∃ (o : Obj) (es : List DictEntry) (ep : Nat),K.lookup a = some o∧o.ExactDict∧o.data = .dict es.toArray ep∧Paired (StE w) es kvs
def valS (kvs : List (Str × V)) (x : Str) : Option V:=(kvs.find? fun p=>decide (p.1 = x)).map (·.2)
theorem StE.find {P : Program} {w : World} : ∀ {es : List DictEntry} {kvs : List (Str × V)} {x : Str} {v : V},Paired (StE w) es kvs→valS kvs x = some v→∃ u,findBy (mixKind P w).is es.toArray (Sum.inr x) = some u∧RelV v u:=by
  intro es
  induction es with
  | nil=>intro kvs x v h hv;cases h;cases hv
  | cons e es ih =>
    intro kvs x v h hv
    cases h with
    | @cons _ p _ kvs r t =>
      obtain ⟨h1,⟨tk,h2⟩,h3⟩:=r
      have hf : findBy (mixKind P w).is (e :: es).toArray (Sum.inr x) = if keyIs (Sum.inr x) e.key = true then some e.val else findBy (mixKind P w).is es.toArray (Sum.inr x):=by
        unfold findBy
        simp only [List.find?_toArray,List.find?_cons,mixKind_is]
        cases keyIs (Sum.inr x) e.key<;>simp
      by_cases hx : p.1 = x
      · have hk : keyIs (Sum.inr x) e.key = true:=by rw [h2,← hx];exact keyIs_str _ _
        rw [hf,if_pos hk]
        unfold valS at hv
        rw [List.find?_cons_of_pos (by simp [hx])] at hv
        cases hv
        exact ⟨_,rfl,h3⟩
      · have hk : ¬ keyIs (Sum.inr x) e.key = true:=by
          rw [h2]
          intro z
          rcases keyIs_shape z with ⟨i,t',e1,e2⟩ | ⟨y,t',e1,e2⟩
          · cases e2
          · injection e2 with e2 _
            injection e1 with e1
            exact hx (e2.trans e1.symm)
        rw [hf,if_neg hk]
        unfold valS at hv
        rw [List.find?_cons_of_neg (by simp [hx])] at hv
        exact ih t hv
theorem StE.keys {P : Program} {w : World} : ∀ {es : List DictEntry} {kvs : List (Str × V)},Paired (StE w) es kvs→∀ e∈es,∃ k,(mixKind P w).is k e.key = true∧e.hash = (mixKind P w).hash k
  | _,_,.nil,e,h=>by cases h
  | _,_,.cons (a:=e0) (b:=p) r t,e,h=>by
    rcases List.mem_cons.mp h with rfl | h
    · obtain ⟨h1,⟨tk,h2⟩,_⟩:=r
      exact ⟨Sum.inr p.1,by rw [h2];exact mixKind_str _ _ _ _,h1⟩
    · exact StE.keys t e h
section
variable {X : Cx} {o i : Expr} {ty : TE} {pos : Pos} {a : Addr} {kvs : List (Str × V)}
def tSGet (kvs : List (Str × V)) (td ty : TE) : TE:=fun σ H Q=>td σ H fun _ H0=>ty σ H0 fun y H1=>∃ x v,y = .str x∧valS kvs x = some v∧Q v H1
theorem pe_sget (hd : StD X.w X.K a kvs) (ho : PE X o (tC (.ref a))) (hi : PE X i ty) (hs : NoSl i) : PE X (.Subscript o i pos) (tSGet kvs (tC (.ref a)) ty):=.mk <| by
  intro pins s σ H Q I h
  obtain ⟨ob,es,ep,hk,hx,hdat,hp⟩:=hd
  refine subD_of PySem.F.slot_dict_getitem.lookup hs (thn (ho pins s σ H (fun x H1=>x = .ref a∧ty σ H1 fun y H1=>∃ x v,y = .str x∧valS kvs x = some v∧Q v H1) I ⟨rfl,h⟩) fun u s1 ⟨x,H1,I1,rx,ex,q1⟩=>thn (hi pins s1 σ H1 _ I1 q1) fun iv s2 ⟨y,H2,I2,ry,k,v,ey,hv,q2⟩=>?_)
  subst ex
  subst ey
  obtain rfl : u = Value.ref a:=rx
  obtain ⟨t,rfl⟩:=ry
  obtain ⟨u',hf,ru⟩:=StE.find (P:=X.prog) hp hv
  have hg : s2.heap.get? a = some ob:=I2.kIn a ob hk
  have hm : s2.heap.MapOf (mixKind X.prog X.w) a (findBy (mixKind X.prog X.w).is es.toArray):=⟨ob,es.toArray,ep,hg,hx,hdat,fun e he=>StE.keys hp e (by simpa using he),fun _=>rfl⟩
  exact ⟨⟨ob,hg,hx.1⟩,wpAny_getItem_of (knd:=mixKind X.prog X.w) (mixKind_str _ _ _ _) hm hf ⟨v,H2,I2.tok _,ru,q2⟩⟩
end
open Classical in
def eqF (H : Hp) (dx : D) (u : Value) : Bool:=if h : ∃ d,∃ x,RelV x u∧Dat H d x then eqD (Classical.choose h) dx else false
theorem eqF_eq {H : Hp} {dx d : D} {x : V} {u : Value} (r : RelV x u) (h : Dat H d x) : eqF H dx u = eqD d dx:=by
  have hex : ∃ d,∃ x,RelV x u∧Dat H d x:=⟨d,x,r,h⟩
  unfold eqF
  rw [dif_pos hex]
  obtain ⟨x',r',h'⟩:=Classical.choose_spec hex
  have : x' = x:=r'.inj r
  subst this
  rw [Dat.inj h' h]
theorem any_eqF {H : Hp} {dx : D} : ∀ {ds : List D} {xs : List V} {its : List Value},Dats H ds xs→Vals xs its→its.any (eqF H dx) = ds.any fun d=>eqD d dx
  | [],xs,its,h,r=>by
    simp only [Dats] at h;subst h;cases r;rfl
  | d :: ds,xs,its,h,r=>by
    simp only [Dats] at h
    obtain ⟨x,xr,rfl,h1,h2⟩:=h
    cases r with
    | cons r1 r2=>rw [List.any_cons,List.any_cons,eqF_eq r1 h1,any_eqF h2 r2]
theorem mem_dats {H : Hp} : ∀ {ds : List D} {xs : List V} {its : List Value},Dats H ds xs→Vals xs its→∀ u∈its,∃ d x,d∈ds∧RelV x u∧Dat H d x
  | [],xs,its,h,r,u,hu=>by simp only [Dats] at h;subst h;cases r;cases hu
  | d :: ds,xs,its,h,r,u,hu=>by
    simp only [Dats] at h
    obtain ⟨x,xr,rfl,h1,h2⟩:=h
    cases r with
    | cons r1 r2 =>
      rcases List.mem_cons.mp hu with rfl | hu
      · exact ⟨d,x,List.mem_cons_self ..,r1,h1⟩
      · obtain ⟨d',x',m,q⟩:=mem_dats h2 r2 u hu
        exact ⟨d',x',List.mem_cons_of_mem _ m,q⟩
theorem dep_mem : ∀ {ds : List D} {d : D},d∈ds→dep d≤deps ds
  | e :: ds,d,h=>by
    simp only [deps]
    rcases List.mem_cons.mp h with rfl | h
    · omega
    · have:=dep_mem h;omega
def inD (dx : D) (ds : List D) : Bool:=ds.any fun d=>eqD d dx
def rInD (neg : Bool) : R2:=fun x y H Q=>∃ dx ds,Dat H dx x∧(Dat H (.lst ds) y∨Dat H (.tup ds) y)∧deps ds≤90∧Q (.bl (if neg then !inD dx ds else inD dx ds)) H
section
variable {X : Cx}
theorem op_inD (hu : X.A.units + 100 < cLine) : OpR X (compareOp .In) (rInD false):=by
  intro pins s σ H x y v u Q I rx ry h
  obtain ⟨dx,ds,hx,hy,hdp,q⟩:=h
  have he : ∀ {xs : List V} {its : List Value},Dats H ds xs→Vals xs its→∀ w,w∈its.toArray→SeqAt.EqAt X.A.in1 s w v (eqF H dx w):=fun hd r w hw=>by
    obtain ⟨d,z,hm,rz,hz⟩:=mem_dats hd r w (by simpa using hw)
    rw [eqF_eq rz hz]
    exact (eqAt_D I 90 d dx z x w v X.A.in1 (Nat.le_trans (dep_mem hm) hdp) (by show X.A.units + 1 + 90 < cLine;omega) hz hx rz rx).2.1
  rcases hy with hy | hy
  · simp only [Dat] at hy
    obtain ⟨a,xs,rfl,ha,hd⟩:=hy
    cases ry
    obtain ⟨its,r,pl,_⟩:=I.list (SqL.of ha)
    refine SeqAt.in_listAt (eqF H dx) pl.isList (he hd r) ⟨.bl _,H,I,rfl,?_⟩
    rw [show its.toArray.any (eqF H dx) = its.any (eqF H dx) by simp,any_eqF hd r]
    exact q
  · simp only [Dat] at hy
    obtain ⟨a,xs,rfl,ha,hd⟩:=hy
    cases ry
    obtain ⟨its,r,pl,_⟩:=I.tuple (SqT.of ha)
    refine SeqAt.in_tupleAt (eqF H dx) pl (he hd r) ⟨.bl _,H,I,rfl,?_⟩
    rw [show its.toArray.any (eqF H dx) = its.any (eqF H dx) by simp,any_eqF hd r]
    exact q
theorem op_notInD (hu : X.A.units + 100 < cLine) : OpR X (compareOp .NotIn) (rInD true):=by
  intro pins s σ H x y v u Q I rx ry h
  obtain ⟨dx,ds,hx,hy,hdp,q⟩:=h
  have he : ∀ {xs : List V} {its : List Value},Dats H ds xs→Vals xs its→∀ w,w∈its.toArray→SeqAt.EqAt X.A.in1 s w v (eqF H dx w):=fun hd r w hw=>by
    obtain ⟨d,z,hm,rz,hz⟩:=mem_dats hd r w (by simpa using hw)
    rw [eqF_eq rz hz]
    exact (eqAt_D I 90 d dx z x w v X.A.in1 (Nat.le_trans (dep_mem hm) hdp) (by show X.A.units + 1 + 90 < cLine;omega) hz hx rz rx).2.1
  rcases hy with hy | hy
  · simp only [Dat] at hy
    obtain ⟨a,xs,rfl,ha,hd⟩:=hy
    cases ry
    obtain ⟨its,r,pl,_⟩:=I.list (SqL.of ha)
    refine SeqAt.notIn_listAt (eqF H dx) pl.isList (he hd r) ⟨.bl _,H,I,rfl,?_⟩
    rw [show its.toArray.any (eqF H dx) = its.any (eqF H dx) by simp,any_eqF hd r]
    exact q
  · simp only [Dat] at hy
    obtain ⟨a,xs,rfl,ha,hd⟩:=hy
    cases ry
    obtain ⟨its,r,pl,_⟩:=I.tuple (SqT.of ha)
    refine SeqAt.notIn_tupleAt (eqF H dx) pl (he hd r) ⟨.bl _,H,I,rfl,?_⟩
    rw [show its.toArray.any (eqF H dx) = its.any (eqF H dx) by simp,any_eqF hd r]
    exact q
end
end L2
namespace L2
open PySem PySem.Spec PyProof.Rows
section
variable {X : Cx} {pins : List (Addr × Obj)} {σ : St} {H : Hp} {s : Shared}
end
section
variable {X : Cx}
end
section
variable {prog : Program} {w : World} {A : Around} {E : Value→Shared→Prop}
theorem drawL {it a : Addr} {vs : Array Value} (ha : a≠it) (n : Nat) : ∀ (i : Nat) (s : Shared) (Q : List Value→Shared→Prop),s.heap.IsListIter it a i→s.heap.IsList a vs→i + n≤vs.size →
    (∀ h',h'.IsListIter it a (i + n)→Heap.SameBut it s.heap h'→Q ((vs.toList.drop i).take n) { s with heap:=h' })→wpAny (model prog w) A (draw (.ref it) n) Q E s:=by
  induction n with
  | zero =>
    intro i s Q st ls le q
    refine wpAny_pure ?_
    have:=q s.heap st (Heap.SameBut.refl ..)
    simpa using this
  | succ n ih =>
    intro i s Q st ls le q
    have lt : i < vs.size:=by omega
    refine wpAny_bind (m:=pyNext (.ref it)) (wpAny_pyNext_list_item st ls (x:=vs[i]) (by simp [lt]) fun h1 st1 sb1=>?_)
    refine wpAny_bind (wpAny_holding (ih (i + 1) _ _ st1 (ls.extBut sb1.extBut ha) (by omega) fun h2 st2 sb2=>wpAny_pure ?_))
    have e1 : vs.toList.drop i = vs[i] :: vs.toList.drop (i + 1):=by simp [List.drop_eq_getElem_cons,lt]
    have q2:=q h2 (by rw [← Nat.add_assoc,Nat.add_right_comm];exact st2) (sb1.trans sb2)
    rwa [e1,List.take_succ_cons] at q2
theorem unpackL {a : Addr} {vs : Array Value} {s : Shared} {Q : List Value→Shared→Prop} (hh : A.handled = none) (ls : s.heap.IsList a vs)
    (q : ∀ h',Heap.ExtBut s.heap.objs.size s.heap h'→Q vs.toList { s with heap:=h' }) : wpAny (model prog w) A (unpackItems (.ref a) vs.size none) Q E s:=by
  have ne : a≠s.heap.objs.size:=by
    obtain ⟨o,ho,_⟩:=ls
    exact Nat.ne_of_lt (Heap.lt_size ho)
  unfold unpackItems notIterableAtAll
  refine wpAny_bind (wpAny_bind (wpAny_specialOf ls.typeIs PySem.F.slot_list_iter.lookup (wpAny_pure ?_)))
  simp only [Option.isNone_some,Bool.false_eq_true,if_false]
  refine wpAny_bind (wpAny_holding (wpAny_pyIter_list ls (wpAny_bind (wpAny_holding (drawL ne vs.size 0 _ _ ⟨_,Heap.get?_push_size _ rfl,rfl,rfl⟩ (ls.push _) (by omega) fun h1 st1 sb1=>?_)))))
  have eall : List.take vs.size (List.drop 0 vs.toList) = vs.toList:=by rw [List.drop_zero,List.take_of_length_le (by simp)]
  rw [eall,if_neg (by simp)]
  refine wpAny_bind (wpAny_holding (wpAny_pyNext_list_end hh st1 ((ls.push _).extBut sb1.extBut ne) (by simp) fun h2 eb=>?_))
  simp only [Option.isSome_none,Bool.false_eq_true,if_false]
  exact wpAny_pure (q h2 fun b o hb e=>eb b o hb (sb1.extBut b o hb (Heap.get?_push_of_some _ e)))
end
section
variable {X : Cx} {pos : Pos}
def gLst (K : PySem.W.Frag) (n : Nat) (t : TGs) : TG:=fun v σ H Q=>∃ a xs,v = .ref a∧SqL K H a xs∧xs.length = n∧t xs σ H Q
theorem pg_lst {es : List Expr} {k : Nat} {t : TGs} {n : Nat} (hc : X.calm = true) (h : PGs X es t)
    (hn : (assignEach es X.env).length = n:=by rfl) (hst : (assignEach es X.env).findIdx? (·.1) = none:=by rfl) : PG X (.Tuple es k pos) (gLst X.K n t):=by
  intro pins s σ H v u Q I r hw
  obtain ⟨a,xs,e1,hq,hl,hw⟩:=hw
  subst e1
  cases r
  obtain ⟨its,rv,ht,hz⟩:=I.list hq
  have hlen : (assignEach es X.env).length = its.toArray.size:=by simp [hn,← hl,rv.length]
  rw [assign_Tuple]
  refine wpAny_bind (wpAny_standAt ?_)
  unfold unpack
  rw [hlen,hst]
  refine wpAny_bind (wpAny_holding (unpackL (I.ok.hd hc) ht.isList fun h' hx=>?_))
  have I1 : Inv X pins σ H { s with heap:=h' }:=I.kept (t':=s.toks) fun b o e=>hx b o (Nat.ne_of_lt (Heap.lt_size e)) e
  exact h pins _ σ H xs _ Q I1 (by simpa using rv) hw
end
section
variable {X : Cx}
theorem pa_consT {es fs x1 pos te t} (ha : PE X (.Tuple fs x1 pos) te) (hr : PA X es t) : PA X (.Tuple fs x1 pos :: es) (tCons te t):=pa_cons ha hr (by rfl)
theorem pa_consL {es fs pos te t} (ha : PE X (.List fs pos) te) (hr : PA X es t) : PA X (.List fs pos :: es) (tCons te t):=pa_cons ha hr (by rfl)
theorem pa_consC {es c j pos te t} (ha : PE X (.Constant c j pos) te) (hr : PA X es t) : PA X (.Constant c j pos :: es) (tCons te t):=pa_cons ha hr (by rfl)
end
end L2
namespace L2
open PySem PySem.Spec PySem.Calls PyProof.Rows
def Frz (H H' : Hp) : Prop:=∀ b o u,H b = some (.frz o u)→H' b = some (.frz o u)
def hdIn (K : PySem.W.Frag) (c P : Addr) : Bool:=match K.lookup c with
  | some o=>(o.cls == .type "code") && c != P && (match o.data with
    | .fields vs=>(vs[11]? == some (.ref P)) && (match vs.getD 18 .none,vs.getD 7 .none,vs.getD 9 .none,vs.getD 10 .none with
      | .str _ _,.int _ _,.bool _,.int _ _=>true
      | _,_,_,_=>false)
    | _=>false)
  | none=>false
section
variable {P : Program} {w : World} {H H' : Hp} {h h' : Heap} {p : Addr} {ps : Array Value}
end
section
variable {X : Cx} {args : Arguments} {body : Expr} {scope : Scope} {pos : Pos} {x : Str} {c p : Addr} {clos : List (Str × Addr)}
end
structure Clo (P : Program) (w : World) (K : PySem.W.Frag) (mg : Str→Option Value) (base : Heap) (H₀ : Hp) (k : Nat) (f : Addr) (n : Nat) (sp : Sp) : Prop where
  fn : (∃ (oc : Value) (od : Option Addr) (fd : FuncData) (sl : Array (Option Value)) (u : HO),H₀ f = some (.frz ⟨oc,od,.func fd,sl⟩ u))∨∃ (oc : Value) (od : Option Addr) (fd : FuncData) (sl : Array (Option Value)),K.lookup f = some ⟨oc,od,.func fd,sl⟩
  len : ∀ vs H Q E,sp vs H Q E→vs.length = n
  run : ∀ (A : Around) (outer : List Env) (s : Shared) (H : Hp) (us : List Value) (vs : List V) (Q : VK) (E : XK),Room k A→Env0 P w K mg base A outer s H→Frz H₀ H→Vals vs us→sp vs H Q E →
    codeAny (model P w) A (.call (.ref f) ⟨us,[]⟩) (CR CX0 outer P w H s Q E) s
section
variable {X : Cx} {k n i : Nat} {x : Str} {p pos : Pos} {e : Expr} {es : List Expr} {t : TA}
end
section
variable {X : Cx} {k : Nat} {f : Addr} {fd : FuncData} {ps : List Str} {x : Str} {p pos : Pos} {e : Expr} {es : List Expr} {t : TA} {spf : Heap→Sp}
end
structure LamScope (ps cs : List Str) (sc : Scope) : Prop where
  kind : sc.kind = .function
  co : sc.isCoroutine = false
  gen : sc.isGenerator = false
  nd : (ps ++ cs).Nodup
  par : ∀ x∈ps,sc.names.lookup x = some .local
  free : ∀ x∈cs,sc.names.lookup x = some .free
  has : ∀ y∈sc.names,y.2≠.cell∧(y.2 = .free→y.1∈cs)
structure FunT (K : PySem.W.Frag) (x qual : Str) (st : Stmt) (f : Addr) (fd : FuncData) (c p : Addr) : Prop where
  ex : ∃ (oc : Value) (od : Option Addr) (kV doc pm : Value) (an : Option Addr) (ct : Value) (osl : Array (Option Value)),
    fd = PySem.W.fnOf x qual (defArgs st) (defBody st) (defScope st) .none kV doc pm an (.ref c) ct∧K.lookup f = some ⟨oc,od,.func fd,osl⟩∧PySem.W.codeIn K (.ref c) qual = true
  tab : (x,c,p)∈tabL K
  hd : hdIn K c p = true
def ndB : List Nat→Bool
  | []=>true
  | a :: r=>!(r.contains a) && ndB r
theorem find_nd {α : Type} (f : α→Nat) : ∀ {l : List α} {q : α},ndB (l.map f) = true→q∈l→l.find? (fun t=>f t == f q) = some q
  | [],_,_,m=>nomatch m
  | a :: r,q,h,m=>by
    rw [List.map_cons,ndB,Bool.and_eq_true] at h
    obtain ⟨h1,h2⟩:=h
    rcases List.mem_cons.mp m with e | m
    · subst e
      rw [List.find?_cons_of_pos (by simp)]
    · have ne : (f a == f q) = false:=by
        cases z : f a == f q with
        | false=>rfl
        | true =>
          have z' : f a = f q:=eq_of_beq z
          have : (r.map f).contains (f a) = true:=by
            rw [z']
            simpa using ⟨q,m,rfl⟩
          rw [this] at h1
          cases h1
      rw [List.find?_cons_of_neg (by rw [ne];simp)]
      exact find_nd f h2 m
def tabH (K : PySem.W.Frag) (b : Addr) : Option HO:=((tabL K).find? fun t=>t.2.2 == b).map fun t=>HO.tbl #[.str (t.1 ++ ".<locals>." ++ "<lambda>") 0]
theorem tabH_mem {K : PySem.W.Frag} {b : Addr} {o : HO} (e : tabH K b = some o) : ∃ t∈tabL K,t.2.2 = b∧o = HO.tbl #[.str (t.1 ++ ".<locals>." ++ "<lambda>") 0]:=by
  unfold tabH at e
  cases q : (tabL K).find? (fun t=>t.2.2 == b) with
  | none=>rw [q] at e;cases e
  | some t =>
    rw [q] at e
    cases e
    have:=List.find?_some q
    exact ⟨t,List.mem_of_find?_eq_some q,eq_of_beq this,rfl⟩
def tabsOk (K : PySem.W.Frag) (names : List Str) : Bool:=PySem.W.noTabs K && ndB ((tabL K).map fun t=>t.2.2) && (tabL K).all fun t=>names.contains t.1
theorem tabL_in {K : PySem.W.Frag} {t : Str × Addr × Addr} (h : t∈tabL K) : PySem.W.tabIn K t.1 = some t.2:=by
  unfold tabL at h
  split at h
  · obtain ⟨e,_,q⟩:=List.mem_filterMap.mp h
    split at q
    · rename_i x tk hx
      cases z : PySem.W.tabIn K x with
      | none=>rw [z] at q;cases q
      | some r=>rw [z] at q;cases q;exact z
    · cases q
  · cases h
theorem law_callT {P : Program} {w : World} {K : PySem.W.Frag} {mg mb : Str→Option Value} {CX : CXT} {k : Nat} {fa a : Addr} {fd : FuncData} {x : Str} {sp : Sp} {s₁ : Shared} {vs : List Value} {ns : List Int}
    (KX : K.In s₁.heap) (hns : s₁.heap.Ns mainGlobals mg) (hb : s₁.heap.Ns builtinsNs mb) (hbb : ∀ x : Str,x≠"__name__"→mb x = bootBuiltins x) (hlim : s₁.heap.NoLimit) (hg : s₁.gens = #[])
    (hbm : ∃ bm ob,mg "__builtins__" = some (.ref bm)∧bm≠builtinsNs∧s₁.heap.get? bm = some ob∧ob.cls = .type "module"∧ob.dict = some builtinsNs∧ob.data = .plain)
    (hT : ∀ t∈tabL K,PySem.W.CodeHd s₁.heap t.2.1 t.2.2∧s₁.heap.get? t.2.2 = some (PySem.W.tabObj #[])) (nt : PySem.W.noTabs K = true) (nd : ndB ((tabL K).map fun t=>t.2.2) = true)
    (ha : s₁.heap.get? a = some { cls:=.type "list",data:=.seq vs.toArray }) (hi : IntsAre vs ns) (hl : ns.length≤sizeLine) (hr : Room k callerA)
    (F : ∀ base : Heap,FnOk P w K mg base CX k fa fd [x] sp) (hbind : ∀ (s : Shared) (u : Value),BindsTo s fd ⟨[u],[]⟩ [(x,u)])
    (hsp : ∀ H : Hp,SqL K H a (ns.map V.int)→sp [.ref a] H (fun v _=>v = .bl true) fun _ _ _=>False)
    (hCX : ∀ H e s',CX [] H s₁ (fun _ _ _=>False) e s'→False) :
    codeAny (model P w) callerA (.call (.ref fa) ⟨[.ref a],[]⟩) (fun r s'=>r = .ok (.ret (.bool true))∧OldK s₁.heap s'.heap∧s'.os = s₁.os∧AllBare s'.gens) s₁:=by
  have rv:=vals_ints hi
  have lenV:=hi.length
  have tabNot : ∀ b o,K.lookup b = some o→tabH K b = none:=fun b o e=>by
    cases q : tabH K b with
    | none=>rfl
    | some u =>
      obtain ⟨t,ht,rfl,_⟩:=tabH_mem q
      have e1:=(hT t ht).2
      rw [KX _ _ e] at e1
      cases e1
      have h2:=List.all_eq_true.mp nt _ (PySem.W.mem_of_lookupK e)
      exact absurd (show false = true from h2) Bool.false_ne_true
  have tabA : tabH K a = none:=by
    cases q : tabH K a with
    | none=>rfl
    | some u =>
      obtain ⟨t,ht,e,_⟩:=tabH_mem q
      have e1:=(hT t ht).2
      rw [e,ha] at e1
      cases e1
  have core : ∀ H : Hp,(∀ b,b≠a→H b = tabH K b)→(H a = none∨(K.lookup a = none∧H a = some (.frz { cls:=.type "list",data:=.seq vs.toArray } (.lst (ns.map V.int)))))→SqL K H a (ns.map V.int) →
      codeAny (model P w) callerA (.call (.ref fa) ⟨[.ref a],[]⟩) (fun r s'=>r = .ok (.ret (.bool true))∧OldK s₁.heap s'.heap∧s'.os = s₁.os∧AllBare s'.gens) s₁:=by
    intro H hH hA hS
    have what : ∀ b u,H b = some u→(b = a∧K.lookup a = none∧u = .frz { cls:=.type "list",data:=.seq vs.toArray } (.lst (ns.map V.int)))∨∃ t∈tabL K,t.2.2 = b∧u = HO.tbl #[.str (t.1 ++ ".<locals>." ++ "<lambda>") 0]:=fun b u e=>by
      by_cases hb : b = a
      · subst hb
        rcases hA with z | ⟨z1,z2⟩
        · rw [z] at e;cases e
        · rw [z2] at e;cases e
          exact .inl ⟨rfl,z1,rfl⟩
      · rw [hH b hb] at e
        exact .inr (tabH_mem e)
    have hok : HOk P w H s₁.heap:=fun b u e=>by
      rcases what b u e with ⟨rfl,_,rfl⟩ | ⟨t,ht,rfl,rfl⟩
      · exact ⟨ha,by rw [List.length_map];exact hl,vs,_,rv,ha⟩
      · exact ⟨#[],(hT t ht).2,trivial,fun pos cv q=>by cases q⟩
    have tt : TabT K H:=fun t ht=>by
      refine ⟨#[.str (t.1 ++ ".<locals>." ++ "<lambda>") 0],?_,rfl⟩
      have ne : t.2.2≠a:=fun z=>by
        have e1:=(hT t ht).2
        rw [z,ha] at e1
        cases e1
      rw [hH _ ne]
      unfold tabH
      rw [find_nd (fun t : Str × Addr × Addr=>t.2.2) nd ht]
      rfl
    have base_of : ∀ {b : Addr} {o : Obj},s₁.heap.get? b = some o→H b = none→(hidT s₁.heap H).get? b = some o:=fun e n=>hidT_get e n
    have freeB : ∀ {b : Addr} {o : Obj},s₁.heap.get? b = some o→o.cls≠.none→o.cls≠.type "list"→H b = none:=fun {b o} e c1 c2=>by
      cases q : H b with
      | none=>rfl
      | some u =>
        rcases what b u q with ⟨rfl,_,_⟩ | ⟨t,ht,rfl,_⟩
        · rw [ha] at e;cases e;exact absurd rfl c2
        · rw [(hT t ht).2] at e;cases e;exact absurd rfl c1
    have noD : ∀ {b : Addr} {o : Obj} {es : Array DictEntry} {ep : Nat},s₁.heap.get? b = some o→o.data = .dict es ep→H b = none:=fun {b o es ep} e d=>by
      cases q : H b with
      | none=>rfl
      | some u =>
        rcases what b u q with ⟨rfl,_,_⟩ | ⟨t,ht,rfl,_⟩
        · rw [ha] at e;cases e;cases d
        · rw [(hT t ht).2] at e;cases e;cases d
    have nsK : ∀ {b : Addr} {m : Str→Option Value},s₁.heap.Ns b m→(hidT s₁.heap H).Ns b m:=fun {b m} ⟨o,es,ep,e,d,r⟩=>⟨o,es,ep,base_of e (noD e d),d,r⟩
    have hKb : K.In (hidT s₁.heap H):=fun b o e=>base_of (KX b o e) (by
      cases q : H b with
      | none=>rfl
      | some u =>
        by_cases hb : b = a
        · subst hb
          rcases hA with z | ⟨z1,_⟩
          · rw [z] at q;cases q
          · rw [e] at z1;cases z1
        · rw [hH b hb,tabNot b o e] at q;cases q)
    have hM : Mod K mg (hidT s₁.heap H):=⟨hKb,nsK hns,⟨mb,nsK hb,hbb⟩,let ⟨mc,h1,h2⟩:=hlim;⟨mc,nsK h1,h2⟩,
      let ⟨bm,ob,b1,b2,b3,b4,b5,b6⟩:=hbm;⟨bm,ob,b1,b2,base_of b3 (freeB b3 (by rw [b4];nofun) (by rw [b4];decide)),b4,b5,b6⟩⟩
    have e0 : Env0 P w K mg (hidT s₁.heap H) callerA [] s₁ H:=⟨rfl,hM,fun b o e=>of_hidT e,Nat.le_of_eq (hidT_size _ _),trivial,fun b hb=>absurd (show b∈([] : List Addr) from hb) (by simp),tt,hok,.of_eq hg⟩
    refine codeAny_mono ((F _).run callerA [] s₁ H ⟨[.ref a],[]⟩ [.ref a] [.ref a] _ _ hr e0 (hbind s₁ (.ref a)) (.cons rfl .nil) (hsp H hS)) fun r s' h=>?_
    cases r with
    | error e=>exact (hCX H e s' h).elim
    | ok fl =>
      cases fl with
      | next=>exact False.elim h
      | brk=>exact False.elim h
      | cont=>exact False.elim h
      | ret u =>
        obtain ⟨v,H',os,bare,un,hok',r',q⟩:=h
        have q' : v = .bl true:=q
        subst q'
        obtain rfl : u = Value.bool true:=r'
        refine ⟨rfl,⟨fun b o e=>?_,fun b o e=>un.there b o e (by simp)⟩,os,bare⟩
        cases q : H b with
        | none=>exact .inl (un.keep b o e q (by intro z;exact absurd (show b∈([] : List Addr) from z) (by simp)) (by simp))
        | some u =>
          rcases what b u q with ⟨rfl,_,rfl⟩ | ⟨t,ht,rfl,rfl⟩
          · have z2:=un.frzs _ _ _ q
            obtain ⟨e1,_⟩:=hok _ _ q
            obtain ⟨e2,_⟩:=hok' _ _ z2
            rw [e] at e1;cases e1
            exact .inl e2
          · obtain ⟨more,z2⟩:=un.tbls _ _ q
            obtain ⟨qs,e2,_⟩:=hok' _ _ z2
            have e1:=(hT t ht).2
            rw [e] at e1
            obtain rfl:=Option.some.inj e1
            exact .inr (.inl ⟨((hT t ht).1.tab (hT t ht).2).isCodeTable,rfl,#[],qs,rfl,by rw [Array.empty_append];exact e2⟩)
  cases hk : K.lookup a with
  | some o =>
    have e:=KX a o hk
    rw [ha] at e
    cases e
    exact core (fun b=>tabH K b) (fun _ _=>rfl) (.inl tabA) (.inr ⟨_,vs.toArray,_,hk,rfl,rfl,rfl,by rw [List.size_toArray,lenV];exact hl,by simpa using rv⟩)
  | none =>
    refine core (fun b=>if b = a then some (.frz { cls:=.type "list",data:=.seq vs.toArray } (.lst (ns.map V.int))) else tabH K b) (fun b hb=>if_neg hb) (.inr ⟨hk,if_pos rfl⟩) (.inl (.inr ⟨_,if_pos rfl⟩))
theorem walk_ofT {l : PySem.W.OpenLaw} {n k : Nat} {q : Program} {loose : List Str} {XP : (Str→Option Value)→Heap→Prop} {YP : World→Heap→Prop} {d : DefRec} {K : Params→PySem.W.Frag} {CX : CXT} {sp : PySem.W.Frag→Sp} {x : Str}
    (hn : l.most = some n) (hn2 : n≤sizeLine) (hdf : d.params.defaults = []) (hr : Room k callerA)
    (hY : ∀ (w : World) (h : Heap),YP w h→(K w.params).In h)
    (tabs : ∀ w : World,tabsOk (K w.params) ((recsOf q).map (·.name)) = true)
    (F : ∀ (w : World) (mg : Str→Option Value) (fa : Addr) (h : Heap),(K w.params).In h→h.Ns mainGlobals mg→mg d.name = some (.ref fa) →
      ∃ fd : FuncData,(∀ (s : Shared) (u : Value),BindsTo s fd ⟨[u],[]⟩ [(x,u)])∧∀ base : Heap,FnOk l.prog w (K w.params) mg base CX k fa fd [x] (sp (K w.params)))
    (hsp : ∀ (K : PySem.W.Frag) (H : Hp) (a : Addr) (ns : List Int),ns.length≤n→Only H→SqL K H a (ns.map V.int)→sp K [.ref a] H (fun v _=>v = .bl true) fun _ _ _=>False)
    (hCX : ∀ (H : Hp) (s : Shared) (e : Value) (s' : Shared),CX [] H s (fun _ _ _=>False) e s'→False) :
    PySem.W.WalkO q loose XP YP l.row.toRowW d [] (fun f vs=>PySem.call f vs):=by
  refine Att.attach_call hn hdf fun w s₀ s₁ mg mb fa o pm cd doc a vs ns G Y ho hd hcd hmg hobj hints hlen hg=>?_
  have KX:=hY w _ Y
  have tb:=tabs w
  unfold tabsOk at tb
  rw [Bool.and_eq_true,Bool.and_eq_true] at tb
  obtain ⟨⟨t1,t2⟩,t3⟩:=tb
  obtain ⟨fd,hb,hF⟩:=F w mg fa _ KX G.T.g hmg
  refine law_callT KX G.T.g G.T.b G.T.builtins G.T.nolimit hg G.T.bmain (fun t ht=>?_) t1 t2 hobj hints (Nat.le_trans hlen hn2) hr hF hb (fun H hS=>hsp _ H a ns hlen trivial hS) fun H e s'=>hCX H s₁ e s'
  have hc:=List.all_eq_true.mp t3 t ht
  have hm : t.1∈(recsOf q).map (·.name):=by simpa using hc
  obtain ⟨r,hr1,hr2⟩:=List.mem_map.mp hm
  cases z : (recsOf q).find? (fun e=>e.name == t.1) with
  | none =>
    have:=List.find?_eq_none.mp z r hr1
    rw [hr2] at this
    simp at this
  | some d'=>exact PySem.W.tab_of G.T KX z (tabL_in ht)
end L2
namespace L2
open PySem PySem.Spec PySem.Calls PyProof.Rows
open AutoSeq1 (wpAny_loadPart')
section
variable {prog : Program} {w : World} {A : Around} {E : Value→Shared→Prop} {S : Shared}
set_option maxHeartbeats 2000000 in
end
end L2
namespace L2
open PySem PySem.Spec PySem.Calls PyProof.Rows
section
variable {X : Cx}
end
section
variable {X : Cx}
end
structure Src (prog : Program) (w : World) (A : Around) (j q : Addr) (its : Array Value) (It1 : Nat→Heap→Prop) (Sq1 : Heap→Prop) : Prop where
  item : ∀ (n : Nat) (v : Value) (S : Shared) (Q : Value→Shared→Prop) (E : Value→Shared→Prop),It1 n S.heap→Sq1 S.heap→its[n]? = some v→(∀ h1,It1 (n + 1) h1→Heap.SameBut j S.heap h1→Q v { S with heap:=h1 })→wpAny (model prog w) A (Builtin.SmallTypes.nextOf (.ref j)) Q E S
  stop : ∀ (n : Nat) (S : Shared) (Q : Value→Shared→Prop) (E : Value→Shared→Prop),It1 n S.heap→Sq1 S.heap→its[n]? = none→(∀ h1 e,Heap.ExtBut j S.heap h1→(∃ o,h1.get? e = some o∧o.cls = .type "StopIteration")→E (.ref e) { S with heap:=h1 })→wpAny (model prog w) A (Builtin.SmallTypes.nextOf (.ref j)) Q E S
  mv : ∀ (n : Nat) (h h1 : Heap),It1 n h→(∀ o,h.get? j = some o→h1.get? j = some o)→It1 n h1
  sv : ∀ (h h1 : Heap),Sq1 h→(∀ o,h.get? q = some o→h1.get? q = some o)→Sq1 h1
  live : ∀ (n : Nat) (h : Heap),It1 n h→∃ o vs,h.get? j = some o∧o.data = .fields vs
section
variable {prog : Program} {w : World} {A : Around} {E : Value→Shared→Prop} {S : Shared} {z u o i j p q : Addr} {m n : Nat} {xs ys : Array Value} {x y a b : Value} {Ii Ij : Nat→Heap→Prop} {Sp Sq : Heap→Prop}
end
structure Kd (cls : String) (Sa : PySem.W.Frag→Hp→Addr→List V→Prop) (Iti : Heap→Addr→Addr→Nat→Prop) (Is : Heap→Addr→Array Value→Prop) : Prop where
  got : ∀ {X : Cx} {pins : List (Addr × Obj)} {σ : St} {H : Hp} {s : Shared} {a : Addr} {xs : List V},Inv X pins σ H s→Sa X.K H a xs→∃ its : List Value,Vals xs its∧Is s.heap a its.toArray
  inj : ∀ {X : Cx} {pins : List (Addr × Obj)} {σ : St} {H : Hp} {s : Shared} {a : Addr} {xs ys : List V},Inv X pins σ H s→Sa X.K H a xs→Sa X.K H a ys→xs = ys
  src : ∀ (prog : Program) (w : World) (A : Around) (j q : Addr) (its : Array Value),A.handled = none→Src prog w A j q its (fun n h=>Iti h j q n) (fun h=>Is h q its)
  seq : ∀ {h : Heap} {a : Addr} {its : Array Value},Is h a its→∃ o n,h.get? a = some o∧o.data = .seq its n
  ne : ∀ {X : Cx} {pins : List (Addr × Obj)} {σ : St} {H : Hp} {s : Shared} {a b : Addr} {xs : List V},Inv X pins σ H s→Sa X.K H a xs→FpOk X pins H b→a≠b
  itr : ∀ {prog : Program} {w : World} {A : Around} {E : Value→Shared→Prop} {S : Shared} {a : Addr} {its : Array Value} {Q : Value→Shared→Prop},Is S.heap a its→Q (.ref S.heap.objs.size) { S with heap:=S.heap.push { cls:=.type cls,data:=.fields #[.ref a,.int 0 0] } }→wpAny (model prog w) A (pyIter (.ref a)) Q E S
  sv : ∀ {h h1 : Heap} {a : Addr} {its : Array Value},Is h a its→(∀ ob,h.get? a = some ob→h1.get? a = some ob)→Is h1 a its
  new : ∀ {h : Heap} {j q : Addr},h.get? j = some { cls:=.type cls,data:=.fields #[.ref q,.int 0 0] }→Iti h j q 0
section
variable {c1 c2 : String} {Sa Sb : PySem.W.Frag→Hp→Addr→List V→Prop} {Ia Ib : Heap→Addr→Addr→Nat→Prop} {Isa Isb : Heap→Addr→Array Value→Prop}
end
section
variable {c1 c2 : String} {Sa Sb : PySem.W.Frag→Hp→Addr→List V→Prop} {Ia Ib : Heap→Addr→Addr→Nat→Prop} {Isa Isb : Heap→Addr→Array Value→Prop}
variable {X : Cx}
end
theorem pg_tupK {X : Cx} (K : PySem.W.Frag) (h : X.K = K) {ts : List Expr} {k n : Nat} {pos : Pos} {t : TGs} (hc : X.calm = true) (hts : PGs X ts t)
    (hn : (assignEach ts X.env).length = n:=by rfl) (hst : (assignEach ts X.env).findIdx? (·.1) = none:=by rfl) : PG X (.Tuple ts k pos) (gTup K n t):=h ▸ pg_tup hc hts hn hst
section
variable {K : PySem.W.Frag} {a b : Addr} {xs ys : List V} {g : TG} {tb : TS} {D : Ends} {σ : St} {H : Hp} {Sa Sb : Hp→Addr→List V→Prop} {acc : Addr} {tc : TT} {l : TL} {R : St→Hp→Prop} {J : It} {n : Nat}
end
def kEnd {α : Type} (c : Nat→Nat→Bool) : PySem.W.KasT α→α
  | .ret a=>a
  | .ask i j k=>kEnd c (k (c i j))
def KG {α : Type} (n : Nat) (R : α→Prop) : PySem.W.KasT α→Prop
  | .ret a=>R a
  | .ask i j k=>i < n∧j < n∧∀ b,KG n R (k b)
theorem KG.fin {α : Type} {n : Nat} {R : α→Prop} (c : Nat→Nat→Bool) : ∀ {t : PySem.W.KasT α},KG n R t→R (kEnd c t)
  | .ret _,h=>h
  | .ask i j k,h=>KG.fin c (t:=k (c i j)) (h.2.2 (c i j))
theorem KG.mono {α : Type} {n : Nat} {R S : α→Prop} (q : ∀ a,R a→S a) : ∀ {t : PySem.W.KasT α},KG n R t→KG n S t
  | .ret a,h=>q a h
  | .ask _ _ k,h=>⟨h.1,h.2.1,fun b=>KG.mono q (t:=k b) (h.2.2 b)⟩
theorem KG.bind {α β : Type} {n : Nat} {R : β→Prop} {f : α→PySem.W.KasT β} : ∀ {t : PySem.W.KasT α},KG n (fun a=>KG n R (f a)) t→KG n R (t.bind f)
  | .ret _,h=>h
  | .ask _ _ k,h=>⟨h.1,h.2.1,fun b=>KG.bind (t:=k b) (h.2.2 b)⟩
theorem KG.wp {α : Type} {n : Nat} {R : α→Prop} {c : Nat→Nat→Bool} {cmp : Nat→Nat→(Bool→Shared→Prop)→Shared→Prop} {Q : α→Shared→Prop} {s : Shared} (hc : ∀ i j C,i < n→j < n→C (c i j) s→cmp i j C s) :
    ∀ {t : PySem.W.KasT α},KG n R t→Q (kEnd c t) s→t.kasWp cmp Q s
  | .ret _,_,q=>q
  | .ask i j k,h,q=>hc i j _ h.1 h.2.1 (KG.wp hc (t:=k (c i j)) (h.2.2 (c i j)) q)
def Ord (n : Nat) (p : Array Nat) : Prop:=p.Perm (List.range n).toArray
theorem Ord.lt {n : Nat} {p : Array Nat} (hn : 0 < n) (h : Ord n p) (k : Nat) : p.getD k 0 < n:=by
  by_cases hk : k < p.size
  · have hm : p[k]∈p:=Array.getElem_mem hk
    have h2:=(h.mem_iff (a:=p[k])).mp hm
    simp at h2
    simp [Array.getD,hk]
    exact h2
  · simp [Array.getD,hk]
    exact hn
theorem Ord.rev {n i j : Nat} {p : Array Nat} (h : Ord n p) : Ord n (PySem.W.kas_rev p i j):=(mirror_perm p i j _).trans h
theorem Ord.bub {n i j : Nat} {p : Array Nat} (h : Ord n p) : Ord n (bubble p i j):=(bubble_perm p i j).trans h
section
variable {n : Nat} (hn : 0 < n)
include hn
theorem kg_asc {p : Array Nat} (hp : Ord n p) : ∀ f k,KG n (fun _=>True) (PySem.W.kas_asc p f k)
  | 0,_=>trivial
  | f + 1,k=>⟨hp.lt hn _,hp.lt hn _,fun b=>by
    cases b
    · exact kg_asc hp f (k + 1)
    · exact trivial⟩
theorem kg_desc : ∀ f (p : Array Nat) k q,Ord n p→KG n (fun r=>Ord n r.1) (PySem.W.kas_desc f p k q)
  | 0,_,_,_,hp=>hp
  | f + 1,p,k,q,hp=>by
    refine ⟨hp.lt hn _,hp.lt hn _,fun b=>?_⟩
    cases b
    · refine ⟨hp.lt hn _,hp.lt hn _,fun d=>?_⟩
      cases d
      · exact kg_desc f _ _ _ hp
      · exact hp
    · show KG n _ (if q > 0 then _ else _)
      split
      · exact kg_desc f _ _ _ hp.rev
      · exact kg_desc f _ _ _ hp
theorem kg_tail3 {p : Array Nat} (hp : Ord n p) (a b : Nat) : KG n (fun r=>Ord n r.2) (PySem.W.kas_tail3 a b p):=KG.bind ((kg_asc hn hp.rev _ _).mono fun _ _=>hp.rev)
theorem kg_descPart {p : Array Nat} (hp : Ord n p) (a b : Nat) : KG n (fun r=>Ord n r.2) (PySem.W.kas_descPart a b p):=KG.bind ((kg_desc hn _ _ _ _ hp).mono fun r hr=>by
  split
  · exact kg_tail3 hn hr.rev _ _
  · exact kg_tail3 hn hr _ _)
theorem kg_count {p : Array Nat} (hp : Ord n p) (a : Nat) : KG n (fun r=>Ord n r.2) (PySem.W.kas_count a p):=KG.bind ((kg_asc hn hp _ _).mono fun k _=>by
  split
  · exact hp
  · split
    · refine ⟨hp.lt hn _,hp.lt hn _,fun b=>?_⟩
      cases b
      · exact kg_descPart hn hp.rev _ _
      · exact hp
    · exact kg_descPart hn hp _ _)
theorem kg_place {p : Array Nat} (hp : Ord n p) (k : Nat) : ∀ f l r,KG n (fun _=>True) (PySem.W.kas_place p k f l r)
  | 0,_,_=>trivial
  | f + 1,l,r=>by
    show KG n _ (if l ≥ r then _ else _)
    split
    · exact trivial
    · refine ⟨hp.lt hn _,hp.lt hn _,fun b=>?_⟩
      cases b
      · exact kg_place hp k f _ _
      · exact kg_place hp k f _ _
theorem kg_bin : ∀ f (p : Array Nat) k,Ord n p→KG n (Ord n) (PySem.W.kas_bin f p k)
  | 0,_,_,hp=>hp
  | f + 1,_,k,hp=>KG.bind ((kg_place hn hp _ _ _ _).mono fun _ _=>kg_bin f _ _ hp.bub)
theorem kg_sort : KG n (Ord n) (PySem.W.kas_sort n):=KG.bind ((kg_count hn (.refl _) n).mono fun r hr=>by
  split
  · exact kg_bin hn _ _ _ hr
  · exact hr)
end
def Zs : List Value→List Int→Prop
  | [],[]=>True
  | v :: vs,n :: ns=>(∃ t,v = .int n t)∧Zs vs ns
  | _,_=>False
def ltF (e : Bool) : List Int→List Int→Bool
  | x :: xs,y :: ys=>if x = y then ltF e xs ys else decide (x < y)
  | _,_=>e
def ltZ (x y : List Int) : Bool:=ltF (decide (x.length < y.length)) x y
theorem Zs.len : ∀ {vs : List Value} {ns : List Int},Zs vs ns→vs.length = ns.length
  | [],[],_=>rfl
  | _ :: _,_ :: _,h=>congrArg (· + 1) (Zs.len h.2)
  | [],_ :: _,h=>h.elim
  | _ :: _,[],h=>h.elim
section
variable {prog : Program} {w : World} {A : Around} {E : Value→Shared→Prop} {s : Shared}
theorem one_int {b : Bool} {x y : Int} {t u : Tok} {Q : Bool→Shared→Prop} (h : Q (decide (x < y)) s) : wpAny (model prog w) A (oneLt' b (.int x t) (.int y u)) Q E s:=by
  cases b
  · exact PySem.W.kat_one _ _ (wpAny_lt_int h)
  · exact oneLt_int h
theorem lex_int {b e : Bool} {Q : Bool→Shared→Prop} : ∀ {xs ys : List Value} {ns ms : List Int} (i : Nat),Zs xs ns→Zs ys ms→Q (ltF e ns ms) s→PySem.W.KatLex prog w A b e Q (xs.zip ys) i s
  | [],_,[],_,_,_,_,q=>PySem.W.kat_nil (by simpa [ltF] using q)
  | _ :: _,[],_ :: _,[],_,_,_,q=>PySem.W.kat_nil (by simpa [ltF] using q)
  | x :: xs,y :: ys,n :: ns,m :: ms,i,hx,hy,q=>by
    obtain ⟨⟨t,rfl⟩,hx⟩:=hx
    obtain ⟨⟨u,rfl⟩,hy⟩:=hy
    refine PySem.W.kat_cons (wpAny_eqBool_int ?_)
    unfold ltF at q
    by_cases h : n = m
    · rw [if_pos h] at q
      rw [show (n == m) = true by simpa using h]
      exact PySem.W.kat_yes (lex_int (i + 1) hx hy q)
    · rw [if_neg h] at q
      rw [show (n == m) = false by simpa using h]
      exact PySem.W.kat_no (one_int q)
  | [],_,_ :: _,_,_,h,_,_=>h.elim
  | _ :: _,_,[],_,_,h,_,_=>h.elim
  | _ :: _,[],_,_ :: _,_,_,h,_=>h.elim
  | _ :: _,_ :: _,_,[],_,_,h,_=>h.elim
end
def TW (h : Heap) : List Value→List (List Int)→Prop
  | [],[]=>True
  | v :: vs,x :: xs=>(∃ a o its n,v = .ref a∧h.get? a = some o∧o.cls = .type "tuple"∧o.data = .seq its n∧Zs its.toList x)∧TW h vs xs
  | _,_=>False
theorem TW.len {h : Heap} : ∀ {vs : List Value} {W : List (List Int)},TW h vs W→vs.length = W.length
  | [],[],_=>rfl
  | _ :: _,_ :: _,q=>congrArg (· + 1) (TW.len q.2)
  | [],_ :: _,q=>q.elim
  | _ :: _,[],q=>q.elim
theorem TW.keep {h h' : Heap} (k : ∀ b o,h.get? b = some o→o.cls = .type "tuple"→h'.get? b = some o) : ∀ {vs : List Value} {W : List (List Int)},TW h vs W→TW h' vs W
  | [],[],_=>trivial
  | _ :: _,_ :: _,⟨⟨a,o,its,n,e1,e2,e3,e4⟩,q⟩=>⟨⟨a,o,its,n,e1,k _ _ e2 e3,e3,e4⟩,TW.keep k q⟩
  | [],_ :: _,q=>q.elim
  | _ :: _,[],q=>q.elim
theorem TW.at {h : Heap} : ∀ {vs : List Value} {W : List (List Int)} {i : Nat},TW h vs W→i < vs.length→∃ a o its n,vs.getD i Value.none = .ref a∧h.get? a = some o∧o.data = .seq its n∧Zs its.toList (W.getD i [])
  | _ :: _,_ :: _,0,⟨⟨a,o,its,n,e1,e2,e3,e4,e5⟩,_⟩,_=>⟨a,o,its,n,by simpa using e1,e2,e4,by simpa using e5⟩
  | _ :: _,_ :: _,i + 1,⟨_,q⟩,hi=>by
    obtain ⟨a,o,its,n,e1,e2,e3,e4⟩:=TW.at (i:=i) q (by simpa using hi)
    exact ⟨a,o,its,n,by simpa using e1,e2,e3,by simpa using e4⟩
  | [],_,_,_,hi=>absurd hi (by simp)
  | _ :: _,[],_,q,_=>q.elim
theorem TW.tups {h : Heap} : ∀ {vs : List Value} {W : List (List Int)},TW h vs W→(∀ x∈W,x≠[])→∃ fs,PySem.W.KatTups h vs fs∧fs.length = vs.length∧∀ v∈fs,∃ n t,v = .int n t
  | [],[],_,_=>⟨[],trivial,rfl,by simp⟩
  | _ :: vs,x :: xs,⟨⟨a,o,its,n,rfl,e2,e3,e4,e5⟩,q⟩,ne=>by
    obtain ⟨fs,g1,g2,g3⟩:=TW.tups q fun y hy=>ne y (List.mem_cons_of_mem _ hy)
    have e6:=ne x List.mem_cons_self
    match hi : its.toList,x,e5,e6 with
    | [],[],_,e6=>exact absurd rfl e6
    | [],_ :: _,e5,_=>exact e5.elim
    | _ :: _,[],e5,_=>exact e5.elim
    | f :: r,m :: ms,e5,_ =>
      obtain ⟨t,ht⟩:=e5.1
      refine ⟨f :: fs,PySem.W.KatTups.cons e2 e3 e4 ?_ g1,by simp [g2],?_⟩
      · rw [← Array.getElem?_toList,hi];rfl
      · intro v hv
        rcases List.mem_cons.mp hv with rfl | hv
        · exact ⟨m,t,ht⟩
        · exact g3 v hv
  | [],_ :: _,q,_=>q.elim
  | _ :: _,[],q,_=>q.elim
def sortP (W : List (List Int)) : Array Nat:=if W.length < 2 then (List.range W.length).toArray else kEnd (fun i j=>ltZ (W.getD i []) (W.getD j [])) (PySem.W.kas_sort W.length)
theorem sortP_ord (W : List (List Int)) : Ord W.length (sortP W):=by
  unfold sortP
  split
  · exact .refl _
  · exact KG.fin _ (kg_sort (by omega))
section
variable {prog : Program} {w : World} {A : Around} {E : Value→Shared→Prop} {s : Shared}
def outP (vs : List Value) (W : List (List Int)) : Array Value:=List.toArray ((sortP W).toList.map fun i=>vs.getD i Value.none)
theorem outP_size {h : Heap} {vs : List Value} {W : List (List Int)} (tw : TW h vs W) : (outP vs W).size = vs.length:=by
  have a:=(sortP_ord W).size_eq
  have b:=tw.len
  simp [outP]
  simp at a
  omega
theorem asks_tups {vs : List Value} {W : List (List Int)} {b : Bool} {s : Shared} (tw : TW s.heap vs W) {Q : Array Nat→Shared→Prop} (h2 : 0 < vs.length) (q : Q (kEnd (fun i j=>ltZ (W.getD i []) (W.getD j [])) (PySem.W.kas_sort vs.length)) s) :
    (PySem.W.kas_sort vs.length).kasWp (PySem.W.kas_ask prog w A (tuples' b) vs) Q s:=by
  refine KG.wp (fun i j C hi hj hC=>?_) (kg_sort h2) q
  obtain ⟨a1,o1,i1,n1,e1,e2,e3,e4⟩:=tw.at hi
  obtain ⟨a2,o2,i2,n2,f1,f2,f3,f4⟩:=tw.at hj
  show wpAny (model prog w) A (keyLt' (tuples' b) (vs.getD i Value.none) (vs.getD j Value.none)) C _ s
  rw [e1,f1]
  refine PySem.W.kat_lt e2 e3 f2 f3 (lex_int 0 e4 f4 ?_)
  have g1:=e4.len
  have g2:=f4.len
  rw [Array.length_toList] at g1 g2
  rw [g1,g2]
  exact hC
theorem small_out : ∀ (vs : List Value),vs.length < 2→Array.map (·.2) (vs.toArray.zip vs.toArray) = List.toArray ((List.range vs.length).map fun i=>vs.getD i Value.none)
  | [],_=>by simp
  | [v],_=>by simp
  | _ :: _ :: _,h=>absurd h (by simp)
theorem sort_tups {a : Addr} {vs : List Value} {W : List (List Int)} {k : Nat} {P : PySem.Fin→Shared→Prop} (g : s.heap.get? a = some (seqObj "list" vs.toArray k)) (tw : TW s.heap vs W) (ne : 2≤W.length→∀ x∈W,x≠[]) (hs : vs.length < 64)
    (q : P (.done (.ret .none)) { s with heap:=sortedHeap s.heap a vs (outP vs W) }) : wpAny (model prog w) A (Builtin.«list.sort» ⟨[.ref a],[]⟩) P E s:=by
  have line : 64≤sizeLine:=by rw [sizeLine_eq];omega
  have room : vs.toArray.size≤sizeLine:=by rw [List.size_toArray];omega
  have la : a < s.heap.objs.size:=Heap.lt_size g
  have osz:=outP_size tw
  rw [list_sort_plain]
  obtain ⟨e1,g1⟩ : ∃ e1,(s.heap.update a (Obj.mapSeq fun _=>(#[] : Array Value))).get? a = some (seqObj "list" #[] e1):=⟨_,get?_update_seq g fun _=>#[]⟩
  refine wpAny_bind (listItems_at g rfl (wpAny_bind (listUpdate_at g rfl (wpAny_bind (seqEpoch_at g1 rfl (wpAny_bind (wpAny_newTuple (wpAny_bind (wpAny_newList (wpAny_holding ?_) (Nat.zero_le _))) ?_)))) room (Nat.zero_le _))))
  case refine_2=>show vs.length≤_;omega
  have g3 : (((s.heap.update a (Obj.mapSeq fun _=>(#[] : Array Value))).push (seqObj "tuple" vs.toArray 0)).push (seqObj "list" #[] 0)).get? a = some (seqObj "list" #[] e1):=Heap.get?_push_of_some _ (Heap.get?_push_of_some _ g1)
  have tw3 : TW (((s.heap.update a (Obj.mapSeq fun _=>(#[] : Array Value))).push (seqObj "tuple" vs.toArray 0)).push (seqObj "list" #[] 0)) vs W:=tw.keep fun b o e c=>by
    have nb : b≠a:=fun z=>by
      subst z
      rw [g] at e
      cases e
      exact absurd (show Value.type "list" = Value.type "tuple" from c) (fun z=>by injection z with z;exact absurd z (by decide))
    exact Heap.get?_push_of_some _ (Heap.get?_push_of_some _ ((Heap.get?_update_ne _ _ _ _ nb).trans e))
  show wpAny (model prog w) A _ P E { s with heap:=((s.heap.update a (Obj.mapSeq fun _=>(#[] : Array Value))).push (seqObj "tuple" vs.toArray 0)).push (seqObj "list" #[] 0) }
  have fin : ∀ out : Array Value,out = outP vs W→P (.done (.ret .none)) { s with heap:=(((s.heap.update a (Obj.mapSeq fun _=>(#[] : Array Value))).push (seqObj "tuple" vs.toArray 0)).push (seqObj "list" #[] 0)).update a (Obj.mapSeq fun _=>out) }:=fun out e=>by
    subst e
    exact q
  generalize hh : ((s.heap.update a (Obj.mapSeq fun _=>(#[] : Array Value))).push (seqObj "tuple" vs.toArray 0)).push (seqObj "list" #[] 0) = hp at g3 tw3 fin ⊢
  dsimp only
  by_cases h2 : vs.toArray.size < 2
  · rw [if_pos h2,if_pos h2]
    refine wpAny_bind (wpAny_pure ?_)
    rw [StateT.run_pure]
    refine wpAny_bind (wpAny_pure ?_)
    dsimp only
    have same : (arrOf (SortSt.mk' general' (vs.toArray.zip vs.toArray) #[] 7 none)).map (·.2) = outP vs W:=by
      have hl:=tw.len
      rw [List.size_toArray] at h2
      unfold outP sortP
      rw [if_pos (by omega),← hl]
      exact small_out vs h2
    rw [same]
    refine wpAny_bind (seqEpoch_at g3 rfl (wpAny_bind (listUpdate_at g3 rfl ?_ (Nat.zero_le _) (by omega))))
    simp only [bne_self_eq_false,Bool.false_eq_true,if_false]
    exact wpAny_pure (fin _ rfl)
  · rw [if_neg h2,if_neg h2]
    rw [List.size_toArray] at h2
    obtain ⟨fs,t1,t2,t3⟩:=tw3.tups (ne (by have:=tw.len;omega))
    refine wpAny_bind (PySem.W.kat_kind (T:=.type "int") t1 (by omega) (fun v hv=>?_) rfl ?_)
    · obtain ⟨n,t,rfl⟩:=t3 v hv
      exact PySem.W.Looks.now
    refine wpAny_bind (wpAny_mono (PySem.W.kat_run (E:=E) (Q:=fun st' s'=>failedOf st' = none∧(arrOf st').map (·.2) = outP vs W∧s' = { s with heap:=hp }) (G:=fun p s'=>p = sortP W∧s' = { s with heap:=hp }) rfl (by omega) hs (fun p st' s' _ b1 b2 b3=>⟨b2,?_,b3.2⟩) (asks_tups tw3 (by omega) ⟨?_,rfl⟩)) ?_ fun _ _ e=>e)
    · rw [PySem.W.kat_snds rfl b1,b3.1]
      rfl
    · have hl:=tw.len
      unfold sortP
      rw [if_neg (by omega),← hl]
    · rintro ⟨⟨⟩,st'⟩ s' ⟨b1,b2,rfl⟩
      dsimp only at b1 b2 ⊢
      rw [b2]
      refine wpAny_bind (seqEpoch_at g3 rfl (wpAny_bind (listUpdate_at g3 rfl ?_ (Nat.zero_le _) (by omega))))
      rw [b1]
      simp only [bne_self_eq_false,Bool.false_eq_true,if_false]
      exact wpAny_pure (fin _ rfl)
theorem sorted_tups {l : Addr} {vs : List Value} {W : List (List Int)} {Q : Value→Shared→Prop} (g : s.heap.IsList l vs.toArray) (tw : TW s.heap vs W) (ne : 2≤W.length→∀ x∈W,x≠[]) (hs : vs.length < 64)
    (q : Q (.ref (s.heap.objs.size + 1)) { s with heap:=sortedAll s.heap vs (outP vs W) }) : wpAny (model prog w) A (call (.builtin "sorted") [.ref l]) Q E s:=by
  have line : 64≤sizeLine:=by rw [sizeLine_eq];omega
  refine Calls.call_function_entry kind_sorted plain_sorted entry_sorted (args_sorted1 _) ?_
  unfold Builtin.«sorted»
  have n1 : ((s.heap.push (seqObj "list" #[] 0)).update s.heap.objs.size (Obj.mapSeq (· ++ vs.toArray))).objs.size = s.heap.objs.size + 1:=by rw [Heap.size_update,size_push']
  refine wpAny_bind (m:=checkCount "sorted" 1 1 _) (wpAny_pure (wpAny_bind (collect_list g (wpAny_bind (wpAny_newList ?_ (by omega))) (by omega))))
  have g2 : (((s.heap.push (seqObj "list" #[] 0)).update s.heap.objs.size (Obj.mapSeq (· ++ vs.toArray))).push (seqObj "list" vs.toArray 0)).get? (s.heap.objs.size + 1) = some (seqObj "list" vs.toArray 0):=by
    rw [← n1];exact Heap.get?_push_size _ rfl
  have tw2 : TW (((s.heap.push (seqObj "list" #[] 0)).update s.heap.objs.size (Obj.mapSeq (· ++ vs.toArray))).push (seqObj "list" vs.toArray 0)) vs W:=tw.keep fun b o e _=>by
    have lt:=Heap.lt_size e
    exact Heap.get?_push_of_some _ ((Heap.get?_update_ne _ _ _ _ (Nat.ne_of_lt lt)).trans (Heap.get?_push_of_some _ e))
  show wpAny _ _ _ _ _ { s with heap:=((s.heap.push (seqObj "list" #[] 0)).update s.heap.objs.size (Obj.mapSeq (· ++ vs.toArray))).push (seqObj "list" vs.toArray 0) }
  rw [n1]
  exact wpAny_bind (wpAny_holding (wpAny_call_entry slot_list_sort ⟨_,g2,rfl⟩ entry_list_sort (sort_tups g2 tw2 ne hs ⟨_,rfl,wpAny_pure ⟨_,rfl,q⟩⟩) (args_list_sort _)))
end
def srt (xs : List V) (W : List (List Int)) : List V:=(sortP W).toList.map fun i=>xs.getD i .non
def TWv (H : Hp) : List V→List (List Int)→Prop
  | [],[]=>True
  | v :: vs,x :: xs=>(∃ a,v = .ref a∧H a = some (.tup (x.map V.int)))∧TWv H vs xs
  | _,_=>False
section
variable {X : Cx}
theorem Zs.of : ∀ {ns : List Int} {its : List Value},Vals (ns.map V.int) its→Zs its ns
  | [],[],_=>trivial
  | n :: ns,v :: vs,h=>by
    cases h with
    | cons r rr =>
      exact ⟨r,Zs.of rr⟩
  | [],_ :: _,h=>by cases h
  | _ :: _,[],h=>by cases h
theorem TWv.tw {pins : List (Addr × Obj)} {σ : St} {H : Hp} {s : Shared} (I : Inv X pins σ H s) : ∀ {xs : List V} {W : List (List Int)} {us : List Value},TWv H xs W→Vals xs us→TW s.heap us W
  | [],[],[],_,_=>trivial
  | v :: vs,x :: ys,u :: us,⟨⟨a,e1,e2⟩,q⟩,h=>by
    subst e1
    cases h with
    | cons r rr =>
      cases r
      obtain ⟨_,its,e4,⟨o,e5,e6,n,e7⟩,_⟩:=I.hok a _ e2
      exact ⟨⟨a,o,its.toArray,n,rfl,e5,e6,e7,Zs.of e4⟩,TWv.tw I q rr⟩
  | [],[],_ :: _,_,h=>by cases h
  | _ :: _,_,[],_,h=>by cases h
  | [],_ :: _,_,q,_=>q.elim
  | _ :: _,[],_,q,_=>q.elim
theorem vals_map {α : Type} {f : α→V} {g : α→Value} : ∀ {l : List α},(∀ i∈l,RelV (f i) (g i))→Vals (l.map f) (l.map g)
  | [],_=>.nil
  | _ :: _,h=>.cons (h _ (List.mem_cons_self ..)) (vals_map fun j hj=>h j (List.mem_cons_of_mem _ hj))
theorem Ord.mem {n : Nat} {p : Array Nat} (h : Ord n p) {i : Nat} (hi : i∈p.toList) : i < n:=by
  have:=(h.mem_iff (a:=i)).mp (Array.mem_toList_iff.mp hi)
  simpa using this
theorem call_sortedW : CallR X (.builtin "sorted") (fun xs H Q=>∃ p ys W,xs = [.ref p]∧SqL X.K H p ys∧TWv H ys W∧(2≤W.length→∀ x∈W,x≠[])∧W.length < 64∧∀ l,H l = none→Q (.ref l) (upd H l (.lst (srt ys W)))):=by
  intro pins s σ H xs us Q I r h
  obtain ⟨p,ys,W,rfl,hq,hT,hne,hW,q⟩:=h
  obtain ⟨u,rfl,rx⟩:=vals1 r
  cases rx
  obtain ⟨its,r',pl,hz⟩:=I.list hq
  have tw:=TWv.tw I hT r'
  have e1:=tw.len
  have e2:=r'.length
  obtain ⟨e,he⟩:=sortedAll_at s.heap its (outP its W)
  have hv : Vals (srt ys W) ((sortP W).toList.map fun i=>its.getD i Value.none):=vals_map fun i hi=>by
    have hi':=(sortP_ord W).mem hi
    obtain ⟨u,hu,ru⟩:=r'.get (List.getElem?_eq_getElem (by omega : i < ys.length))
    rw [List.getD_eq_getElem?_getD,List.getD_eq_getElem?_getD,hu,List.getElem?_eq_getElem (by omega : i < ys.length)]
    exact ru
  have hl : (srt ys W).length≤sizeLine:=by
    have a:=(sortP_ord W).size_eq
    have b : 64≤sizeLine:=by rw [sizeLine_eq];omega
    simp [srt] at a ⊢
    omega
  exact sorted_tups pl.isList tw hne (by omega) ⟨.ref (s.heap.objs.size + 1),_,I.laid (t':=s.toks) (fun b o e=>sortedAll_old e) (Nat.le_succ _) (show ObjOk X.prog X.w _ _ _ (.lst (srt ys W)) from ⟨hl,_,e,hv,he⟩),rfl,q _ (I.hok.fresh (Nat.le_succ _))⟩
end
def srtW (W : List (List Int)) : List (List Int):=(sortP W).toList.map fun i=>W.getD i []
theorem srtW_perm (W : List (List Int)) : (srtW W).Perm W:=by
  have h : (sortP W).toList.Perm (List.range W.length):=by
    have:=(sortP_ord W).toList
    simpa using this
  have:=h.map fun i=>W.getD i []
  refine this.trans (.of_eq ?_)
  apply List.ext_getElem?
  intro i
  by_cases hi : i < W.length
  · rw [List.getElem?_map,List.getElem?_range hi,List.getElem?_eq_getElem hi]
    simp [hi]
  · rw [List.getElem?_eq_none (by simpa using hi),List.getElem?_eq_none (by simpa using hi)]
theorem wd_ints {H : Hp} : ∀ {ns : List Int} {xs : List V},Dats H (ns.map D.int) xs→xs = ns.map V.int
  | [],xs,h=>by simpa [Dats] using h
  | n :: ns,xs,h=>by
    simp only [List.map_cons,Dats,Dat] at h
    obtain ⟨x,r,rfl,rfl,h2⟩:=h
    rw [wd_ints h2];rfl
theorem TWv.of {H : Hp} : ∀ {W : List (List Int)} {xs : List V},Dats H (W.map wdD) xs→TWv H xs W
  | [],xs,h=>by
    have : xs = []:=by simpa [Dats] using h
    subst this
    exact trivial
  | x :: W,xs,h=>by
    simp only [List.map_cons,Dats] at h
    obtain ⟨v,r,rfl,hv,h2⟩:=h
    simp only [wdD,Dat] at hv
    obtain ⟨a,ys,rfl,ha,hy⟩:=hv
    rw [wd_ints hy] at ha
    exact ⟨⟨a,rfl,ha⟩,TWv.of h2⟩
theorem dats_pick {H : Hp} {W : List (List Int)} {xs : List V} (h : Dats H (W.map wdD) xs) : ∀ {l : List Nat},(∀ i∈l,i < W.length)→Dats H ((l.map fun i=>W.getD i []).map wdD) (l.map fun i=>xs.getD i .non)
  | [],_=>by simp [Dats]
  | i :: l,q=>by
    simp only [List.map_cons,Dats]
    have hi:=q i (List.mem_cons_self ..)
    obtain ⟨x,e,hx⟩:=h.get (i:=i) (d:=wdD (W.getD i [])) (by rw [List.getElem?_map,List.getD_eq_getElem?_getD,List.getElem?_eq_getElem hi];rfl)
    refine ⟨_,_,rfl,?_,dats_pick h fun j hj=>q j (List.mem_cons_of_mem _ hj)⟩
    rw [show xs.getD i V.non = x by rw [List.getD_eq_getElem?_getD,e];rfl]
    exact hx
theorem dats_srt {H : Hp} {W : List (List Int)} {xs : List V} (h : Dats H (W.map wdD) xs) : Dats H ((srtW W).map wdD) (srt xs W):=dats_pick h fun i hi=>(sortP_ord W).mem hi
section
variable {X : Cx}
theorem call_sorted : CallR X (.builtin "sorted") (fun xs H Q=>∃ p W,xs = [.ref p]∧LD H p (W.map wdD)∧(∀ x∈W,x≠[])∧W.length < 64∧∀ l H',H l = none→Same H H'→LD H' l ((srtW W).map wdD)→Q (.ref l) H'):=by
  intro pins s σ H xs us Q I r h
  obtain ⟨p,W,rfl,⟨hn,ys,hy,hd⟩,ne,hl,q⟩:=h
  exact call_sortedW pins s σ H _ us Q I r ⟨p,ys,W,rfl,SqL.of hy,TWv.of hd,fun _=>ne,hl,fun l hl=>q l _ hl (same_upd hl) ⟨noLs_wds _,_,upd_same,(dats_srt hd).same (same_upd hl)⟩⟩
end
structure Less (c : Nat→Nat→Bool) : Prop where
  as : ∀ i j,c i j = true→c j i = false
  tr : ∀ i j k,c j i = false→c k j = false→c k i = false
section
variable {c : Nat→Nat→Bool} (L : Less c)
def Dn (c : Nat→Nat→Bool) (p : Array Nat) (k : Nat) : Prop:=∀ i j,i≤j→j < k→c (p.getD i 0) (p.getD j 0) = false
include L
end
section
variable {c : Nat→Nat→Bool} (L : Less c)
include L
end
def lexL : List Int→List Int→Bool
  | [],[]=>false
  | [],_ :: _=>true
  | _ :: _,[]=>false
  | x :: xs,y :: ys=>if x = y then lexL xs ys else decide (x < y)
end L2
namespace L2
open PySem PySem.Spec PyProof.Rows
inductive AV where
  | d (x : D)
  | r (v : V)
  | p (v : V) (P : Hp→Prop)
inductive OC where
  | own (xs : List AV)
  | frz (ds : List D)
  | dic (kvs : List (Str × AV))
abbrev Om:=Addr→Option OC
abbrev SA:=List (Option AV)
abbrev Fs:=Addr→Bool
def Om.put (ω : Om) (l : Addr) (c : OC) : Om:=fun b=>if b = l then some c else ω b
theorem Om.put_same {ω : Om} {l : Addr} {c : OC} : ω.put l c l = some c:=by unfold Om.put;rw [if_pos rfl]
theorem Om.put_ne {ω : Om} {l b : Addr} {c : OC} (h : b≠l) : ω.put l c b = ω b:=by unfold Om.put;rw [if_neg h]
theorem Om.put_put {ω : Om} {l : Addr} {c e : OC} : (ω.put l c).put l e = ω.put l e:=by funext b;unfold Om.put;split<;>rfl
theorem Om.put_comm {ω : Om} {l p : Addr} {c e : OC} (h : p≠l) : (ω.put l c).put p e = (ω.put p e).put l c:=by
  funext b;unfold Om.put;split<;>split<;>simp_all
def ow : Option OC→Bool
  | some (.own _)=>true
  | some (.dic _)=>true
  | _=>false
def Fs.add (F : Fs) (l : Addr) : Fs:=fun b=>decide (b = l) || F b
def cut (F : Fs) (H : Hp) (ω : Om) : Hp:=fun b=>if (ow (ω b) || F b) = true then none else H b
def RV (G : Hp) : AV→V→Prop
  | .d x,v=>Dat G x v
  | .r u,v=>v = u
  | .p u P,v=>v = u∧∀ G',Same G G'→P G'
def RVs (G : Hp) : List AV→List V→Prop
  | [],vs=>vs = []
  | a :: as,vs=>∃ v r,vs = v :: r∧RV G a v∧RVs G as r
def RS (G : Hp) (ρ : SA) (σ : St) : Prop:=ρ.length = σ.length∧∀ (i : Nat) (a : AV),ρ[i]? = some (some a)→∃ v,σ[i]? = some (some v)∧RV G a v
def RKs (G : Hp) : List (Str × AV)→List (Key × V)→Prop
  | [],ks=>ks = []
  | p :: r,ks=>∃ v r',ks = ((Sum.inr p.1 : Key),v) :: r'∧RV G p.2 v∧RKs G r r'
structure Rep (F : Fs) (H : Hp) (ω : Om) : Prop where
  own : ∀ l xs,ω l = some (.own xs)→∃ vs,H l = some (.lst vs)∧RVs (cut F H ω) xs vs
  frz : ∀ l ds,ω l = some (.frz ds)→Dat (cut F H ω) (.lst ds) (.ref l)
  hid : ∀ b,F b = true→ω b = none∧∃ vs,H b = some (.lst vs)
  dic : ∀ l kvs,ω l = some (.dic kvs)→∃ ks,H l = some (.dK ks)∧RKs (cut F H ω) kvs ks
structure Fr (F : Fs) (H : Hp) (ω : Om) (H' : Hp) (ω' : Om) : Prop where
  st : ∀ b o,ow (ω b) = false→F b = false→H b = some o→H' b = some o∧ow (ω' b) = false
  hd : ∀ b,F b = true→H' b = H b
section
variable {F : Fs} {H H1 H2 H' : Hp} {ω ω1 ω2 ω' : Om} {G G' : Hp}
theorem Fr.refl : Fr F H ω H ω:=⟨fun _ _ h _ e=>⟨e,h⟩,fun _ _=>rfl⟩
theorem Fr.trans (a : Fr F H ω H1 ω1) (b : Fr F H1 ω1 H2 ω2) : Fr F H ω H2 ω2 :=
  ⟨fun c o h f e=>let ⟨x,y⟩:=a.st c o h f e;b.st c o y f x,fun c h=>(b.hd c h).trans (a.hd c h)⟩
theorem cut_some {b : Addr} {o : HO} : cut F H ω b = some o↔ow (ω b) = false∧F b = false∧H b = some o:=by
  unfold cut
  cases ow (ω b)<;>cases F b<;>simp
theorem Fr.same (a : Fr F H ω H' ω') : Same (cut F H ω) (cut F H' ω'):=fun b o e=>by
  obtain ⟨h,f,e⟩:=cut_some.mp e
  obtain ⟨x,y⟩:=a.st b o h f e
  exact cut_some.mpr ⟨y,f,x⟩
theorem cut_same : Same (cut F H ω) H:=fun b o e=>(cut_some.mp e).2.2
theorem RV.same (e : Same G G') : ∀ {a : AV} {v : V},RV G a v→RV G' a v
  | .d _,_,h=>Dat.same e h
  | .r _,_,h=>h
  | .p _ _,_,h=>⟨h.1,fun G2 s=>h.2 G2 (e.trans s)⟩
theorem RVs.same (e : Same G G') : ∀ {as : List AV} {vs : List V},RVs G as vs→RVs G' as vs
  | [],_,h=>h
  | _ :: _,_,⟨v,r,h1,h2,h3⟩=>⟨v,r,h1,h2.same e,h3.same e⟩
theorem RKs.same (e : Same G G') : ∀ {as : List (Str × AV)} {vs : List (Key × V)},RKs G as vs→RKs G' as vs
  | [],_,h=>h
  | _ :: _,_,⟨v,r,h1,h2,h3⟩=>⟨v,r,h1,h2.same e,h3.same e⟩
theorem RS.same (e : Same G G') {ρ : SA} {σ : St} (h : RS G ρ σ) : RS G' ρ σ:=⟨h.1,fun i a q=>let ⟨v,x,y⟩:=h.2 i a q;⟨v,x,y.same e⟩⟩
theorem RVs.length : ∀ {as : List AV} {vs : List V},RVs G as vs→vs.length = as.length
  | [],_,h=>by cases h;rfl
  | _ :: _,_,⟨v,r,h1,_,h3⟩=>by subst h1;simp [h3.length]
theorem RVs.get : ∀ {as : List AV} {vs : List V} {i : Nat} {a : AV},RVs G as vs→as[i]? = some a→∃ v,vs[i]? = some v∧RV G a v
  | [],_,_,_,_,e=>by simp at e
  | _ :: _,_,0,_,⟨v,r,h1,h2,_⟩,e=>by subst h1;simp at e;subst e;exact ⟨v,rfl,h2⟩
  | _ :: _,_,i + 1,_,⟨v,r,h1,_,h3⟩,e=>by subst h1;simp at e;obtain ⟨v',e1,e2⟩:=h3.get e;exact ⟨v',by simpa using e1,e2⟩
theorem RVs.append : ∀ {as bs : List AV} {vs us : List V},RVs G as vs→RVs G bs us→RVs G (as ++ bs) (vs ++ us)
  | [],_,_,_,h,k=>by cases h;exact k
  | _ :: _,_,_,_,⟨v,r,h1,h2,h3⟩,k=>by subst h1;exact ⟨v,_,rfl,h2,h3.append k⟩
theorem RVs.one {a : AV} {v : V} (h : RV G a v) : RVs G [a] [v]:=⟨v,[],rfl,h,rfl⟩
theorem RVs.dats : ∀ {ds : List D} {vs : List V},RVs G (ds.map AV.d) vs↔Dats G ds vs
  | [],_=>by simp [RVs,Dats]
  | d :: ds,vs=>by
    simp only [List.map_cons,RVs,Dats,RV]
    constructor
    · rintro ⟨v,r,h1,h2,h3⟩;exact ⟨v,r,h1,h2,RVs.dats.mp h3⟩
    · rintro ⟨v,r,h1,h2,h3⟩;exact ⟨v,r,h1,h2,RVs.dats.mpr h3⟩
theorem RVs.dropLast : ∀ {as : List AV} {vs : List V},RVs G as vs→RVs G as.dropLast vs.dropLast
  | [],_,h=>by cases h;exact rfl
  | [a],_,⟨v,r,h1,h2,h3⟩=>by cases h3;subst h1;exact rfl
  | a :: b :: as,_,⟨v,r,h1,h2,h3⟩=>by
    obtain ⟨u,r',rfl,k2,k3⟩:=id h3
    subst h1
    exact ⟨v,_,rfl,h2,h3.dropLast⟩
theorem Rep.free (R : Rep F H ω) {p : Addr} (h : H p = none) : ω p = none∧F p = false:=by
  constructor
  · cases e : ω p with
    | none=>rfl
    | some c=>cases c with
      | own xs=>obtain ⟨vs,q,_⟩:=R.own p xs e;rw [h] at q;cases q
      | frz ds =>
        have q:=R.frz p ds e
        simp only [Dat] at q
        obtain ⟨a,xs,e1,e2,_⟩:=q
        cases e1
        rw [cut_same _ _ e2] at h;cases h
      | dic kvs=>obtain ⟨vs,q,_⟩:=R.dic p kvs e;rw [h] at q;cases q
  · cases e : F p with
    | false=>rfl
    | true=>obtain ⟨_,o,q⟩:=R.hid p e;rw [h] at q;cases q
theorem Rep.lay (R : Rep F H ω) {p : Addr} {o : HO} (h : H p = none) : Rep F (upd H p o) ω∧Fr F H ω (upd H p o) ω∧cut F (upd H p o) ω p = some o:=by
  have hs:=same_upd (o:=o) h
  have fr : Fr F H ω (upd H p o) ω:=⟨fun b u x f e=>⟨hs _ _ e,x⟩,fun b f=>by
    obtain ⟨_,u,q⟩:=R.hid b f
    rw [upd_ne (ne_of_none q h)]⟩
  obtain ⟨f1,f2⟩:=R.free h
  refine ⟨⟨fun l xs e=>?_,fun l ds e=>(R.frz l ds e).same fr.same,fun b f=>?_,fun l ks e=>(by obtain ⟨vs,e1,e2⟩:=R.dic l ks e;exact ⟨vs,hs _ _ e1,e2.same fr.same⟩)⟩,fr,cut_some.mpr ⟨by rw [f1];rfl,f2,upd_same⟩⟩
  · obtain ⟨vs,e1,e2⟩:=R.own l xs e
    exact ⟨vs,hs _ _ e1,e2.same fr.same⟩
  · obtain ⟨x,u,q⟩:=R.hid b f
    exact ⟨x,u,hs _ _ q⟩
theorem cut_write {l : Addr} {xs ys : List AV} {o : HO} (h : ω l = some (.own xs)) : cut F (upd H l o) (ω.put l (.own ys)) = cut F H ω:=by
  funext b
  unfold cut Om.put
  by_cases hb : b = l
  · subst hb;rw [if_pos rfl,h];simp [ow]
  · rw [if_neg hb,upd_ne hb]
theorem Rep.write (R : Rep F H ω) {l : Addr} {xs ys : List AV} {vs : List V} (h : ω l = some (.own xs)) (hv : RVs (cut F H ω) ys vs) :
    Rep F (upd H l (.lst vs)) (ω.put l (.own ys))∧Fr F H ω (upd H l (.lst vs)) (ω.put l (.own ys)):=by
  have c:=cut_write (F:=F) (H:=H) (ys:=ys) (o:=.lst vs) h
  refine ⟨⟨fun k zs e=>?_,fun k ds e=>?_,fun b f=>?_,fun k ks e=>(by
    have hk : k≠l:=fun z=>(by subst z;rw [Om.put_same] at e;cases e)
    rw [Om.put_ne hk] at e;rw [c,upd_ne hk];exact R.dic k ks e)⟩,fun b o x f e=>?_,fun b f=>?_⟩
  · rw [c]
    by_cases hk : k = l
    · subst hk;rw [Om.put_same] at e;cases e;exact ⟨vs,upd_same,hv⟩
    · rw [Om.put_ne hk] at e;rw [upd_ne hk];exact R.own k zs e
  · rw [c]
    by_cases hk : k = l
    · subst hk;rw [Om.put_same] at e;cases e
    · rw [Om.put_ne hk] at e;exact R.frz k ds e
  · obtain ⟨x,o,q⟩:=R.hid b f
    have hb : b≠l:=fun z=>by subst z;rw [h] at x;cases x
    exact ⟨by rw [Om.put_ne hb];exact x,o,by rw [upd_ne hb];exact q⟩
  · have hb : b≠l:=fun z=>by subst z;rw [h] at x;cases x
    rw [Om.put_ne hb,upd_ne hb];exact ⟨e,x⟩
  · obtain ⟨x,o,q⟩:=R.hid b f
    have hb : b≠l:=fun z=>by subst z;rw [h] at x;cases x
    exact upd_ne hb
theorem Rep.mk' (R : Rep F H ω) {l : Addr} {xs : List AV} {vs : List V} (h : H l = none) (hv : RVs (cut F H ω) xs vs) :
    Rep F (upd H l (.lst vs)) (ω.put l (.own xs))∧Fr F H ω (upd H l (.lst vs)) (ω.put l (.own xs)):=by
  obtain ⟨f1,f2⟩:=R.free h
  have c : cut F (upd H l (.lst vs)) (ω.put l (.own xs)) = cut F H ω:=by
    funext b
    unfold cut Om.put
    by_cases hb : b = l
    · subst hb;rw [if_pos rfl,f1,f2,h];simp [ow]
    · rw [if_neg hb,upd_ne hb]
  refine ⟨⟨fun k zs e=>?_,fun k ds e=>?_,fun b f=>?_,fun k ks e=>(by
    have hk : k≠l:=fun z=>(by subst z;rw [Om.put_same] at e;cases e)
    rw [Om.put_ne hk] at e;rw [c,upd_ne hk];exact R.dic k ks e)⟩,fun b o x f e=>?_,fun b f=>?_⟩
  · rw [c]
    by_cases hk : k = l
    · subst hk;rw [Om.put_same] at e;cases e;exact ⟨vs,upd_same,hv⟩
    · rw [Om.put_ne hk] at e;rw [upd_ne hk];exact R.own k zs e
  · rw [c]
    by_cases hk : k = l
    · subst hk;rw [Om.put_same] at e;cases e
    · rw [Om.put_ne hk] at e;exact R.frz k ds e
  · obtain ⟨x,o,q⟩:=R.hid b f
    have hb : b≠l:=ne_of_none q h
    exact ⟨by rw [Om.put_ne hb];exact x,o,by rw [upd_ne hb];exact q⟩
  · have hb : b≠l:=ne_of_none e h
    rw [Om.put_ne hb,upd_ne hb];exact ⟨e,x⟩
  · obtain ⟨x,o,q⟩:=R.hid b f
    exact upd_ne (ne_of_none q h)
theorem Rep.freeze (R : Rep F H ω) {l : Addr} {ds : List D} (h : ω l = some (.own (ds.map AV.d))) :
    Rep F H (ω.put l (.frz ds))∧Fr F H ω H (ω.put l (.frz ds))∧Dat (cut F H (ω.put l (.frz ds))) (.lst ds) (.ref l):=by
  have fr : Fr F H ω H (ω.put l (.frz ds)):=⟨fun b o x f e=>⟨e,by
    by_cases hb : b = l
    · subst hb;rw [h] at x;cases x
    · rw [Om.put_ne hb];exact x⟩,fun _ _=>rfl⟩
  obtain ⟨vs,e1,e2⟩:=R.own l _ h
  have hF : F l = false:=by
    cases e : F l with
    | false=>rfl
    | true=>have:=(R.hid l e).1;rw [h] at this;cases this
  have dl : Dat (cut F H (ω.put l (.frz ds))) (.lst ds) (.ref l):=by
    simp only [Dat]
    exact ⟨l,vs,rfl,cut_some.mpr ⟨by rw [Om.put_same];rfl,hF,e1⟩,(RVs.dats.mp e2).same fr.same⟩
  refine ⟨⟨fun k zs e=>?_,fun k es e=>?_,fun b f=>?_,fun k ks e=>(by
    have hk : k≠l:=fun z=>(by subst z;rw [Om.put_same] at e;cases e)
    rw [Om.put_ne hk] at e;obtain ⟨us,q1,q2⟩:=R.dic k ks e;exact ⟨us,q1,q2.same fr.same⟩)⟩,fr,dl⟩
  · by_cases hk : k = l
    · subst hk;rw [Om.put_same] at e;cases e
    · rw [Om.put_ne hk] at e
      obtain ⟨us,q1,q2⟩:=R.own k zs e
      exact ⟨us,q1,q2.same fr.same⟩
  · by_cases hk : k = l
    · subst hk;rw [Om.put_same] at e;cases e;exact dl
    · rw [Om.put_ne hk] at e;exact (R.frz k es e).same fr.same
  · obtain ⟨x,o,q⟩:=R.hid b f
    have hb : b≠l:=fun z=>by subst z;rw [h] at x;cases x
    exact ⟨by rw [Om.put_ne hb];exact x,o,q⟩
theorem Rep.hide (R : Rep F H ω) {l : Addr} {vs : List V} (h : H l = none) : Rep (F.add l) (upd H l (.lst vs)) ω∧cut (F.add l) (upd H l (.lst vs)) ω = cut F H ω:=by
  obtain ⟨f1,f2⟩:=R.free h
  have c : cut (F.add l) (upd H l (.lst vs)) ω = cut F H ω:=by
    funext b
    unfold cut Fs.add
    by_cases hb : b = l
    · subst hb;simp [h]
    · rw [upd_ne hb];simp [hb]
  refine ⟨⟨fun k zs e=>?_,fun k ds e=>?_,fun b f=>?_,fun k ks e=>(by rw [c];obtain ⟨us,q1,q2⟩:=R.dic k ks e;exact ⟨us,by rw [upd_ne (ne_of_none q1 h)];exact q1,q2⟩)⟩,c⟩
  · rw [c]
    obtain ⟨us,q1,q2⟩:=R.own k zs e
    exact ⟨us,by rw [upd_ne (ne_of_none q1 h)];exact q1,q2⟩
  · rw [c];exact R.frz k ds e
  · by_cases hb : b = l
    · subst hb;exact ⟨f1,_,upd_same⟩
    · have f' : F b = true:=by simpa [Fs.add,hb] using f
      obtain ⟨x,o,q⟩:=R.hid b f'
      exact ⟨x,o,by rw [upd_ne hb];exact q⟩
theorem Rep.hwrite (R : Rep F H ω) {l : Addr} {vs : List V} (h : F l = true) : Rep F (upd H l (.lst vs)) ω∧cut F (upd H l (.lst vs)) ω = cut F H ω:=by
  have c : cut F (upd H l (.lst vs)) ω = cut F H ω:=by
    funext b
    unfold cut
    by_cases hb : b = l
    · subst hb;simp [h]
    · rw [upd_ne hb]
  refine ⟨⟨fun k zs e=>?_,fun k ds e=>?_,fun b f=>?_,fun k ks e=>(by
    have hk : k≠l:=fun z=>(by subst z;rw [(R.hid _ h).1] at e;cases e)
    rw [c,upd_ne hk];exact R.dic k ks e)⟩,c⟩
  · rw [c]
    obtain ⟨us,q1,q2⟩:=R.own k zs e
    have hk : k≠l:=fun z=>by subst z;rw [(R.hid _ h).1] at e;cases e
    exact ⟨us,by rw [upd_ne hk];exact q1,q2⟩
  · rw [c];exact R.frz k ds e
  · by_cases hb : b = l
    · subst hb;exact ⟨(R.hid _ h).1,_,upd_same⟩
    · obtain ⟨x,o,q⟩:=R.hid b f
      exact ⟨x,o,by rw [upd_ne hb];exact q⟩
theorem Rep.unhide {l : Addr} {vs : List V} (R : Rep (F.add l) H ω) (hF : F l = false) (h : H l = some (.lst vs)) :
    Rep F H ω∧Same (cut (F.add l) H ω) (cut F H ω)∧cut F H ω l = some (.lst vs):=by
  have hl : ω l = none:=(R.hid l (by simp [Fs.add])).1
  have sm : Same (cut (F.add l) H ω) (cut F H ω):=fun b o e=>by
    obtain ⟨x,f,e⟩:=cut_some.mp e
    refine cut_some.mpr ⟨x,?_,e⟩
    unfold Fs.add at f
    cases q : F b with
    | false=>rfl
    | true=>rw [q] at f;simp at f
  refine ⟨⟨fun k zs e=>?_,fun k ds e=>(R.frz k ds e).same sm,fun b f=>R.hid b (by simp [Fs.add,f]),fun k ks e=>(by obtain ⟨us,q1,q2⟩:=R.dic k ks e;exact ⟨us,q1,q2.same sm⟩)⟩,sm,cut_some.mpr ⟨by rw [hl];rfl,hF,h⟩⟩
  obtain ⟨us,q1,q2⟩:=R.own k zs e
  exact ⟨us,q1,q2.same sm⟩
theorem Rep.unhideO {l : Addr} {vs : List V} {xs : List AV} (R : Rep (F.add l) H ω) (hF : F l = false) (h : H l = some (.lst vs)) (hv : RVs (cut (F.add l) H ω) xs vs) :
    Rep F H (ω.put l (.own xs))∧Same (cut (F.add l) H ω) (cut F H (ω.put l (.own xs))):=by
  have hl : ω l = none:=(R.hid l (by simp [Fs.add])).1
  have sm : Same (cut (F.add l) H ω) (cut F H (ω.put l (.own xs))):=fun b o e=>by
    obtain ⟨x,f,e⟩:=cut_some.mp e
    have hb : b≠l:=fun z=>by subst z;simp [Fs.add] at f
    refine cut_some.mpr ⟨by rw [Om.put_ne hb];exact x,?_,e⟩
    unfold Fs.add at f
    cases q : F b with
    | false=>rfl
    | true=>rw [q] at f;simp at f
  refine ⟨⟨fun k zs e=>?_,fun k ds e=>?_,fun b f=>?_,fun k ks e=>(by
    have hk : k≠l:=fun z=>(by subst z;rw [Om.put_same] at e;cases e)
    rw [Om.put_ne hk] at e;obtain ⟨us,q1,q2⟩:=R.dic k ks e;exact ⟨us,q1,q2.same sm⟩)⟩,sm⟩
  · by_cases hk : k = l
    · subst hk;rw [Om.put_same] at e;cases e;exact ⟨vs,h,hv.same sm⟩
    · rw [Om.put_ne hk] at e
      obtain ⟨us,q1,q2⟩:=R.own k zs e
      exact ⟨us,q1,q2.same sm⟩
  · by_cases hk : k = l
    · subst hk;rw [Om.put_same] at e;cases e
    · rw [Om.put_ne hk] at e;exact (R.frz k ds e).same sm
  · have hb : b≠l:=fun z=>by subst z;rw [f] at hF;cases hF
    rw [Om.put_ne hb];exact R.hid b (by simp [Fs.add,f])
end
def LP {α β : Type} (R : Hp→α→β→Prop) (F : Fs) (H : Hp) (ω : Om) (Q' : α→Om→Prop) (Q : β→Hp→Prop) : Prop :=
  ∀ a ω' v H',Rep F H' ω'→Fr F H ω H' ω'→R (cut F H' ω') a v→Q' a ω'→Q v H'
theorem LP.fr {α β : Type} {R : Hp→α→β→Prop} {F : Fs} {H H1 : Hp} {ω ω1 : Om} {Q' : α→Om→Prop} {Q : β→Hp→Prop} (k : LP R F H ω Q' Q) (f : Fr F H ω H1 ω1) : LP R F H1 ω1 Q' Q :=
  fun a ω' v H' rp fr rv q=>k a ω' v H' rp (f.trans fr) rv q
structure Ref {α β : Type} (R : Hp→α→β→Prop) (t : St→Hp→(β→Hp→Prop)→Prop) (t' : SA→Om→(α→Om→Prop)→Prop) : Prop where
  run : ∀ (F : Fs) (H : Hp) (ω : Om) (σ : St) (ρ : SA) (Q : β→Hp→Prop) (Q' : α→Om→Prop),Rep F H ω→RS (cut F H ω) ρ σ→t' ρ ω Q'→LP R F H ω Q' Q→t σ H Q
theorem Ref.go {α β : Type} {R : Hp→α→β→Prop} {t : St→Hp→(β→Hp→Prop)→Prop} {t' : SA→Om→(α→Om→Prop)→Prop} (h : Ref R t t') {F : Fs} {H : Hp} {ω : Om} {σ : St} {ρ : SA} {Q : β→Hp→Prop} {Q' : α→Om→Prop}
    (rp : Rep F H ω) (rs : RS (cut F H ω) ρ σ) (w : t' ρ ω Q') (k : ∀ a ω1 v H1,Rep F H1 ω1→Fr F H ω H1 ω1→RS (cut F H1 ω1) ρ σ→R (cut F H1 ω1) a v→Q' a ω1→Q v H1) : t σ H Q :=
  h.run F H ω σ ρ Q Q' rp rs w fun a ω1 v H1 rp1 fr1 rv q=>k a ω1 v H1 rp1 fr1 (rs.same fr1.same) rv q
abbrev AE:=SA→Om→(AV→Om→Prop)→Prop
abbrev AT:=SA→Om→(Bool→Om→Prop)→Prop
abbrev AA:=SA→Om→(List AV→Om→Prop)→Prop
def REq {α : Type} (_ : Hp) (a b : α) : Prop:=a = b
abbrev RefE (t : TE) (t' : AE) : Prop:=Ref RV t t'
abbrev RefT (t : TT) (t' : AT) : Prop:=Ref REq t t'
abbrev RefA (t : TA) (t' : AA) : Prop:=Ref RVs t t'
structure AEnds where
  nx : SA→Om→Prop
  rt : AV→Om→Prop
  bk : SA→Om→Prop:=fun _ _=>False
  ct : SA→Om→Prop:=fun _ _=>False
abbrev AS:=AEnds→SA→Om→Prop
structure LE (F : Fs) (H : Hp) (ω : Om) (D' : AEnds) (D : Ends) : Prop where
  nx : LP RS F H ω D'.nx D.nx
  rt : LP RV F H ω D'.rt D.rt
  bk : LP RS F H ω D'.bk D.bk
  ct : LP RS F H ω D'.ct D.ct
theorem LE.fr {F : Fs} {H H1 : Hp} {ω ω1 : Om} {D' : AEnds} {D : Ends} (k : LE F H ω D' D) (f : Fr F H ω H1 ω1) : LE F H1 ω1 D' D:=⟨k.nx.fr f,k.rt.fr f,k.bk.fr f,k.ct.fr f⟩
structure RefS (t : TS) (t' : AS) : Prop where
  run : ∀ (F : Fs) (H : Hp) (ω : Om) (σ : St) (ρ : SA) (D : Ends) (D' : AEnds),Rep F H ω→RS (cut F H ω) ρ σ→t' D' ρ ω→LE F H ω D' D→t D σ H
abbrev AG:=AV→SA→Om→(SA→Om→Prop)→Prop
abbrev AGs:=List AV→SA→Om→(SA→Om→Prop)→Prop
structure RefG (g : TG) (g' : AG) : Prop where
  run : ∀ (F : Fs) (H : Hp) (ω : Om) (σ : St) (ρ : SA) (v : V) (a : AV) (Q : St→Hp→Prop) (Q' : SA→Om→Prop),Rep F H ω→RS (cut F H ω) ρ σ→RV (cut F H ω) a v→g' a ρ ω Q'→LP RS F H ω Q' Q→g v σ H Q
structure RefGs (g : TGs) (g' : AGs) : Prop where
  run : ∀ (F : Fs) (H : Hp) (ω : Om) (σ : St) (ρ : SA) (v : List V) (a : List AV) (Q : St→Hp→Prop) (Q' : SA→Om→Prop),Rep F H ω→RS (cut F H ω) ρ σ→RVs (cut F H ω) a v→g' a ρ ω Q'→LP RS F H ω Q' Q→g v σ H Q
abbrev ASp:=List AV→Om→(AV→Om→Prop)→Prop
def lift (sp : ASp) : Sp:=fun vs H Q _=>∃ (F : Fs) (xs : List AV) (ω : Om) (Q' : AV→Om→Prop),Rep F H ω∧RVs (cut F H ω) xs vs∧sp xs ω Q'∧LP RV F H ω Q' Q
def aNext : AS:=fun D ρ ω=>D.nx ρ ω
def aSeq (t u : AS) : AS:=fun D ρ ω=>t { D with nx:=u D } ρ ω
def aCont : AS:=fun D ρ ω=>D.ct ρ ω
def aDrop (te : AE) : AS:=fun D ρ ω=>te ρ ω fun _ ω1=>D.nx ρ ω1
def aRet (te : AE) : AS:=fun D ρ ω=>te ρ ω D.rt
def aIfS (c : AT) (t u : AS) : AS:=fun D ρ ω=>c ρ ω fun b ω1=>if b = true then t D ρ ω1 else u D ρ ω1
def aAsg (te : AE) (g : AG) : AS:=fun D ρ ω=>te ρ ω fun x ω1=>g x ρ ω1 D.nx
def aWhile (c : AT) (tb : AS) : AS:=fun D ρ ω=>∃ W : Nat→SA→Om→Prop,(∃ m,W m ρ ω)∧∀ m ρ ω,W m ρ ω →
  c ρ ω fun b ω1=>if b = true then ∃ N : SA→Om→Prop,(∀ ρ' ω',N ρ' ω'→∃ m',m' < m∧W m' ρ' ω')∧tb { D with nx:=N,ct:=N,bk:=D.nx } ρ ω1 else D.nx ρ ω1
def agName (i : Nat) : AG:=fun v ρ ω Q=>Q (ρ.set i (some v)) ω
def agNil : AGs:=fun vs ρ ω Q=>vs = []∧Q ρ ω
def agCons (t : AG) (u : AGs) : AGs:=fun vs ρ ω Q=>∃ v r,vs = v :: r∧t v ρ ω fun ρ' ω'=>u r ρ' ω' Q
section
variable {t u : TS} {t' u' : AS} {te : TE} {te' : AE} {tc : TT} {tc' : AT} {g : TG} {g' : AG} {gs : TGs} {gs' : AGs}
theorem RS.set {G : Hp} {ρ : SA} {σ : St} {i : Nat} {a : AV} {v : V} (h : RS G ρ σ) (r : RV G a v) : RS G (ρ.set i (some a)) (σ.set i (some v)):=by
  refine ⟨by simp [h.1],fun j b e=>?_⟩
  by_cases hj : j = i
  · subst hj
    rw [List.getElem?_set] at e
    rw [List.getElem?_set]
    simp only [if_true] at e ⊢
    split at e
    · rename_i hl
      cases e
      rw [if_pos (h.1 ▸ hl)]
      exact ⟨v,rfl,r⟩
    · cases e
  · rw [List.getElem?_set_ne (Ne.symm hj)] at e
    rw [List.getElem?_set_ne (Ne.symm hj)]
    exact h.2 j b e
theorem s_next : RefS tNext aNext:=⟨fun F H ω σ ρ D D' rp rs h k=>k.nx ρ ω σ H rp .refl rs h⟩
theorem s_seq (h1 : RefS t t') (h2 : RefS u u') : RefS (tSeq t u) (aSeq t' u'):=⟨fun F H ω σ ρ D D' rp rs h k =>
  h1.run F H ω σ ρ _ _ rp rs h ⟨fun ρ1 ω1 σ1 H1 rp1 fr1 rs1 q=>h2.run F H1 ω1 σ1 ρ1 D D' rp1 rs1 q (k.fr fr1),k.rt,k.bk,k.ct⟩⟩
theorem s_cont : RefS tCont aCont:=⟨fun F H ω σ ρ D D' rp rs h k=>k.ct ρ ω σ H rp .refl rs h⟩
theorem s_drop (h : RefE te te') : RefS (tDrop te) (aDrop te'):=⟨fun F H ω σ ρ D D' rp rs w k=>h.go rp rs w fun a ω1 v H1 rp1 fr1 rs1 rv q=>k.nx ρ ω1 σ H1 rp1 fr1 rs1 q⟩
theorem s_ret (h : RefE te te') : RefS (tRet te) (aRet te'):=⟨fun F H ω σ ρ D D' rp rs w k=>h.run F H ω σ ρ _ _ rp rs w k.rt⟩
theorem s_if (hc : RefT tc tc') (h1 : RefS t t') (h2 : RefS u u') : RefS (tIfS tc t u) (aIfS tc' t' u'):=⟨fun F H ω σ ρ D D' rp rs w k =>
  hc.go rp rs w fun a ω1 v H1 rp1 fr1 rs1 rv q=>by
    cases (show a = v from rv)
    cases a with
    | true=>rw [if_pos rfl] at q ⊢;exact h1.run F H1 ω1 σ ρ D D' rp1 rs1 q (k.fr fr1)
    | false=>rw [if_neg Bool.false_ne_true] at q ⊢;exact h2.run F H1 ω1 σ ρ D D' rp1 rs1 q (k.fr fr1)⟩
theorem s_asg (h : RefE te te') (hg : RefG g g') : RefS (tAsg te g) (aAsg te' g'):=⟨fun F H ω σ ρ D D' rp rs w k=>h.go rp rs w fun a ω1 v H1 rp1 fr1 rs1 rv q =>
  hg.run F H1 ω1 σ ρ v a _ _ rp1 rs1 rv q (k.nx.fr fr1)⟩
theorem g_name {i : Nat} : RefG (gName i) (agName i):=⟨fun F H ω σ ρ v a Q Q' rp rs rv w k=>k _ ω _ H rp .refl (rs.set rv) w⟩
theorem g_nil : RefGs gNil agNil:=⟨fun F H ω σ ρ vs as Q Q' rp rs rv w k=>by
  obtain ⟨rfl,w⟩:=w
  exact ⟨rv,k ρ ω σ H rp .refl rs w⟩⟩
theorem g_cons (h1 : RefG g g') (h2 : RefGs gs gs') : RefGs (gCons g gs) (agCons g' gs'):=⟨fun F H ω σ ρ vs as Q Q' rp rs rv w k=>by
  obtain ⟨a,r,rfl,w⟩:=w
  obtain ⟨v,us,rfl,rv1,rv2⟩:=rv
  exact ⟨v,us,rfl,h1.run F H ω σ ρ v a _ _ rp rs rv1 w fun ρ1 ω1 σ1 H1 rp1 fr1 rs1 q=>h2.run F H1 ω1 σ1 ρ1 us r Q Q' rp1 rs1 (rv2.same fr1.same) q (k.fr fr1)⟩⟩
theorem s_while (hc : RefT tc tc') (hb : RefS t t') : RefS (tWhile tc t) (aWhile tc' t'):=⟨fun F H ω σ ρ D D' rp rs w k=>by
  obtain ⟨W,⟨m0,w0⟩,turn⟩:=w
  refine ⟨fun m σ1 H1=>∃ ρ1 ω1,Rep F H1 ω1∧RS (cut F H1 ω1) ρ1 σ1∧Fr F H ω H1 ω1∧W m ρ1 ω1,⟨m0,ρ,ω,rp,rs,.refl,w0⟩,?_⟩
  rintro m σ1 H1 ⟨ρ1,ω1,rp1,rs1,fr1,w1⟩
  refine hc.go rp1 rs1 (turn m ρ1 ω1 w1) fun a ω2 v H2 rp2 fr2 rs2 rv q=>?_
  cases (show a = v from rv)
  have k2:=k.fr (fr1.trans fr2)
  cases a with
  | true =>
    rw [if_pos rfl] at q ⊢
    obtain ⟨N,hN,q⟩:=q
    refine ⟨fun σ' H'=>∃ ρ' ω',Rep F H' ω'∧RS (cut F H' ω') ρ' σ'∧Fr F H ω H' ω'∧N ρ' ω',?_,hb.run F H2 ω2 σ1 ρ1 _ _ rp2 rs2 q ⟨?_,k2.rt,k2.nx,?_⟩⟩
    · rintro σ' H' ⟨ρ',ω',e1,e2,e3,e4⟩
      obtain ⟨m',hm,z⟩:=hN _ _ e4
      exact ⟨m',hm,ρ',ω',e1,e2,e3,z⟩
    · exact fun ρ' ω' σ' H' e1 e2 e3 e4=>⟨ρ',ω',e1,e3,(fr1.trans fr2).trans e2,e4⟩
    · exact fun ρ' ω' σ' H' e1 e2 e3 e4=>⟨ρ',ω',e1,e3,(fr1.trans fr2).trans e2,e4⟩
  | false =>
    rw [if_neg Bool.false_ne_true] at q ⊢
    exact k2.nx ρ1 ω2 σ1 H2 rp2 .refl rs2 q⟩
end
def ItOk (G : Hp) (as : List AV) (J : It) : Prop:=∀ (F : Fs) (H : Hp) (ω : Om),Rep F H ω→Same G (cut F H ω)→J.stop as.length H ∧
  ∀ (i : Nat) (a : AV),as[i]? = some a→J.go i H∧∀ x H',J.yld i H x H'→Rep F H' ω∧Fr F H ω H' ω∧RV (cut F H' ω) a x
abbrev AI:=SA→Om→(List AV→Om→Prop)→Prop
abbrev RefI (t : TI) (t' : AI) : Prop:=Ref ItOk t t'
def aForL (g : AG) (tb : AS) (D : AEnds) : List AV→SA→Om→Prop
  | [],ρ,ω=>D.nx ρ ω
  | a :: as,ρ,ω=>g a ρ ω fun ρ1 ω1=>tb { nx:=aForL g tb D as,ct:=aForL g tb D as,bk:=D.nx,rt:=D.rt } ρ1 ω1
def aFor (wi : AI) (g : AG) (tb : AS) : AS:=fun D ρ ω=>wi ρ ω fun as ω1=>aForL g tb D as ρ ω1
theorem drop_cons {α : Type} {as : List α} {i : Nat} (h : i < as.length) : ∃ a,as[i]? = some a∧as.drop i = a :: as.drop (i + 1) :=
  ⟨as[i],List.getElem?_eq_getElem h,List.drop_eq_getElem_cons h⟩
theorem s_for {wi : TI} {wi' : AI} {g : TG} {g' : AG} {t : TS} {t' : AS} (hi : RefI wi wi') (hg : RefG g g') (hb : RefS t t') : RefS (tFor wi g t) (aFor wi' g' t'):=⟨fun F H ω σ ρ D D' rp rs w k=>by
  rw [tFor_eq]
  refine hi.go rp rs w fun as ω1 J H1 rp1 fr1 rs1 it q=>?_
  refine ⟨fun i m σ2 H2=>m + i = as.length∧∃ ρ2 ω2,Rep F H2 ω2∧RS (cut F H2 ω2) ρ2 σ2∧Fr F H1 ω1 H2 ω2∧aForL g' t' D' (as.drop i) ρ2 ω2,⟨as.length,rfl,ρ,ω1,rp1,rs1,.refl,q⟩,?_⟩
  rintro i m σ2 H2 ⟨hm,ρ2,ω2,rp2,rs2,fr2,q2⟩
  obtain ⟨stop,go⟩:=it F H2 ω2 rp2 fr2.same
  by_cases hl : i < as.length
  · obtain ⟨a,ha,hd⟩:=drop_cons hl
    rw [hd] at q2
    obtain ⟨g1,y1⟩:=go i a ha
    refine .inr ⟨g1,fun σ' H'=>m - 1 + (i + 1) = as.length∧∃ ρ' ω',Rep F H' ω'∧RS (cut F H' ω') ρ' σ'∧Fr F H1 ω1 H' ω'∧aForL g' t' D' (as.drop (i + 1)) ρ' ω',fun σ' H' z=>⟨m - 1,by omega,z⟩,fun x H' hy=>?_⟩
    obtain ⟨rp3,fr3,rv3⟩:=y1 x H' hy
    have fr13:=(fr2.trans fr3)
    refine hg.run F H' ω2 σ2 ρ2 x a _ _ rp3 (rs2.same fr3.same) rv3 q2 fun ρ4 ω4 σ4 H4 rp4 fr4 rs4 q4=>?_
    have k4:=k.fr ((fr1.trans fr13).trans fr4)
    refine hb.run F H4 ω4 σ4 ρ4 _ _ rp4 rs4 q4 ⟨?_,k4.rt,k4.nx,?_⟩
    · exact fun ρ' ω' σ' H'' e1 e2 e3 e4=>⟨by omega,ρ',ω',e1,e3,(fr13.trans fr4).trans e2,e4⟩
    · exact fun ρ' ω' σ' H'' e1 e2 e3 e4=>⟨by omega,ρ',ω',e1,e3,(fr13.trans fr4).trans e2,e4⟩
  · have hi : i = as.length:=by omega
    subst hi
    rw [List.drop_length] at q2
    exact .inl ⟨stop,k.nx ρ2 ω2 σ2 H2 rp2 (fr1.trans fr2) rs2 q2⟩⟩
abbrev AL:=List AV→SA→Om→(List AV→SA→Om→Prop)→Prop
structure Fa (l : Addr) (F : Fs) (H : Hp) (ω : Om) (H' : Hp) (ω' : Om) : Prop where
  st : ∀ b o,ow (ω b) = false→F b = false→H b = some o→H' b = some o∧ow (ω' b) = false
  hd : ∀ b,F b = true→b≠l→H' b = H b
theorem Fr.fa {l : Addr} {F : Fs} {H H' : Hp} {ω ω' : Om} (h : Fr F H ω H' ω') : Fa l F H ω H' ω':=⟨h.st,fun b f _=>h.hd b f⟩
theorem Fa.trans {l : Addr} {F : Fs} {H H1 H2 : Hp} {ω ω1 ω2 : Om} (a : Fa l F H ω H1 ω1) (b : Fa l F H1 ω1 H2 ω2) : Fa l F H ω H2 ω2 :=
  ⟨fun c o h f e=>let ⟨x,y⟩:=a.st c o h f e;b.st c o y f x,fun c h n=>(b.hd c h n).trans (a.hd c h n)⟩
theorem Fa.same {l : Addr} {F : Fs} {H H' : Hp} {ω ω' : Om} (a : Fa l F H ω H' ω') : Same (cut F H ω) (cut F H' ω'):=fun b o e=>by
  obtain ⟨h,f,e⟩:=cut_some.mp e
  obtain ⟨x,y⟩:=a.st b o h f e
  exact cut_some.mpr ⟨y,f,x⟩
def LL (l : Addr) (F : Fs) (H : Hp) (ω : Om) (K' : List AV→SA→Om→Prop) (K : St→Hp→Prop) : Prop :=
  ∀ xs vs ρ ω' σ H',Rep F H' ω'→Fa l F H ω H' ω'→RS (cut F H' ω') ρ σ→H' l = some (.lst vs)→RVs (cut F H' ω') xs vs→K' xs ρ ω'→K σ H'
theorem LL.fa {l : Addr} {F : Fs} {H H1 : Hp} {ω ω1 : Om} {K' : List AV→SA→Om→Prop} {K : St→Hp→Prop} (k : LL l F H ω K' K) (f : Fa l F H ω H1 ω1) : LL l F H1 ω1 K' K :=
  fun xs vs ρ ω' σ H' e1 e2 e3 e4 e5 e6=>k xs vs ρ ω' σ H' e1 (f.trans e2) e3 e4 e5 e6
structure RefL (l : TL) (l' : AL) : Prop where
  run : ∀ (F : Fs) (H : Hp) (ω : Om) (σ : St) (ρ : SA) (acc : Addr) (vs : List V) (xs : List AV) (K : St→Hp→Prop) (K' : List AV→SA→Om→Prop),Rep F H ω→RS (cut F H ω) ρ σ→F acc = true→H acc = some (.lst vs)→RVs (cut F H ω) xs vs →
    l' xs ρ ω K'→LL acc F H ω K' K→l acc σ H K
def aNoTest : AT:=fun _ ω Q=>Q true ω
def aLast (te : AE) : AL:=fun xs ρ ω K=>te ρ ω fun y ω1=>xs.length < sizeLine∧K (xs ++ [y]) ρ ω1
def aLoop (g : AG) (tc : AT) (l : AL) : List AV→AL
  | [],xs,ρ,ω,K=>K xs ρ ω
  | a :: as,xs,ρ,ω,K=>g a ρ ω fun ρ1 ω1=>tc ρ1 ω1 fun b ω2=>if b = true then l xs ρ1 ω2 (fun xs' ρ' ω'=>aLoop g tc l as xs' ρ' ω' K) else aLoop g tc l as xs ρ1 ω2 K
def aLFor (wi : AI) (g : AG) (tc : AT) (l : AL) : AL:=fun xs ρ ω K=>wi ρ ω fun as ω1=>aLoop g tc l as xs ρ ω1 K
def blkA (src : List (Option Nat)) (ρ : SA) : SA:=src.map fun o=>match o with | none=>none | some j=>(ρ[j]?).join
def und : List AV→Option (List D)
  | []=>some []
  | .d x :: r=>(und r).map (x :: ·)
  | _=>none
theorem und_map : ∀ ds : List D,und (ds.map AV.d) = some ds
  | []=>rfl
  | d :: ds=>by simp [und,und_map ds]
theorem und_some : ∀ {xs : List AV} {ds : List D},und xs = some ds→xs = ds.map AV.d
  | [],ds,h=>by cases h;rfl
  | .d x :: r,ds,h=>by
    simp only [und,Option.map_eq_some_iff] at h
    obtain ⟨es,e1,rfl⟩:=h
    rw [und_some e1];rfl
  | .r _ :: _,_,h=>by simp [und] at h
  | .p _ _ :: _,_,h=>by simp [und] at h
def aComp (src : List (Option Nat)) (wi : AI) (g : AG) (tc : AT) (l : AL) : AE:=fun ρ ω Q=>wi ρ ω fun as ω1=>aLoop g tc l as [] (blkA src ρ) ω1 fun xs _ ω'=>∃ ds,und xs = some ds∧Q (.d (.lst ds)) ω'
def aCompO (src : List (Option Nat)) (wi : AI) (g : AG) (tc : AT) (l : AL) : AE:=fun ρ ω Q=>wi ρ ω fun as ω1=>aLoop g tc l as [] (blkA src ρ) ω1 fun xs _ ω'=>∀ p,ω' p = none→Q (.r (.ref p)) (ω'.put p (.own xs))
section
variable {te : TE} {te' : AE} {tc : TT} {tc' : AT} {g : TG} {g' : AG} {wi : TI} {wi' : AI} {l : TL} {l' : AL} {src : List (Option Nat)}
theorem t_no : RefT tNoTest aNoTest:=⟨fun F H ω σ ρ Q Q' rp rs w k=>k true ω true H rp .refl rfl w⟩
theorem l_last (h : RefE te te') : RefL (lLast te) (aLast te'):=⟨fun F H ω σ ρ acc vs xs K K' rp rs fa ha rx w k=>by
  refine h.go rp rs w fun y ω1 v H1 rp1 fr1 rs1 rv q=>?_
  obtain ⟨q1,q2⟩:=q
  have ha1 : H1 acc = some (.lst vs):=(fr1.hd acc fa).trans ha
  obtain ⟨rp2,c2⟩:=rp1.hwrite (vs:=vs ++ [v]) fa
  refine ⟨vs,ha1,by rw [rx.length];exact q1,k (xs ++ [y]) (vs ++ [v]) ρ ω1 σ _ rp2 ?_ ?_ upd_same ?_ q2⟩
  · refine fr1.fa.trans ⟨fun b o e1 e2 e3=>⟨?_,e1⟩,fun b f n=>upd_ne n⟩
    have hb : b≠acc:=fun z=>by subst z;rw [fa] at e2;cases e2
    rw [upd_ne hb];exact e3
  · rw [c2];exact rs1
  · rw [c2];exact (rx.same fr1.same).append (.one rv)⟩
theorem l_loop (hg : RefG g g') (hc : RefT tc tc') (hl : RefL l l') {G : Hp} {as : List AV} {J : It} (it : ItOk G as J) {F : Fs} {H : Hp} {ω : Om} {σ : St} {ρ : SA} {acc : Addr} {vs : List V} {xs : List AV} {K : St→Hp→Prop} {K' : List AV→SA→Om→Prop}
    (rp : Rep F H ω) (rs : RS (cut F H ω) ρ σ) (fa : F acc = true) (ha : H acc = some (.lst vs)) (rx : RVs (cut F H ω) xs vs) (sG : Same G (cut F H ω)) (w : aLoop g' tc' l' as xs ρ ω K') (k : LL acc F H ω K' K) : lLoop J g tc l acc σ H K:=by
  refine ⟨fun i m σ2 H2=>m + i = as.length∧∃ ρ2 ω2 vs2 xs2,Rep F H2 ω2∧RS (cut F H2 ω2) ρ2 σ2∧Fa acc F H ω H2 ω2∧H2 acc = some (.lst vs2)∧RVs (cut F H2 ω2) xs2 vs2∧aLoop g' tc' l' (as.drop i) xs2 ρ2 ω2 K',
    ⟨as.length,rfl,ρ,ω,vs,xs,rp,rs,Fr.refl.fa,ha,rx,w⟩,?_⟩
  rintro i m σ2 H2 ⟨hm,ρ2,ω2,vs2,xs2,rp2,rs2,fr2,ha2,rx2,q2⟩
  obtain ⟨stop,go⟩:=it F H2 ω2 rp2 (sG.trans fr2.same)
  by_cases hl' : i < as.length
  · obtain ⟨a,hai,hd⟩:=drop_cons hl'
    rw [hd] at q2
    obtain ⟨g1,y1⟩:=go i a hai
    refine .inr ⟨g1,fun x H' hy=>?_⟩
    obtain ⟨rp3,fr3,rv3⟩:=y1 x H' hy
    refine hg.run F H' ω2 σ2 ρ2 x a _ _ rp3 (rs2.same fr3.same) rv3 q2 fun ρ4 ω4 σ4 H4 rp4 fr4 rs4 q4=>?_
    refine hc.go rp4 rs4 q4 fun b ω5 b' H5 rp5 fr5 rs5 rb q5=>?_
    cases (show b = b' from rb)
    have fr25 : Fr F H2 ω2 H5 ω5:=(fr3.trans fr4).trans fr5
    have ha5 : H5 acc = some (.lst vs2):=(fr25.hd acc fa).trans ha2
    have rx5:=rx2.same fr25.same
    cases b with
    | true =>
      rw [if_pos rfl] at q5 ⊢
      refine hl.run F H5 ω5 σ4 ρ4 acc vs2 xs2 _ _ rp5 rs5 fa ha5 rx5 q5 fun xs6 vs6 ρ6 ω6 σ6 H6 e1 e2 e3 e4 e5 e6=>?_
      exact ⟨m - 1,by omega,by omega,ρ6,ω6,vs6,xs6,e1,e3,(fr2.trans fr25.fa).trans e2,e4,e5,e6⟩
    | false =>
      rw [if_neg Bool.false_ne_true] at q5 ⊢
      exact ⟨m - 1,by omega,by omega,ρ4,ω5,vs2,xs2,rp5,rs5,fr2.trans fr25.fa,ha5,rx5,q5⟩
  · have hi : i = as.length:=by omega
    subst hi
    rw [List.drop_length] at q2
    exact .inl ⟨stop,k xs2 vs2 ρ2 ω2 σ2 H2 rp2 fr2 rs2 ha2 rx2 q2⟩
theorem l_for (hi : RefI wi wi') (hg : RefG g g') (hc : RefT tc tc') (hl : RefL l l') : RefL (lFor wi g tc l) (aLFor wi' g' tc' l'):=⟨fun F H ω σ ρ acc vs xs K K' rp rs fa ha rx w k =>
  hi.go rp rs w fun as ω1 J H1 rp1 fr1 rs1 it q=>l_loop hg hc hl it rp1 rs1 fa ((fr1.hd acc fa).trans ha) (rx.same fr1.same) (Same.refl _) q (k.fa fr1.fa)⟩
theorem RS.blk {G : Hp} {ρ : SA} {σ : St} (h : RS G ρ σ) : RS G (blkA src ρ) (blkSt src σ):=by
  refine ⟨by simp [blkA,blkSt],fun i a e=>?_⟩
  unfold blkA at e
  unfold blkSt
  rw [List.getElem?_map] at e ⊢
  cases q : src[i]? with
  | none=>rw [q] at e;simp at e
  | some o =>
    rw [q] at e
    cases o with
    | none=>simp at e
    | some j =>
      simp only [Option.map_some,Option.some.injEq] at e ⊢
      have e' : ρ[j]? = some (some a):=by
        cases z : ρ[j]? with
        | none=>rw [z] at e;simp at e
        | some y=>rw [z] at e;simp at e;rw [e]
      obtain ⟨v,e1,e2⟩:=h.2 j a e'
      exact ⟨v,by rw [e1];rfl,e2⟩
theorem comp_at (hi : RefI wi wi') (hg : RefG g g') (hc : RefT tc tc') (hl : RefL l l') {F : Fs} {H : Hp} {ω : Om} {σ : St} {ρ : SA} {Q : VK} {K' : List AV→SA→Om→Prop} (rp : Rep F H ω) (rs : RS (cut F H ω) ρ σ)
    (w : wi' ρ ω fun as ω1=>aLoop g' tc' l' as [] (blkA src ρ) ω1 K')
    (k : ∀ p xs vs ρ' ω' H',F p = false→(∀ b o,ow (ω b) = false→F b = false→H b = some o→b≠p)→Rep (F.add p) H' ω'→Fr F H ω H' ω'→H' p = some (.lst vs)→RVs (cut (F.add p) H' ω') xs vs→K' xs ρ' ω'→Q (.ref p) H') : tComp src wi g tc l σ H Q:=by
  refine hi.go rp rs w fun as ω1 J H1 rp1 fr1 rs1 it q=>fun acc hacc=>?_
  obtain ⟨rp2,c2⟩:=rp1.hide (vs:=[]) hacc
  obtain ⟨f1,f2⟩:=rp1.free hacc
  have hb1 : ∀ b,b≠acc→F b = false→(F.add acc) b = false:=fun b h f=>by simp [Fs.add,h,f]
  have hne : ∀ b o,ow (ω b) = false→F b = false→H b = some o→b≠acc:=fun b o h f e=>ne_of_none (fr1.st b o h f e).1 hacc
  refine l_loop (xs:=[]) hg hc hl it rp2 (by rw [c2];exact rs1.blk) (by simp [Fs.add]) upd_same rfl (by rw [c2];exact Same.refl _) q fun xs vs ρ' ω' σ' H' e1 e2 e3 e4 e5 e6=>?_
  refine k acc xs vs ρ' ω' H' f2 hne e1 ⟨fun b o h f e=>?_,fun b f=>?_⟩ e4 e5 e6
  · obtain ⟨x,y⟩:=fr1.st b o h f e
    have hb:=hne b o h f e
    exact e2.st b o y (hb1 b hb f) (by rw [upd_ne hb];exact x)
  · have hb : b≠acc:=fun z=>by subst z;rw [f] at f2;cases f2
    rw [e2.hd b (by simp [Fs.add,f]) hb,upd_ne hb,fr1.hd b f]
theorem e_comp (hi : RefI wi wi') (hg : RefG g g') (hc : RefT tc tc') (hl : RefL l l') : RefE (tComp src wi g tc l) (aComp src wi' g' tc' l'):=⟨fun F H ω σ ρ Q Q' rp rs w k=>by
  refine comp_at hi hg hc hl rp rs w fun p xs vs ρ' ω' H' f hne rp1 fr1 e1 e2 q=>?_
  obtain ⟨ds,hu,q⟩:=q
  cases und_some hu
  obtain ⟨rp2,sm,hp⟩:=rp1.unhide f e1
  refine k (.d (.lst ds)) ω' _ H' rp2 fr1 ?_ q
  simp only [RV,Dat]
  exact ⟨p,vs,rfl,hp,RVs.dats.mp (e2.same sm)⟩⟩
theorem e_compO (hi : RefI wi wi') (hg : RefG g g') (hc : RefT tc tc') (hl : RefL l l') : RefE (tComp src wi g tc l) (aCompO src wi' g' tc' l'):=⟨fun F H ω σ ρ Q Q' rp rs w k=>by
  refine comp_at hi hg hc hl rp rs w fun p xs vs ρ' ω' H' f hne rp1 fr1 e1 e2 q=>?_
  have hp : ω' p = none:=(rp1.hid p (by simp [Fs.add])).1
  obtain ⟨rp2,sm⟩:=rp1.unhideO f e1 e2
  refine k (.r (.ref p)) (ω'.put p (.own xs)) _ H' rp2 ⟨fun b o h f e=>?_,fr1.hd⟩ rfl (q p hp)
  obtain ⟨x,y⟩:=fr1.st b o h f e
  rw [Om.put_ne (hne b o h f e)]
  exact ⟨x,y⟩⟩
end
def datA (ω : Om) : AV→Option D
  | .d x=>some x
  | .r (.ref l)=>match ω l with
    | some (.own xs)=>(und xs).map D.lst
    | some (.frz ds)=>some (.lst ds)
    | _=>none
  | _=>none
def lstA (ω : Om) : AV→Option (List AV)
  | .d (.lst ds)=>some (ds.map AV.d)
  | .r (.ref l)=>match ω l with
    | some (.own xs)=>some xs
    | some (.frz ds)=>some (ds.map AV.d)
    | _=>none
  | _=>none
def tupA : AV→Option (List AV)
  | .d (.tup ds)=>some (ds.map AV.d)
  | _=>none
def frzA (ω : Om) (x : AV) (K : D→Om→Prop) : Prop:=match x with
  | .d x=>K x ω
  | .r (.ref l)=>match ω l with
    | some (.own xs)=>∃ ds,und xs = some ds∧K (.lst ds) (ω.put l (.frz ds))
    | some (.frz ds)=>K (.lst ds) ω
    | _=>False
  | _=>False
section
variable {F : Fs} {H : Hp} {ω : Om} {x : AV} {v : V}
theorem lst_of (rp : Rep F H ω) (rv : RV (cut F H ω) x v) {xs : List AV} (h : lstA ω x = some xs) : ∃ a vs,v = .ref a∧H a = some (.lst vs)∧RVs (cut F H ω) xs vs:=by
  cases x with
  | d x=>cases x with
    | lst ds =>
      simp only [lstA,Option.some.injEq] at h
      subst h
      simp only [RV,Dat] at rv
      obtain ⟨a,vs,rfl,e1,e2⟩:=rv
      exact ⟨a,vs,rfl,cut_same _ _ e1,RVs.dats.mpr e2⟩
    | _=>simp [lstA] at h
  | p u P=>simp [lstA] at h
  | r u =>
    cases (show v = u from rv)
    cases v with
    | ref l =>
      simp only [lstA] at h
      cases e : ω l with
      | none=>rw [e] at h;simp at h
      | some c =>
        rw [e] at h
        cases c with
        | own ys =>
          simp only [Option.some.injEq] at h
          subst h
          obtain ⟨vs,e1,e2⟩:=rp.own l _ e
          exact ⟨l,vs,rfl,e1,e2⟩
        | frz ds =>
          simp only [Option.some.injEq] at h
          subst h
          have q:=rp.frz l ds e
          simp only [Dat] at q
          obtain ⟨a,vs,e1,e2,e3⟩:=q
          cases e1
          exact ⟨l,vs,rfl,cut_same _ _ e2,RVs.dats.mpr e3⟩
        | dic ks=>simp at h
    | _=>simp [lstA] at h
theorem tup_of (rv : RV (cut F H ω) x v) {xs : List AV} (h : tupA x = some xs) : ∃ a vs,v = .ref a∧cut F H ω a = some (.tup vs)∧RVs (cut F H ω) xs vs:=by
  cases x with
  | d x=>cases x with
    | tup ds =>
      simp only [tupA,Option.some.injEq] at h
      subst h
      simp only [RV,Dat] at rv
      obtain ⟨a,vs,rfl,e1,e2⟩:=rv
      exact ⟨a,vs,rfl,e1,RVs.dats.mpr e2⟩
    | _=>simp [tupA] at h
  | p u P=>simp [tupA] at h
  | r u=>simp [tupA] at h
theorem dat_of (rp : Rep F H ω) (rv : RV (cut F H ω) x v) {d : D} (h : datA ω x = some d) : Dat H d v:=by
  cases x with
  | d x =>
    simp only [datA,Option.some.injEq] at h
    subst h
    exact Dat.same cut_same rv
  | p u P=>simp [datA] at h
  | r u =>
    cases (show v = u from rv)
    cases v with
    | ref l =>
      simp only [datA] at h
      cases e : ω l with
      | none=>rw [e] at h;simp at h
      | some c =>
        rw [e] at h
        cases c with
        | own ys =>
          simp only [Option.map_eq_some_iff] at h
          obtain ⟨ds,h1,rfl⟩:=h
          cases und_some h1
          obtain ⟨vs,e1,e2⟩:=rp.own l _ e
          simp only [Dat]
          exact ⟨l,vs,rfl,e1,(RVs.dats.mp e2).same cut_same⟩
        | frz ds =>
          simp only [Option.some.injEq] at h
          subst h
          exact (rp.frz l ds e).same cut_same
        | dic ks=>simp at h
    | _=>simp [datA] at h
theorem dats_of (rp : Rep F H ω) (rv : RV (cut F H ω) x v) {ds : List D} (h : datA ω x = some (.lst ds)) : ∃ a vs,v = .ref a∧H a = some (.lst vs)∧Dats (cut F H ω) ds vs:=by
  have : lstA ω x = some (ds.map AV.d):=by
    cases x with
    | d x=>simp only [datA,Option.some.injEq] at h;subst h;rfl
    | p u P=>simp [datA] at h
    | r u=>cases u with
      | ref l =>
        simp only [datA] at h
        simp only [lstA]
        cases e : ω l with
        | none=>rw [e] at h;simp at h
        | some c =>
          rw [e] at h
          cases c with
          | own ys =>
            simp only [Option.map_eq_some_iff] at h
            obtain ⟨es,h1,h2⟩:=h
            cases h2
            rw [und_some h1]
          | frz es=>simp only [Option.some.injEq] at h;cases h;rfl
          | dic ks=>simp at h
      | _=>simp [datA] at h
  obtain ⟨a,vs,e1,e2,e3⟩:=lst_of rp rv this
  exact ⟨a,vs,e1,e2,RVs.dats.mp e3⟩
theorem frz_of (rp : Rep F H ω) (rv : RV (cut F H ω) x v) {K : D→Om→Prop} (h : frzA ω x K) : ∃ d ω',Rep F H ω'∧Fr F H ω H ω'∧Dat (cut F H ω') d v∧K d ω':=by
  cases x with
  | d x=>exact ⟨x,ω,rp,.refl,rv,h⟩
  | p u P=>exact h.elim
  | r u =>
    cases (show v = u from rv)
    cases v with
    | ref l =>
      simp only [frzA] at h
      cases e : ω l with
      | none=>rw [e] at h;exact h.elim
      | some c =>
        rw [e] at h
        cases c with
        | own ys =>
          obtain ⟨ds,h1,h2⟩:=h
          cases und_some h1
          obtain ⟨q1,q2,q3⟩:=rp.freeze e
          exact ⟨_,_,q1,q2,q3,h2⟩
        | frz ds=>exact ⟨_,_,rp,.refl,rp.frz l ds e,h⟩
        | dic ks=>exact h.elim
    | _=>exact h.elim
end
abbrev A2:=AV→AV→Om→(AV→Om→Prop)→Prop
structure Ref2 (r : R2) (r' : A2) : Prop where
  run : ∀ (F : Fs) (H : Hp) (ω : Om) (v u : V) (x y : AV) (Q : VK) (Q' : AV→Om→Prop),Rep F H ω→RV (cut F H ω) x v→RV (cut F H ω) y u→r' x y ω Q'→LP RV F H ω Q' Q→r v u H Q
structure Ref1 (r : V→Hp→VK→Prop) (r' : AV→Om→(AV→Om→Prop)→Prop) : Prop where
  run : ∀ (F : Fs) (H : Hp) (ω : Om) (v : V) (x : AV) (Q : VK) (Q' : AV→Om→Prop),Rep F H ω→RV (cut F H ω) x v→r' x ω Q'→LP RV F H ω Q' Q→r v H Q
structure RefC (r : List V→Hp→VK→Prop) (r' : List AV→Om→(AV→Om→Prop)→Prop) : Prop where
  run : ∀ (F : Fs) (H : Hp) (ω : Om) (vs : List V) (xs : List AV) (Q : VK) (Q' : AV→Om→Prop),Rep F H ω→RVs (cut F H ω) xs vs→r' xs ω Q'→LP RV F H ω Q' Q→r vs H Q
def aVar (i : Nat) : AE:=fun ρ ω Q=>∃ a,ρ[i]? = some (some a)∧Q a ω
def aVarF (i : Nat) : AE:=fun ρ ω Q=>∃ a,ρ[i]? = some (some a)∧frzA ω a fun d ω'=>Q (.d d) ω'
def aC (d : D) : AE:=fun _ ω Q=>Q (.d d) ω
def aOp (r : A2) (ta tb : AE) : AE:=fun ρ ω Q=>ta ρ ω fun x ω1=>tb ρ ω1 fun y ω2=>r x y ω2 Q
def aUn (r : AV→Om→(AV→Om→Prop)→Prop) (ta : AE) : AE:=fun ρ ω Q=>ta ρ ω fun x ω1=>r x ω1 Q
def aNil : AA:=fun _ ω Q=>Q [] ω
def aCons (ta : AE) (tr : AA) : AA:=fun ρ ω Q=>ta ρ ω fun x ω1=>tr ρ ω1 fun xs ω2=>Q (x :: xs) ω2
def aTup (t : AA) : AE:=fun ρ ω Q=>t ρ ω fun xs ω1=>xs.length≤sizeLine∧∃ ds,und xs = some ds∧Q (.d (.tup ds)) ω1
def aLst (t : AA) : AE:=fun ρ ω Q=>t ρ ω fun xs ω1=>xs.length≤sizeLine∧∃ ds,und xs = some ds∧Q (.d (.lst ds)) ω1
def aLstO (t : AA) : AE:=fun ρ ω Q=>t ρ ω fun xs ω1=>xs.length≤sizeLine∧∀ p,ω1 p = none→Q (.r (.ref p)) (ω1.put p (.own xs))
def aCall (sp : ASp) (t : AA) : AE:=fun ρ ω Q=>t ρ ω fun xs ω1=>sp xs ω1 Q
def aCB (r : List AV→Om→(AV→Om→Prop)→Prop) (t : AA) : AE:=fun ρ ω Q=>t ρ ω fun xs ω1=>r xs ω1 Q
def aTest (t : AE) : AT:=fun ρ ω Q=>t ρ ω fun x ω1=>∃ k,x = .d (.bl k)∧Q k ω1
def aAnd (t u : AT) : AT:=fun ρ ω Q=>t ρ ω fun c ω1=>if c = true then u ρ ω1 Q else Q false ω1
def aOr (t u : AT) : AT:=fun ρ ω Q=>t ρ ω fun c ω1=>if c = true then Q true ω1 else u ρ ω1 Q
def aNot (t : AT) : AT:=fun ρ ω Q=>t ρ ω fun c ω1=>Q (!c) ω1
def aIf (t : AT) (ta tb : AE) : AE:=fun ρ ω Q=>t ρ ω fun c ω1=>if c = true then ta ρ ω1 Q else tb ρ ω1 Q
section
variable {ta tb tc : TE} {ta' tb' tc' : AE} {t u : TT} {t' u' : AT} {r r2 : R2} {r' r2' : A2} {s : TA} {s' : AA}
theorem e_var {i : Nat} : RefE (tVar i) (aVar i):=⟨fun F H ω σ ρ Q Q' rp rs h k=>by
  obtain ⟨a,e,q⟩:=h
  obtain ⟨v,e1,e2⟩:=rs.2 i a e
  exact ⟨v,e1,k a ω v H rp .refl e2 q⟩⟩
theorem e_varF {i : Nat} : RefE (tVar i) (aVarF i):=⟨fun F H ω σ ρ Q Q' rp rs h k=>by
  obtain ⟨a,e,q⟩:=h
  obtain ⟨v,e1,e2⟩:=rs.2 i a e
  obtain ⟨d,ω',q1,q2,q3,q4⟩:=frz_of rp e2 q
  exact ⟨v,e1,k (.d d) ω' v H q1 q2 q3 q4⟩⟩
theorem e_int {i : Int} : RefE (tC (.int i)) (aC (.int i)):=⟨fun F H ω σ ρ Q Q' rp rs h k=>k _ ω _ H rp .refl (by simp [RV,Dat]) h⟩
theorem e_str {x : Str} : RefE (tC (.str x)) (aC (.str x)):=⟨fun F H ω σ ρ Q Q' rp rs h k=>k _ ω _ H rp .refl (by simp [RV,Dat]) h⟩
theorem e_bl {b : Bool} : RefE (tC (.bl b)) (aC (.bl b)):=⟨fun F H ω σ ρ Q Q' rp rs h k=>k _ ω _ H rp .refl (by simp [RV,Dat]) h⟩
theorem e_non : RefE (tC .non) (aC .non):=⟨fun F H ω σ ρ Q Q' rp rs h k=>k _ ω _ H rp .refl (by simp [RV,Dat]) h⟩
def aRaw (v : V) : AE:=fun _ ω Q=>Q (.r v) ω
theorem e_raw {v : V} : RefE (tC v) (aRaw v):=⟨fun F H ω σ ρ Q Q' rp rs h k=>k (.r v) ω _ H rp .refl rfl h⟩
theorem e_op (h2 : Ref2 r r') (ha : RefE ta ta') (hb : RefE tb tb') : RefE (tOp r ta tb) (aOp r' ta' tb'):=⟨fun F H ω σ ρ Q Q' rp rs h k =>
  ha.go rp rs h fun x ω1 v H1 rp1 fr1 rs1 rv1 q1=>hb.go rp1 rs1 q1 fun y ω2 u H2 rp2 fr2 rs2 rv2 q2=>h2.run F H2 ω2 v u x y Q Q' rp2 (rv1.same fr2.same) rv2 q2 (k.fr (fr1.trans fr2))⟩
theorem e_un {r : V→Hp→VK→Prop} {r' : AV→Om→(AV→Om→Prop)→Prop} (h2 : Ref1 r r') (ha : RefE ta ta') : RefE (tUn r ta) (aUn r' ta'):=⟨fun F H ω σ ρ Q Q' rp rs h k =>
  ha.go rp rs h fun x ω1 v H1 rp1 fr1 rs1 rv1 q1=>h2.run F H1 ω1 v x Q Q' rp1 rv1 q1 (k.fr fr1)⟩
theorem a_nil : RefA tNil aNil:=⟨fun F H ω σ ρ Q Q' rp rs h k=>k [] ω _ H rp .refl rfl h⟩
theorem a_cons (ha : RefE ta ta') (hs : RefA s s') : RefA (tCons ta s) (aCons ta' s'):=⟨fun F H ω σ ρ Q Q' rp rs h k =>
  ha.go rp rs h fun x ω1 v H1 rp1 fr1 rs1 rv1 q1=>hs.go rp1 rs1 q1 fun y ω2 u H2 rp2 fr2 rs2 rv2 q2=>k (x :: y) ω2 (v :: u) H2 rp2 (fr1.trans fr2) ⟨v,u,rfl,rv1.same fr2.same,rv2⟩ q2⟩
theorem e_tup (hs : RefA s s') : RefE (tTup s) (aTup s'):=⟨fun F H ω σ ρ Q Q' rp rs h k =>
  hs.go rp rs h fun xs ω1 vs H1 rp1 fr1 rs1 rv1 ⟨z,ds,hu,q1⟩=>⟨by rw [rv1.length];exact z,fun p hp=>by
    cases und_some hu
    obtain ⟨rp2,fr2,hc⟩:=rp1.lay (o:=.tup vs) hp
    refine k _ ω1 _ _ rp2 (fr1.trans fr2) ?_ q1
    simp only [RV,Dat]
    exact ⟨p,vs,rfl,hc,(RVs.dats.mp rv1).same fr2.same⟩⟩⟩
theorem e_lst (hs : RefA s s') : RefE (tLst s) (aLst s'):=⟨fun F H ω σ ρ Q Q' rp rs h k =>
  hs.go rp rs h fun xs ω1 vs H1 rp1 fr1 rs1 rv1 ⟨z,ds,hu,q1⟩=>⟨by rw [rv1.length];exact z,fun p hp=>by
    cases und_some hu
    obtain ⟨rp2,fr2,hc⟩:=rp1.lay (o:=.lst vs) hp
    refine k _ ω1 _ _ rp2 (fr1.trans fr2) ?_ q1
    simp only [RV,Dat]
    exact ⟨p,vs,rfl,hc,(RVs.dats.mp rv1).same fr2.same⟩⟩⟩
theorem e_lstO (hs : RefA s s') : RefE (tLst s) (aLstO s'):=⟨fun F H ω σ ρ Q Q' rp rs h k =>
  hs.go rp rs h fun xs ω1 vs H1 rp1 fr1 rs1 rv1 ⟨z,q1⟩=>⟨by rw [rv1.length];exact z,fun p hp=>by
    obtain ⟨rp2,fr2⟩:=rp1.mk' (vs:=vs) hp rv1
    exact k (.r (.ref p)) _ _ _ rp2 (fr1.trans fr2) rfl (q1 p (rp1.free hp).1)⟩⟩
theorem e_call {sp : ASp} {E : XK} (hs : RefA s s') : RefE (tCall (lift sp) [] E s) (aCall sp s'):=⟨fun F H ω σ ρ Q Q' rp rs h k =>
  hs.go rp rs h fun xs ω1 vs H1 rp1 fr1 rs1 rv1 q=>⟨F,xs,ω1,Q',rp1,by rw [List.append_nil];exact rv1,q,k.fr fr1⟩⟩
theorem e_cb {r : List V→Hp→VK→Prop} {r' : List AV→Om→(AV→Om→Prop)→Prop} (hr : RefC r r') (hs : RefA s s') : RefE (tCB r s) (aCB r' s'):=⟨fun F H ω σ ρ Q Q' rp rs h k =>
  hs.go rp rs h fun xs ω1 vs H1 rp1 fr1 rs1 rv1 q=>hr.run F H1 ω1 vs xs Q Q' rp1 rv1 q (k.fr fr1)⟩
theorem t_test (ha : RefE ta ta') : RefT (tTest ta) (aTest ta'):=⟨fun F H ω σ ρ Q Q' rp rs h k =>
  ha.go rp rs h fun x ω1 v H1 rp1 fr1 rs1 rv1 ⟨c,e,q⟩=>by subst e;exact ⟨c,by simpa [RV,Dat] using rv1,k c ω1 c H1 rp1 fr1 rfl q⟩⟩
theorem t_and (h1 : RefT t t') (h2 : RefT u u') : RefT (tAnd t u) (aAnd t' u'):=⟨fun F H ω σ ρ Q Q' rp rs h k =>
  h1.go rp rs h fun c ω1 c' H1 rp1 fr1 rs1 rv1 q=>by
    cases (show c = c' from rv1)
    cases c with
    | true=>rw [if_pos rfl] at q ⊢;exact h2.run F H1 ω1 σ ρ Q Q' rp1 rs1 q (k.fr fr1)
    | false=>rw [if_neg Bool.false_ne_true] at q ⊢;exact k false ω1 false H1 rp1 fr1 rfl q⟩
theorem t_or (h1 : RefT t t') (h2 : RefT u u') : RefT (tOr t u) (aOr t' u'):=⟨fun F H ω σ ρ Q Q' rp rs h k =>
  h1.go rp rs h fun c ω1 c' H1 rp1 fr1 rs1 rv1 q=>by
    cases (show c = c' from rv1)
    cases c with
    | true=>rw [if_pos rfl] at q ⊢;exact k true ω1 true H1 rp1 fr1 rfl q
    | false=>rw [if_neg Bool.false_ne_true] at q ⊢;exact h2.run F H1 ω1 σ ρ Q Q' rp1 rs1 q (k.fr fr1)⟩
theorem t_not (h1 : RefT t t') : RefT (tNot t) (aNot t'):=⟨fun F H ω σ ρ Q Q' rp rs h k =>
  h1.go rp rs h fun c ω1 c' H1 rp1 fr1 rs1 rv1 q=>by
    cases (show c = c' from rv1)
    exact k _ ω1 _ H1 rp1 fr1 rfl q⟩
theorem rv_bl {G : Hp} {c : Bool} {v : V} (h : RV G (.d (.bl c)) v) : v = .bl c:=by simpa [RV,Dat] using h
theorem e_if (h1 : RefT t t') (ha : RefE ta ta') (hb : RefE tb tb') : RefE (tIf t ta tb) (aIf t' ta' tb'):=⟨fun F H ω σ ρ Q Q' rp rs h k =>
  h1.go rp rs h fun c ω1 c' H1 rp1 fr1 rs1 rv1 q=>by
    cases (show c = c' from rv1)
    cases c with
    | true=>rw [if_pos rfl] at q ⊢;exact ha.run F H1 ω1 σ ρ Q Q' rp1 rs1 q (k.fr fr1)
    | false=>rw [if_neg Bool.false_ne_true] at q ⊢;exact hb.run F H1 ω1 σ ρ Q Q' rp1 rs1 q (k.fr fr1)⟩
def truA (ω : Om) (x : AV) : Option Bool:=match x with
  | .d .non=>some false
  | .d (.bl b)=>some b
  | .d (.int i)=>some (i != 0)
  | .d (.tup ds)=>some (!ds.isEmpty)
  | x=>(lstA ω x).map fun xs=>!xs.isEmpty
def aTru (ta : AE) : AT:=fun ρ ω Q=>ta ρ ω fun x ω1=>∃ k,truA ω1 x = some k∧Q k ω1
theorem isEmpty_len {α β : Type} {xs : List α} {ys : List β} (h : xs.length = ys.length) : xs.isEmpty = ys.isEmpty:=by
  cases xs<;>cases ys<;>simp_all
theorem tru_of {K : PySem.W.Frag} {F : Fs} {H1 : Hp} {ω1 : Om} {x : AV} {v : V} {c : Bool} (rp1 : Rep F H1 ω1) (rv1 : RV (cut F H1 ω1) x v) (e : truA ω1 x = some c) : TruV K v H1 c:=by
    have ls : ∀ {xs : List AV},lstA ω1 x = some xs→c = (!xs.isEmpty)→TruV K v H1 c:=fun {xs} e1 e2=>by
      obtain ⟨a,vs,rfl,e3,e4⟩:=lst_of rp1 rv1 e1
      exact .inl ⟨vs,.inl (.inl e3),by rw [e2,isEmpty_len e4.length.symm]⟩
    cases x with
    | d x=>cases x with
      | non=>simp only [truA,Option.some.injEq] at e;simp only [RV,Dat] at rv1;subst rv1;exact e.symm
      | bl b=>simp only [truA,Option.some.injEq] at e;simp only [RV,Dat] at rv1;subst rv1;exact e.symm
      | int b=>simp only [truA,Option.some.injEq] at e;simp only [RV,Dat] at rv1;subst rv1;exact e.symm
      | str b=>simp [truA,lstA] at e
      | tup ds =>
        simp only [truA,Option.some.injEq] at e
        simp only [RV,Dat] at rv1
        obtain ⟨a,vs,rfl,e1,e2⟩:=rv1
        exact .inr (.inl ⟨vs,.inl (.inl (cut_same _ _ e1)),by rw [← e,isEmpty_len e2.length]⟩)
      | lst ds =>
        simp only [truA,Option.map_eq_some_iff] at e
        obtain ⟨xs,e1,e2⟩:=e
        exact ls e1 e2.symm
    | r u =>
      simp only [truA,Option.map_eq_some_iff] at e
      obtain ⟨xs,e1,e2⟩:=e
      exact ls e1 e2.symm
    | p u P=>simp [truA,lstA] at e
theorem t_tru {K : PySem.W.Frag} (ha : RefE ta ta') : RefT (fun σ H Q=>ta σ H fun x H'=>∃ k,TruV K x H' k∧Q k H') (aTru ta'):=⟨fun F H ω σ ρ Q Q' rp rs h k =>
  ha.go rp rs h fun x ω1 v H1 rp1 fr1 rs1 rv1 ⟨c,e,q⟩=>⟨c,tru_of rp1 rv1 e,k c ω1 c H1 rp1 fr1 rfl q⟩⟩
end
def aI0 (f : Int→Int→D) : A2:=fun x y ω Q=>∃ i j,x = .d (.int i)∧y = .d (.int j)∧Q (.d (f i j)) ω
def aI (C : Int→Int→Prop) (f : Int→Int→D) : A2:=fun x y ω Q=>∃ i j,x = .d (.int i)∧y = .d (.int j)∧C i j∧Q (.d (f i j)) ω
def aU (f : Int→D) : AV→Om→(AV→Om→Prop)→Prop:=fun x ω Q=>∃ i,x = .d (.int i)∧Q (.d (f i)) ω
section
variable {F : Fs} {H : Hp} {ω : Om} {Q : VK} {Q' : AV→Om→Prop}
theorem LP.int (k : LP RV F H ω Q' Q) (rp : Rep F H ω) {i : Int} (q : Q' (.d (.int i)) ω) : Q (.int i) H:=k (.d (.int i)) ω _ H rp .refl (by simp [RV,Dat]) q
theorem LP.bl (k : LP RV F H ω Q' Q) (rp : Rep F H ω) {i : Bool} (q : Q' (.d (.bl i)) ω) : Q (.bl i) H:=k (.d (.bl i)) ω _ H rp .refl (by simp [RV,Dat]) q
theorem rv_int {G : Hp} {i : Int} {v : V} (h : RV G (.d (.int i)) v) : v = .int i:=by simpa [RV,Dat] using h
theorem rv_str {G : Hp} {i : Str} {v : V} (h : RV G (.d (.str i)) v) : v = .str i:=by simpa [RV,Dat] using h
theorem rv_non {G : Hp} {v : V} (h : RV G (.d .non) v) : v = .non:=by simpa [RV,Dat] using h
theorem LP.tup (k : LP RV F H ω Q' Q) (rp : Rep F H ω) {ds : List D} {vs : List V} (hd : Dats (cut F H ω) ds vs) (q : Q' (.d (.tup ds)) ω) : ∀ p,H p = none→Q (.ref p) (upd H p (.tup vs)):=fun p hp=>by
  obtain ⟨rp2,fr2,hc⟩:=rp.lay (o:=.tup vs) hp
  refine k (.d (.tup ds)) ω _ _ rp2 fr2 ?_ q
  simp only [RV,Dat]
  exact ⟨p,vs,rfl,hc,hd.same fr2.same⟩
theorem LP.lst (k : LP RV F H ω Q' Q) (rp : Rep F H ω) {ds : List D} {vs : List V} (hd : Dats (cut F H ω) ds vs) (q : Q' (.d (.lst ds)) ω) : ∀ p,H p = none→Q (.ref p) (upd H p (.lst vs)):=fun p hp=>by
  obtain ⟨rp2,fr2,hc⟩:=rp.lay (o:=.lst vs) hp
  refine k (.d (.lst ds)) ω _ _ rp2 fr2 ?_ q
  simp only [RV,Dat]
  exact ⟨p,vs,rfl,hc,hd.same fr2.same⟩
theorem LP.own (k : LP RV F H ω Q' Q) (rp : Rep F H ω) {xs : List AV} {vs : List V} (hd : RVs (cut F H ω) xs vs) (q : ∀ p,ω p = none→Q' (.r (.ref p)) (ω.put p (.own xs))) : ∀ p,H p = none→Q (.ref p) (upd H p (.lst vs)):=fun p hp=>by
  obtain ⟨rp2,fr2⟩:=rp.mk' (vs:=vs) hp hd
  exact k (.r (.ref p)) _ _ _ rp2 fr2 rfl (q p (rp.free hp).1)
end
theorem o_I0i {f : Int→Int→Int} : Ref2 (rI0 fun i j=>.int (f i j)) (aI0 fun i j=>.int (f i j)):=⟨fun F H ω v u x y Q Q' rp h1 h2 ⟨i,j,e1,e2,q⟩ k=>by
  subst e1 e2;exact ⟨i,j,rv_int h1,rv_int h2,k.int rp q⟩⟩
theorem o_I0b {f : Int→Int→Bool} : Ref2 (rI0 fun i j=>.bl (f i j)) (aI0 fun i j=>.bl (f i j)):=⟨fun F H ω v u x y Q Q' rp h1 h2 ⟨i,j,e1,e2,q⟩ k=>by
  subst e1 e2;exact ⟨i,j,rv_int h1,rv_int h2,k.bl rp q⟩⟩
theorem o_Ii {C : Int→Int→Prop} {f : Int→Int→Int} : Ref2 (rI C fun i j=>.int (f i j)) (aI C fun i j=>.int (f i j)):=⟨fun F H ω v u x y Q Q' rp h1 h2 ⟨i,j,e1,e2,c,q⟩ k=>by
  subst e1 e2;exact ⟨i,j,rv_int h1,rv_int h2,c,k.int rp q⟩⟩
theorem u_i {f : Int→Int} : Ref1 (rU fun i=>.int (f i)) (aU fun i=>.int (f i)):=⟨fun F H ω v x Q Q' rp h1 ⟨i,e1,q⟩ k=>by
  subst e1;exact ⟨i,rv_int h1,k.int rp q⟩⟩
def aEqD (neg : Bool) : A2:=fun x y ω Q=>∃ a b,datA ω x = some a∧datA ω y = some b∧dep a≤100∧Q (.d (.bl (if neg then !eqD a b else eqD a b))) ω
theorem o_eqD {neg : Bool} : Ref2 (rEqD neg) (aEqD neg):=⟨fun F H ω v u x y Q Q' rp h1 h2 ⟨a,b,e1,e2,s,q⟩ k=>⟨a,b,dat_of rp h1 e1,dat_of rp h2 e2,s,k.bl rp q⟩⟩
def aIn (neg : Bool) : A2:=fun x y ω Q=>∃ a b ds,datA ω x = some a∧datA ω y = some b∧(b = .lst ds∨b = .tup ds)∧deps ds≤90∧Q (.d (.bl (if neg then !inD a ds else inD a ds))) ω
theorem o_in {neg : Bool} : Ref2 (rInD neg) (aIn neg):=⟨fun F H ω v u x y Q Q' rp h1 h2 ⟨a,b,ds,e1,e2,e3,s,q⟩ k=>⟨a,ds,dat_of rp h1 e1,by
  have:=dat_of rp h2 e2
  rcases e3 with rfl | rfl
  · exact .inl this
  · exact .inr this,s,k.bl rp q⟩⟩
def aCatT : A2:=fun x y ω Q=>∃ ds es,x = .d (.tup ds)∧y = .d (.tup es)∧ds.length + es.length≤sizeLine∧Q (.d (.tup (ds ++ es))) ω
def rCat3 : R2:=fun x y H Q=>∃ a b xs ys,x = .ref a∧y = .ref b∧H a = some (.tup xs)∧H b = some (.tup ys)∧xs.length + ys.length≤sizeLine ∧
  (xs = []→Q (.ref b) H)∧(ys = []→Q (.ref a) H)∧∀ p,H p = none→Q (.ref p) (upd H p (.tup (xs ++ ys)))
theorem op_cat3 {X : Cx} : OpR X (binaryOp .Add) rCat3:=by
  intro pins s σ H x y v u Q I rx ry h
  obtain ⟨a,b,xs,ys,rfl,rfl,ha,hb,hz,g1,g2,g3⟩:=h
  by_cases hn : xs = []
  · subst hn
    cases rx
    cases ry
    obtain ⟨its,r1,ht⟩:=tup_at I ha
    obtain ⟨its2,r2,hb2⟩:=tup_at I hb
    cases r1
    obtain ⟨⟨cls,dd,data,sl⟩,ho,hc,n,hd⟩:=id ht
    obtain ⟨⟨cls2,dd2,data2,sl2⟩,ho2,hc2,n2,hd2⟩:=id hb2
    simp only at hc hd hc2 hd2
    subst hc hd hc2 hd2
    exact concat_meets ⟨_,ho,rfl⟩ ⟨_,ho2,rfl⟩ noFill_tuple_add seq_tuple_add PySem.F.slot_tuple_add PySem.F.entry_tuple_add (PySem.F.args_tuple_add_2 _ _)
      (tuple_addW0 a b _ _ n n2 dd dd2 sl sl2 (by simp)) ⟨ho,ho2,⟨.ref b,H,I,rfl,g1 rfl⟩⟩
  · exact op_catT pins s σ H (.ref a) (.ref b) v u Q I rx ry ⟨a,b,xs,ys,rfl,rfl,SqT.of ha,SqT.of hb,hn,hz,g2,fun _ p hp=>g3 p hp⟩
theorem o_cat3 : Ref2 rCat3 aCatT:=⟨fun F H ω v u x y Q Q' rp h1 h2 ⟨ds,es,e1,e2,z,q⟩ k=>by
  subst e1 e2
  have h1':=h1
  have h2':=h2
  simp only [RV,Dat] at h1 h2
  obtain ⟨a,xs,rfl,ha,hxs⟩:=h1
  obtain ⟨b,ys,rfl,hb,hys⟩:=h2
  refine ⟨a,b,xs,ys,rfl,rfl,cut_same _ _ ha,cut_same _ _ hb,by rw [hxs.length,hys.length];exact z,fun e=>?_,fun e=>?_,k.tup rp (hxs.append hys) q⟩
  · have : ds = []:=List.length_eq_zero_iff.mp (by rw [← hxs.length,e];rfl)
    subst this
    exact k _ ω _ H rp .refl h2' q
  · have : es = []:=List.length_eq_zero_iff.mp (by rw [← hys.length,e];rfl)
    subst this
    rw [List.append_nil] at q
    exact k _ ω _ H rp .refl h1' q⟩
theorem Rep.later {F : Fs} {H H' : Hp} {ω : Om} (rp : Rep F H ω) (s : Same H H') : Rep F H' ω∧Fr F H ω H' ω:=by
  have fr : Fr F H ω H' ω:=⟨fun b o x f e=>⟨s _ _ e,x⟩,fun b f=>by
    obtain ⟨_,o,q⟩:=rp.hid b f
    rw [q,s _ _ q]⟩
  refine ⟨⟨fun l xs e=>?_,fun l ds e=>(rp.frz l ds e).same fr.same,fun b f=>?_,fun l ks e=>(by obtain ⟨vs,e1,e2⟩:=rp.dic l ks e;exact ⟨vs,s _ _ e1,e2.same fr.same⟩)⟩,fr⟩
  · obtain ⟨vs,e1,e2⟩:=rp.own l xs e
    exact ⟨vs,s _ _ e1,e2.same fr.same⟩
  · obtain ⟨x,o,q⟩:=rp.hid b f
    exact ⟨x,o,s _ _ q⟩
def aIxL : A2:=fun x y ω Q=>∃ xs i a,lstA ω x = some xs∧y = .d (.int i)∧atI xs i = some a∧Q a ω
def aIxT : A2:=fun x y ω Q=>∃ xs i a,tupA x = some xs∧y = .d (.int i)∧atI xs i = some a∧Q a ω
theorem RVs.atI {G : Hp} {xs : List AV} {vs : List V} {i : Int} {a : AV} (h : RVs G xs vs) (e : atI xs i = some a) : ∃ v,L2.atI vs i = some v∧RV G a v:=by
  unfold L2.atI at e ⊢
  rw [h.length]
  cases z : ixN xs.length i with
  | none=>rw [z] at e;cases e
  | some j =>
    rw [z] at e
    exact h.get e
theorem o_ixL {K : PySem.W.Frag} : Ref2 (rIxL K) aIxL:=⟨fun F H ω v u x y Q Q' rp h1 h2 ⟨xs,i,a,e1,e2,e3,q⟩ k=>by
  subst e2
  obtain ⟨l,vs,rfl,q1,q2⟩:=lst_of rp h1 e1
  obtain ⟨w,z1,z2⟩:=q2.atI e3
  exact ⟨l,vs,i,w,rfl,rv_int h2,.inl (.inl q1),z1,k a ω w H rp .refl z2 q⟩⟩
theorem o_ixT {K : PySem.W.Frag} : Ref2 (rIxT K) aIxT:=⟨fun F H ω v u x y Q Q' rp h1 h2 ⟨xs,i,a,e1,e2,e3,q⟩ k=>by
  subst e2
  obtain ⟨l,vs,rfl,q1,q2⟩:=tup_of h1 e1
  obtain ⟨w,z1,z2⟩:=q2.atI e3
  exact ⟨l,vs,i,w,rfl,rv_int h2,.inl (.inl (cut_same _ _ q1)),z1,k a ω w H rp .refl z2 q⟩⟩
def aIx : A2:=fun x y ω Q=>∃ xs i a,(lstA ω x = some xs∨tupA x = some xs)∧y = .d (.int i)∧atI xs i = some a∧Q a ω
theorem o_ix {K : PySem.W.Frag} : Ref2 (rIx K) aIx:=⟨fun F H ω v u x y Q Q' rp h1 h2 ⟨xs,i,a,e1,e2,e3,q⟩ k=>by
  rcases e1 with e1 | e1
  · exact .inl (o_ixL.run F H ω v u x y Q Q' rp h1 h2 ⟨xs,i,a,e1,e2,e3,q⟩ k)
  · exact .inr (.inl (o_ixT.run F H ω v u x y Q Q' rp h1 h2 ⟨xs,i,a,e1,e2,e3,q⟩ k))⟩
def aIsN (neg : Bool) : A2:=fun x y ω Q=>∃ a,x = .d a∧y = .d .non∧Q (.d (.bl (if neg then !eqD a .non else eqD a .non))) ω
theorem eq_non {G : Hp} {a : D} {v : V} (h : RV G (.d a) v) : decide (v = .non) = eqD a .non:=by
  cases a<;>simp only [RV,Dat] at h
  all_goals first
    | (subst h;simp [eqD])
    | (obtain ⟨_,_,rfl,_⟩:=h;simp [eqD])
theorem o_isN : Ref2 (fun x y H Q=>y = .non∧Q (.bl (decide (x = .non))) H) (aIsN false):=⟨fun F H ω v u x y Q Q' rp h1 h2 ⟨a,e1,e2,q⟩ k=>by
  subst e1 e2;exact ⟨rv_non h2,by rw [eq_non h1];exact k.bl rp q⟩⟩
abbrev AC:=List AV→Om→(AV→Om→Prop)→Prop
theorem rvs1 {G : Hp} {a : AV} {vs : List V} (h : RVs G [a] vs) : ∃ v,vs = [v]∧RV G a v:=by
  obtain ⟨v,r,rfl,h1,h2⟩:=h
  cases h2
  exact ⟨v,rfl,h1⟩
theorem rvs2 {G : Hp} {a b : AV} {vs : List V} (h : RVs G [a,b] vs) : ∃ v u,vs = [v,u]∧RV G a v∧RV G b u:=by
  obtain ⟨v,r,rfl,h1,h2⟩:=h
  obtain ⟨u,rfl,h3⟩:=rvs1 h2
  exact ⟨v,u,rfl,h1,h3⟩
def lenA (ω : Om) (x : AV) : Option Nat:=match tupA x with
  | some xs=>some xs.length
  | none=>(lstA ω x).map List.length
def aLen : AC:=fun xs ω Q=>∃ x n,xs = [x]∧lenA ω x = some n∧Q (.d (.int n)) ω
theorem c_len {K : PySem.W.Frag} : RefC (fun xs H Q=>∃ x n,xs = [x]∧LenV K x H n∧Q (.int n) H) aLen:=⟨fun F H ω vs xs Q Q' rp rv ⟨x,n,e1,e2,q⟩ k=>by
  subst e1
  obtain ⟨v,rfl,r⟩:=rvs1 rv
  refine ⟨v,n,rfl,?_,k.int rp q⟩
  unfold lenA at e2
  cases z : tupA x with
  | some xs =>
    rw [z] at e2;cases e2
    obtain ⟨a,us,rfl,q1,q2⟩:=tup_of r z
    exact .inr ⟨us,.inl (.inl (cut_same _ _ q1)),q2.length.symm⟩
  | none =>
    rw [z] at e2
    simp only [Option.map_eq_some_iff] at e2
    obtain ⟨ys,e3,rfl⟩:=e2
    obtain ⟨a,us,rfl,q1,q2⟩:=lst_of rp r e3
    exact .inl ⟨us,.inl (.inl q1),q2.length.symm⟩⟩
theorem dats_bl {G : Hp} : ∀ {bs : List Bool} {vs : List V},Dats G (bs.map D.bl) vs→vs = bs.map V.bl
  | [],_,h=>by simpa [Dats] using h
  | b :: bs,vs,h=>by
    simp only [List.map_cons,Dats,Dat] at h
    obtain ⟨x,r,rfl,rfl,h⟩:=h
    rw [dats_bl h];rfl
def aAll (f : List Bool→Bool) : AC:=fun xs ω Q=>∃ x bs,xs = [x]∧datA ω x = some (.lst (bs.map D.bl))∧Q (.d (.bl (f bs))) ω
theorem c_all {K : PySem.W.Frag} {f : List Bool→Bool} : RefC (fun xs H Q=>∃ (a : Addr) (bs : List Bool),xs = [.ref a]∧SqL K H a (bs.map V.bl)∧Q (.bl (f bs)) H) (aAll f):=⟨fun F H ω vs xs Q Q' rp rv ⟨x,bs,e1,e2,q⟩ k=>by
  subst e1
  obtain ⟨v,rfl,r⟩:=rvs1 rv
  obtain ⟨a,us,rfl,q1,q2⟩:=dats_of rp r e2
  cases dats_bl q2
  exact ⟨a,bs,rfl,.inl (.inl q1),k.bl rp q⟩⟩
def aF1 (f : Int→Int) : AC:=fun xs ω Q=>∃ i,xs = [.d (.int i)]∧Q (.d (.int (f i))) ω
theorem c_F1 {f : Int→Int} : RefC (fun xs H Q=>∃ i,xs = [.int i]∧Q (.int (f i)) H) (aF1 f):=⟨fun F H ω vs xs Q Q' rp rv ⟨i,e1,q⟩ k=>by
  subst e1
  obtain ⟨v,rfl,r1⟩:=rvs1 rv
  exact ⟨i,by rw [rv_int r1],k.int rp q⟩⟩
def intD : D→Option Int
  | .int i=>some i
  | .bl k=>some (if k then 1 else 0)
  | _=>none
def aInt : AC:=fun xs ω Q=>∃ d i,xs = [.d d]∧intD d = some i∧Q (.d (.int i)) ω
theorem c_int : RefC (fun xs H Q=>(∃ i,xs = [.int i]∧Q (.int i) H)∨∃ k,xs = [.bl k]∧Q (.int (if k then 1 else 0)) H) aInt:=⟨fun F H ω vs xs Q Q' rp rv ⟨d,i,e1,e2,q⟩ k=>by
  subst e1
  obtain ⟨v,rfl,r1⟩:=rvs1 rv
  cases d with
  | int j=>simp only [intD,Option.some.injEq] at e2;subst e2;exact .inl ⟨_,by rw [rv_int r1],k.int rp q⟩
  | bl j=>simp only [intD,Option.some.injEq] at e2;subst e2;exact .inr ⟨j,by rw [rv_bl r1],k.int rp q⟩
  | _=>cases e2⟩
def aTupOf : AC:=fun xs ω Q=>∃ x ds,xs = [x]∧(datA ω x = some (.lst ds)∨x = .d (.tup ds))∧Q (.d (.tup ds)) ω
theorem c_tuple {K : PySem.W.Frag} : RefC (fun xs H Q=>∃ p ys,xs = [.ref p]∧((SqL K H p ys∧∀ l,H l = none→Q (.ref l) (upd H l (.tup ys)))∨(SqT K H p ys∧Q (.ref p) H))) aTupOf:=⟨fun F H ω vs xs Q Q' rp rv ⟨x,ds,e1,e2,q⟩ k=>by
  subst e1
  obtain ⟨v,rfl,r1⟩:=rvs1 rv
  rcases e2 with e2 | rfl
  · obtain ⟨a,us,rfl,q1,q2⟩:=dats_of rp r1 e2
    exact ⟨a,us,rfl,.inl ⟨.inl (.inl q1),k.tup rp q2 q⟩⟩
  · have r2:=r1
    simp only [RV,Dat] at r2
    obtain ⟨a,us,rfl,q1,q2⟩:=r2
    exact ⟨a,us,rfl,.inr ⟨.inl (.inl (cut_same _ _ q1)),k _ ω _ H rp .refl r1 q⟩⟩⟩
def aListOf : AC:=fun xs ω Q=>∃ x ds,xs = [x]∧(datA ω x = some (.lst ds)∨x = .d (.tup ds))∧Q (.d (.lst ds)) ω
theorem c_list {K : PySem.W.Frag} : RefC (fun xs H Q=>∃ p ys,xs = [.ref p]∧(SqL K H p ys∨SqT K H p ys)∧∀ l,H l = none→Q (.ref l) (upd H l (.lst ys))) aListOf:=⟨fun F H ω vs xs Q Q' rp rv ⟨x,ds,e1,e2,q⟩ k=>by
  subst e1
  obtain ⟨v,rfl,r1⟩:=rvs1 rv
  rcases e2 with e2 | rfl
  · obtain ⟨a,us,rfl,q1,q2⟩:=dats_of rp r1 e2
    exact ⟨a,us,rfl,.inl (.inl (.inl q1)),k.lst rp q2 q⟩
  · have r2:=r1
    simp only [RV,Dat] at r2
    obtain ⟨a,us,rfl,q1,q2⟩:=r2
    exact ⟨a,us,rfl,.inr (.inl (.inl (cut_same _ _ q1))),k.lst rp q2 q⟩⟩
def rngA (lo : Int) (n : Nat) : List AV:=(List.range n).map fun i=>AV.d (.int (lo + (i : Nat)))
def aiRng1 (ta : AA) : AI:=fun ρ ω R=>ta ρ ω fun xs ω1=>∃ j : Int,xs = [.d (.int j)]∧-(2 ^ 62)≤j∧j < 2 ^ 62∧R (rngA 0 j.toNat) ω1
section
variable {te : TE} {te' : AE} {ta : TA} {ta' : AA} {K : PySem.W.Frag}
theorem it_list {G : Hp} {ds : List D} {a : Addr} (h : Dat G (.lst ds) (.ref a)) : ItOk G (ds.map AV.d) (Itl K a):=fun F H ω rp s=>by
  have h2:=h.same s
  simp only [Dat] at h2
  obtain ⟨_,vs,e,ha,hd⟩:=h2
  cases e
  have hq : SqL K H a vs:=.inl (.inl (cut_same _ _ ha))
  have hl:=hd.length
  refine ⟨⟨vs,hq,by simp;omega⟩,fun i x hx=>?_⟩
  obtain ⟨v,e1,e2⟩:=(RVs.dats.mpr hd).get hx
  refine ⟨⟨vs,v,hq,e1⟩,fun y H' hy=>?_⟩
  obtain ⟨rfl,hy⟩:=hy
  have:=hy vs hq
  rw [e1] at this
  cases this
  exact ⟨rp,.refl,e2⟩
theorem it_tup {G : Hp} {ds : List D} {a : Addr} (h : Dat G (.tup ds) (.ref a)) : ItOk G (ds.map AV.d) (Itt K a):=fun F H ω rp s=>by
  have h2:=h.same s
  simp only [Dat] at h2
  obtain ⟨_,vs,e,ha,hd⟩:=h2
  cases e
  have hq : SqT K H a vs:=.inl (.inl (cut_same _ _ ha))
  have hl:=hd.length
  refine ⟨⟨vs,hq,by simp;omega⟩,fun i x hx=>?_⟩
  obtain ⟨v,e1,e2⟩:=(RVs.dats.mpr hd).get hx
  refine ⟨⟨vs,v,hq,e1⟩,fun y H' hy=>?_⟩
  obtain ⟨rfl,hy⟩:=hy
  have:=hy vs hq
  rw [e1] at this
  cases this
  exact ⟨rp,.refl,e2⟩
theorem dat_ref_l {G : Hp} {ds : List D} {v : V} (h : Dat G (.lst ds) v) : ∃ a vs,v = .ref a∧G a = some (.lst vs):=by
  simp only [Dat] at h
  obtain ⟨a,vs,e,h,_⟩:=h
  exact ⟨a,vs,e,h⟩
theorem dat_ref_t {G : Hp} {ds : List D} {v : V} (h : Dat G (.tup ds) v) : ∃ a vs,v = .ref a∧G a = some (.tup vs):=by
  simp only [Dat] at h
  obtain ⟨a,vs,e,h,_⟩:=h
  exact ⟨a,vs,e,h⟩
theorem it_rng {G : Hp} {lo : Int} {n : Nat} : ItOk G (rngA lo n) (Itr lo n):=fun F H ω rp s=>by
  refine ⟨by simp [rngA,Itr],fun i x hx=>?_⟩
  unfold rngA at hx
  rw [List.getElem?_map] at hx
  by_cases hi : i < n
  · rw [List.getElem?_range hi] at hx
    simp only [Option.map_some,Option.some.injEq] at hx
    subst hx
    refine ⟨hi,fun y H' hy=>?_⟩
    obtain ⟨rfl,rfl⟩:=hy
    exact ⟨rp,.refl,by simp [RV,Dat]⟩
  · rw [List.getElem?_eq_none (by simp;omega)] at hx
    cases hx
theorem i_rng1 (h : RefA ta ta') : RefI (iRng1 ta) (aiRng1 ta'):=⟨fun F H ω σ ρ R R' rp rs w k=>h.go rp rs w fun xs ω1 vs H1 rp1 fr1 rs1 rv ⟨j,e,h1,h2,q⟩=>by
  subst e
  obtain ⟨v,rfl,r⟩:=rvs1 rv
  exact ⟨j,by rw [rv_int r],h1,h2,k _ ω1 _ H1 rp1 fr1 it_rng q⟩⟩
def seqD : D→Option (List D)
  | .tup ds=>some ds
  | .lst ds=>some ds
  | _=>none
end
def agTup (n : Nat) (t : AGs) : AG:=fun v ρ ω Q=>∃ ds,v = .d (.tup ds)∧ds.length = n∧t (ds.map AV.d) ρ ω Q
def agLst (n : Nat) (t : AGs) : AG:=fun v ρ ω Q=>∃ xs,lstA ω v = some xs∧xs.length = n∧t xs ρ ω Q
section
variable {K : PySem.W.Frag} {n : Nat} {gs : TGs} {gs' : AGs} {to ti : TE} {to' ti' : AE}
theorem g_tup (h : RefGs gs gs') : RefG (gTup K n gs) (agTup n gs'):=⟨fun F H ω σ ρ v a Q Q' rp rs rv ⟨ds,e,hn,q⟩ k=>by
  subst e
  simp only [RV,Dat] at rv
  obtain ⟨b,vs,rfl,h1,h2⟩:=rv
  exact ⟨b,vs,rfl,.inl (.inl (cut_same _ _ h1)),by rw [h2.length];exact hn,h.run F H ω σ ρ vs _ Q Q' rp rs (RVs.dats.mpr h2) q k⟩⟩
theorem g_lst (h : RefGs gs gs') : RefG (gLst K n gs) (agLst n gs'):=⟨fun F H ω σ ρ v a Q Q' rp rs rv ⟨xs,e,hn,q⟩ k=>by
  obtain ⟨b,vs,rfl,h1,h2⟩:=lst_of rp rv e
  exact ⟨b,vs,rfl,.inl (.inl h1),by rw [h2.length];exact hn,h.run F H ω σ ρ vs _ Q Q' rp rs h2 q k⟩⟩
end
abbrev AO:=SA→Om→(Option Int→Om→Prop)→Prop
section
variable {K : PySem.W.Frag} {te ts : TE} {te' ts' : AE} {tl th : TO} {tl' th' : AO}
def aRev (te : AE) : AE:=fun ρ ω Q=>te ρ ω fun x ω1=>∃ ds,datA ω1 x = some (.lst ds)∧Q (.d (.lst ds.reverse)) ω1
theorem Dats.rev {G : Hp} : ∀ {ds : List D} {vs : List V},Dats G ds vs→Dats G ds.reverse vs.reverse
  | [],_,h=>by simp only [Dats] at h;subst h;simp [Dats]
  | d :: ds,vs,h=>by
    simp only [Dats] at h
    obtain ⟨x,r,rfl,h1,h2⟩:=h
    simp only [List.reverse_cons]
    exact h2.rev.append (.one h1)
theorem e_rev (he : RefE te te') : RefE (tRev K te (tUn (rU fun i=>.int (-i)) (tC (.int 1)))) (aRev te'):=⟨fun F H ω σ ρ Q Q' rp rs w k =>
  he.go rp rs w fun x ω1 v H1 rp1 fr1 rs1 rv1 ⟨ds,e,q⟩=>⟨1,rfl,rfl,by
    obtain ⟨a,vs,rfl,z1,z2⟩:=dats_of rp1 rv1 e
    exact ⟨a,vs,rfl,.inl (.inl z1),(k.fr fr1).lst rp1 z2.rev q⟩⟩⟩
end
def aAppend (to : AE) (t : AA) : AE:=fun ρ ω Q=>to ρ ω fun x ω1=>∃ l,x = .r (.ref l)∧(∃ zs,ω1 l = some (.own zs))∧t ρ ω1 fun ys ω2=>∃ xs y,ys = [y]∧ω2 l = some (.own xs)∧xs.length < sizeLine∧Q (.d .non) (ω2.put l (.own (xs ++ [y])))
def aPop (to : AE) : AE:=fun ρ ω Q=>to ρ ω fun x ω1=>∃ l xs y,x = .r (.ref l)∧ω1 l = some (.own xs)∧xs[xs.length - 1]? = some y∧Q y (ω1.put l (.own xs.dropLast))
section
variable {K : PySem.W.Frag} {to : TE} {to' : AE} {t : TA} {t' : AA}
theorem e_append (ho : RefE to to') (ht : RefA t t') : RefE (tBM K "list" rAppend to t) (aAppend to' t'):=⟨fun F H ω σ ρ Q Q' rp rs w k =>
  ho.go rp rs w fun x ω1 v H1 rp1 fr1 rs1 rv1 ⟨l,e,⟨zs,hz⟩,q1⟩=>by
    subst e
    cases (show v = .ref l from rv1)
    obtain ⟨us,z1,_⟩:=rp1.own l zs hz
    refine ⟨.inl ⟨rfl,us,.inl (.inl z1)⟩,ht.go rp1 rs1 q1 fun ys ω2 vs H2 rp2 fr2 rs2 rv2 ⟨xs,y,e1,e2,e3,q⟩=>?_⟩
    subst e1
    obtain ⟨u,rfl,r⟩:=rvs1 rv2
    obtain ⟨ws,z3,z4⟩:=rp2.own l xs e2
    obtain ⟨rp3,fr3⟩:=rp2.write e2 (z4.append (.one r))
    exact ⟨l,ws,u,rfl,rfl,z3,by rw [z4.length];exact e3,k _ _ _ _ rp3 ((fr1.trans fr2).trans fr3) (by simp [RV,Dat]) q⟩⟩
theorem e_pop (ho : RefE to to') : RefE (tBM0 K "list" rPop to) (aPop to'):=⟨fun F H ω σ ρ Q Q' rp rs w k =>
  ho.go rp rs w fun x ω1 v H1 rp1 fr1 rs1 rv1 ⟨l,xs,y,e,hz,hy,q⟩=>by
    subst e
    cases (show v = .ref l from rv1)
    obtain ⟨us,z1,z2⟩:=rp1.own l xs hz
    obtain ⟨u,z3,z4⟩:=z2.get hy
    obtain ⟨rp3,fr3⟩:=rp1.write hz z2.dropLast
    exact ⟨.inl ⟨rfl,us,.inl (.inl z1)⟩,l,us,u,rfl,rfl,z1,by rw [z2.length];exact z3,k y _ u _ rp3 (fr1.trans fr3) (z4.same fr3.same) q⟩⟩
end
def aSorted : AC:=fun xs ω Q=>∃ (x : AV) (W : List (List Int)),xs = [x]∧datA ω x = some (.lst (W.map wdD))∧(∀ y∈W,y≠[])∧W.length < 64∧Q (.d (.lst ((srtW W).map wdD))) ω
theorem Rep.stays {F : Fs} {H : Hp} {ω : Om} (rp : Rep F H ω) : TSame H (cut F H ω):=fun b xs e=>by
  refine cut_some.mpr ⟨?_,?_,e⟩
  · cases y : ω b with
    | none=>rfl
    | some c=>cases c with
      | frz ds=>rfl
      | own ys =>
        obtain ⟨vs,e1,_⟩:=rp.own b ys y
        rw [e] at e1;cases e1
      | dic ys =>
        obtain ⟨vs,e1,_⟩:=rp.dic b ys y
        rw [e] at e1;cases e1
  · cases z : F b with
    | false=>rfl
    | true =>
      obtain ⟨_,vs,q⟩:=rp.hid b z
      rw [e] at q;cases q
theorem c_sorted : RefC (fun xs H Q=>∃ p W,xs = [.ref p]∧LD H p (W.map wdD)∧(∀ x∈W,x≠[])∧W.length < 64∧∀ l H',H l = none→Same H H'→LD H' l ((srtW W).map wdD)→Q (.ref l) H') aSorted:=⟨fun F H ω vs xs Q Q' rp rv ⟨x,W,e1,e2,e3,e4,q⟩ k=>by
  subst e1
  obtain ⟨v,rfl,r⟩:=rvs1 rv
  obtain ⟨a,us,rfl,z1,z2⟩:=dats_of rp r e2
  refine ⟨a,W,rfl,⟨noLs_wds _,us,z1,z2.same cut_same⟩,e3,e4,fun l H' hl s ld=>?_⟩
  obtain ⟨rp2,fr2⟩:=rp.later s
  obtain ⟨hn,ws,y1,y2⟩:=ld
  obtain ⟨f1,f2⟩:=rp.free hl
  refine k _ ω _ H' rp2 fr2 ?_ q
  simp only [RV,Dat]
  exact ⟨l,ws,rfl,cut_some.mpr ⟨by rw [f1];rfl,f2,y1⟩,Dats.t rp2.stays hn y2⟩⟩
def tyD : D→String
  | .non=>"NoneType" | .bl _=>"bool" | .int _=>"int" | .str _=>"str" | .tup _=>"tuple" | .lst _=>"list"
def isD (T : String) (d : D) : Bool:=tyD d == T || (tyD d == "bool" && T == "int")
def aIsA : AC:=fun xs ω Q=>∃ x d T,xs = [x,.r (.ty T)]∧datA ω x = some d∧T∈kinds∧Q (.d (.bl (isD T d))) ω
theorem ty_of {H : Hp} {d : D} {v : V} (h : Dat H d v) : tyName H v = some (tyD d):=by
  cases d<;>simp only [Dat] at h
  all_goals first
    | (subst h;rfl)
    | (obtain ⟨a,xs,rfl,h,_⟩:=h;simp [tyName,h,tyD])
theorem c_isA : RefC (fun xs H Q=>∃ x T,xs = [x,.ty T]∧T∈kinds∧(tyName H x).isSome = true∧Q (.bl (isA H x T)) H) aIsA:=⟨fun F H ω vs xs Q Q' rp rv ⟨x,d,T,e1,e2,e3,q⟩ k=>by
  subst e1
  obtain ⟨v,u,rfl,r1,r2⟩:=rvs2 rv
  cases (show u = .ty T from r2)
  have ht:=ty_of (dat_of rp r1 e2)
  refine ⟨v,T,rfl,e3,by rw [ht];rfl,?_⟩
  have : isA H v T = isD T d:=by simp [isA,ht,isD]
  rw [this]
  exact k.bl rp q⟩
def aCatL : A2:=fun x y ω Q=>∃ ds es,datA ω x = some (.lst ds)∧datA ω y = some (.lst es)∧ds.length + es.length≤sizeLine∧Q (.d (.lst (ds ++ es))) ω
theorem o_catL : Ref2 rCat aCatL:=⟨fun F H ω v u x y Q Q' rp h1 h2 ⟨ds,es,e1,e2,z,q⟩ k=>by
  obtain ⟨a,vs,rfl,z1,z2⟩:=dats_of rp h1 e1
  obtain ⟨b,us,rfl,z3,z4⟩:=dats_of rp h2 e2
  exact ⟨a,b,vs,us,rfl,rfl,z1,z3,by rw [z2.length,z4.length];exact z,k.lst rp (z2.append z4) q⟩⟩
def aRepL : A2:=fun x y ω Q=>∃ ds k,datA ω x = some (.lst ds)∧y = .d (.int k)∧-(2 ^ 63)≤k∧k < 2 ^ 63∧ds.length * k.toNat≤sizeLine∧Q (.d (.lst (List.replicate k.toNat ds).flatten)) ω
theorem Dats.rep {G : Hp} {ds : List D} {vs : List V} (h : Dats G ds vs) : ∀ n : Nat,Dats G (List.replicate n ds).flatten (List.replicate n vs).flatten
  | 0=>by simp [Dats]
  | n + 1=>by
    simp only [List.replicate_succ,List.flatten_cons]
    exact h.append (h.rep n)
theorem o_repL : Ref2 rRep aRepL:=⟨fun F H ω v u x y Q Q' rp h1 h2 ⟨ds,k',e1,e2,b1,b2,z,q⟩ k=>by
  subst e2
  obtain ⟨a,vs,rfl,z1,z2⟩:=dats_of rp h1 e1
  exact ⟨a,k',vs,rfl,rv_int h2,z1,b1,b2,by rw [z2.length];exact z,k.lst rp (z2.rep _) q⟩⟩
def aChain (r r' : A2) (ta tb tc : AE) : AE:=fun ρ ω Q=>ta ρ ω fun x ω1=>tb ρ ω1 fun y ω2=>r x y ω2 fun z ω3=>∃ k,z = .d (.bl k)∧(if k = true then tc ρ ω3 fun w ω4=>r' y w ω4 Q else Q (.d (.bl false)) ω3)
theorem e_chain {r r2 : R2} {r' r2' : A2} {ta tb tc : TE} {ta' tb' tc' : AE} (h1 : Ref2 r r') (h2 : Ref2 r2 r2') (ha : RefE ta ta') (hb : RefE tb tb') (hc : RefE tc tc') : RefE (tChain r r2 ta tb tc) (aChain r' r2' ta' tb' tc'):=⟨fun F H ω σ ρ Q Q' rp rs w k =>
  ha.go rp rs w fun x ω1 v H1 rp1 fr1 rs1 rv1 q1=>hb.go rp1 rs1 q1 fun y ω2 u H2 rp2 fr2 rs2 rv2 q2=>h1.run F H2 ω2 v u x y _ _ rp2 (rv1.same fr2.same) rv2 q2 fun z ω3 zv H3 rp3 fr3 rv3 ⟨c,e,q⟩=>by
    subst e
    refine ⟨c,rv_bl rv3,?_⟩
    have fr:=(fr1.trans fr2).trans fr3
    cases c with
    | true =>
      rw [if_pos rfl] at q ⊢
      exact hc.go rp3 (rs2.same fr3.same) q fun w' ω4 wv H4 rp4 fr4 rs4 rv4 q4=>h2.run F H4 ω4 u wv y w' Q Q' rp4 (rv2.same (fr3.trans fr4).same) rv4 q4 (k.fr (fr.trans fr4))
    | false =>
      rw [if_neg Bool.false_ne_true] at q ⊢
      exact k _ ω3 _ H3 rp3 fr (by simp [RV,Dat]) q⟩
section
variable {X : Cx} {tg : Expr}
def rOr (r1 r2 : R2) : R2:=fun x y H Q=>r1 x y H Q∨r2 x y H Q
theorem op_alt {f : Value→Value→Sem Value} {r1 r2 : R2} (h1 : OpR X f r1) (h2 : OpR X f r2) : OpR X f (rOr r1 r2):=fun pins s σ H x y v u Q I rx ry h=>by
  rcases h with h | h
  · exact h1 pins s σ H x y v u Q I rx ry h
  · exact h2 pins s σ H x y v u Q I rx ry h
def iSeq (K : PySem.W.Frag) (tl : TE) : TI:=fun σ H R=>tl σ H fun x H1=>(∃ a,x = .ref a∧(∃ xs,SqL K H1 a xs)∧R (Itl K a) H1)∨∃ a,x = .ref a∧(∃ xs,SqT K H1 a xs)∧R (Itt K a) H1
theorem pi_seq (K : PySem.W.Frag) (hK : X.K = K) {l : Expr} {tl : TE} (hl : PE X l tl) : PI X tg l (iSeq K tl):=by
  subst hK
  intro pins s σ H R I h
  refine thn (hl pins s σ H _ I h) fun v s1 ⟨x,H1,I1,r1,q1⟩=>?_
  rcases q1 with q1 | q1
  · obtain ⟨a,e,⟨xs,hq⟩,q⟩:=q1
    subst e
    cases r1
    obtain ⟨its,rv,p,hz⟩:=I1.list hq
    refine wpAny_pyIter_list p.isList ?_
    refine ⟨s1.heap.objs.size,[s1.heap.objs.size],_,_,H1,rfl,I1.kept (t':=s1.toks) fun b o e=>Heap.get?_push_of_some _ e,turn_list a _,⟨_,Heap.get?_push_size _ rfl,rfl,rfl⟩,fun b hb=>?_,q⟩
    have e : b = s1.heap.objs.size:=by simpa using hb
    subst e
    exact I1.fpOk (Nat.le_refl _) (I1.hok.fresh (Nat.le_refl _))
  · obtain ⟨a,e,⟨xs,hq⟩,q⟩:=q1
    subst e
    cases r1
    obtain ⟨its,rv,p,hz⟩:=I1.tuple hq
    refine wpAny_pyIter_tuple (show s1.heap.IsTuple a its.toArray from p) ?_
    refine ⟨s1.heap.objs.size,[s1.heap.objs.size],_,_,H1,rfl,I1.kept (t':=s1.toks) fun b o e=>Heap.get?_push_of_some _ e,turn_tuple a _,⟨_,Heap.get?_push_size _ rfl,rfl,rfl⟩,fun b hb=>?_,q⟩
    have e : b = s1.heap.objs.size:=by simpa using hb
    subst e
    exact I1.fpOk (Nat.le_refl _) (I1.hok.fresh (Nat.le_refl _))
def tOrG (K : PySem.W.Frag) (ta tb : TE) : TE:=fun σ H Q=>ta σ H fun x H1=>∃ c,TruV K x H1 c∧if c = true then Q x H1 else tb σ H1 Q
def tAndG (K : PySem.W.Frag) (ta tb : TE) : TE:=fun σ H Q=>ta σ H fun x H1=>∃ c,TruV K x H1 c∧if c = true then tb σ H1 Q else Q x H1
def tNotG (K : PySem.W.Frag) (ta : TE) : TE:=fun σ H Q=>ta σ H fun x H1=>∃ c,TruV K x H1 c∧Q (.bl (!c)) H1
variable {a b : Expr} {rest : List Expr} {pos : Pos} {ta tb : TE}
theorem pe_orG (K : PySem.W.Frag) (hK : X.K = K) (ha : PE X a ta) (hb : PE X (.BoolOp .Or (b :: rest) pos) tb) : PE X (.BoolOp .Or (a :: b :: rest) pos) (tOrG K ta tb):=.mk <| by
  subst hK
  intro pins s σ H Q I h
  refine BoolOp_or (thn (ha pins s σ H _ I h) fun v s1 ⟨x,H1,I1,r1,q1⟩=>?_)
  refine thn (tru_ok pins s1 σ H1 x v (fun c H2=>H2 = H1∧if c = true then Q x H1 else tb σ H1 Q) I1 r1 ?_) fun c s2 ⟨H2,I2,e,q2⟩=>?_
  · obtain ⟨c,hc,q⟩:=q1
    exact ⟨c,hc,rfl,q⟩
  · subst e
    cases c with
    | false=>rw [if_neg Bool.false_ne_true] at q2;exact hb pins s2 σ H2 Q I2 q2
    | true=>rw [if_pos rfl] at q2;exact ⟨x,H2,I2,r1,q2⟩
theorem pe_andG (K : PySem.W.Frag) (hK : X.K = K) (ha : PE X a ta) (hb : PE X (.BoolOp .And (b :: rest) pos) tb) : PE X (.BoolOp .And (a :: b :: rest) pos) (tAndG K ta tb):=.mk <| by
  subst hK
  intro pins s σ H Q I h
  refine BoolOp_and (thn (ha pins s σ H _ I h) fun v s1 ⟨x,H1,I1,r1,q1⟩=>?_)
  refine thn (tru_ok pins s1 σ H1 x v (fun c H2=>H2 = H1∧if c = true then tb σ H1 Q else Q x H1) I1 r1 ?_) fun c s2 ⟨H2,I2,e,q2⟩=>?_
  · obtain ⟨c,hc,q⟩:=q1
    exact ⟨c,hc,rfl,q⟩
  · subst e
    cases c with
    | true=>rw [if_pos rfl] at q2;exact hb pins s2 σ H2 Q I2 q2
    | false=>rw [if_neg Bool.false_ne_true] at q2;exact ⟨x,H2,I2,r1,q2⟩
theorem pe_notG (K : PySem.W.Frag) (hK : X.K = K) (ha : PE X a ta) : PE X (.UnaryOp .Not a pos) (tNotG K ta):=.mk <| by
  subst hK
  intro pins s σ H Q I h
  refine UnaryOp_ (thn (ha pins s σ H _ I h) fun v s1 ⟨x,H1,I1,r1,q1⟩=>?_)
  refine not_of (thn (tru_ok pins s1 σ H1 x v (fun c H2=>Q (.bl (!c)) H2) I1 r1 q1) fun c s2 ⟨H2,I2,q2⟩=>⟨.bl (!c),H2,I2,rfl,q2⟩)
end
def aOrG (ta tb : AE) : AE:=fun ρ ω Q=>ta ρ ω fun x ω1=>∃ c,truA ω1 x = some c∧if c = true then Q x ω1 else tb ρ ω1 Q
def aAndG (ta tb : AE) : AE:=fun ρ ω Q=>ta ρ ω fun x ω1=>∃ c,truA ω1 x = some c∧if c = true then tb ρ ω1 Q else Q x ω1
def aNotG (ta : AE) : AE:=fun ρ ω Q=>ta ρ ω fun x ω1=>∃ c,truA ω1 x = some c∧Q (.d (.bl (!c))) ω1
def aiSeq (te : AE) : AI:=fun ρ ω R=>te ρ ω fun x ω1=>frzA ω1 x fun d ω2=>∃ ds,seqD d = some ds∧R (ds.map AV.d) ω2
def aAdd : A2:=fun x y ω Q=>match x with
  | .d (.int i)=>∃ j,y = .d (.int j)∧Q (.d (.int (i + j))) ω
  | .d (.tup ds)=>∃ es,y = .d (.tup es)∧ds.length + es.length≤sizeLine∧Q (.d (.tup (ds ++ es))) ω
  | x=>∃ ds es,datA ω x = some (.lst ds)∧datA ω y = some (.lst es)∧ds.length + es.length≤sizeLine∧Q (.d (.lst (ds ++ es))) ω
def aMul : A2:=fun x y ω Q=>match x with
  | .d (.int i)=>∃ j,y = .d (.int j)∧CMul i j∧Q (.d (.int (i * j))) ω
  | x=>aRepL x y ω Q
section
variable {K : PySem.W.Frag} {te ta tb : TE} {te' ta' tb' : AE} {tl th : TO} {tl' th' : AO} {sa : TA} {sa' : AA}
theorem e_orG (ha : RefE ta ta') (hb : RefE tb tb') : RefE (tOrG K ta tb) (aOrG ta' tb'):=⟨fun F H ω σ ρ Q Q' rp rs h k =>
  ha.go rp rs h fun x ω1 v H1 rp1 fr1 rs1 rv1 ⟨c,e,q⟩=>⟨c,tru_of rp1 rv1 e,by
    cases c with
    | true=>rw [if_pos rfl] at q ⊢;exact k x ω1 v H1 rp1 fr1 rv1 q
    | false=>rw [if_neg Bool.false_ne_true] at q ⊢;exact hb.run F H1 ω1 σ ρ Q Q' rp1 rs1 q (k.fr fr1)⟩⟩
theorem e_andG (ha : RefE ta ta') (hb : RefE tb tb') : RefE (tAndG K ta tb) (aAndG ta' tb'):=⟨fun F H ω σ ρ Q Q' rp rs h k =>
  ha.go rp rs h fun x ω1 v H1 rp1 fr1 rs1 rv1 ⟨c,e,q⟩=>⟨c,tru_of rp1 rv1 e,by
    cases c with
    | false=>rw [if_neg Bool.false_ne_true] at q ⊢;exact k x ω1 v H1 rp1 fr1 rv1 q
    | true=>rw [if_pos rfl] at q ⊢;exact hb.run F H1 ω1 σ ρ Q Q' rp1 rs1 q (k.fr fr1)⟩⟩
theorem e_notG (ha : RefE ta ta') : RefE (tNotG K ta) (aNotG ta'):=⟨fun F H ω σ ρ Q Q' rp rs h k =>
  ha.go rp rs h fun x ω1 v H1 rp1 fr1 rs1 rv1 ⟨c,e,q⟩=>⟨c,tru_of rp1 rv1 e,(k.fr fr1).bl rp1 q⟩⟩
theorem i_seq (h : RefE te te') : RefI (iSeq K te) (aiSeq te'):=⟨fun F H ω σ ρ R R' rp rs w k=>h.go rp rs w fun x ω1 v H1 rp1 fr1 rs1 rv q=>by
  obtain ⟨d,ω2,rp2,fr2,hd,ds,hs,q2⟩:=frz_of rp1 rv q
  cases d with
  | lst es =>
    cases hs
    obtain ⟨a,vs,rfl,ha⟩:=dat_ref_l hd
    exact .inl ⟨a,rfl,⟨vs,.inl (.inl (cut_same _ _ ha))⟩,k _ ω2 _ H1 rp2 (fr1.trans fr2) (it_list hd) q2⟩
  | tup es =>
    cases hs
    obtain ⟨a,vs,rfl,ha⟩:=dat_ref_t hd
    exact .inr ⟨a,rfl,⟨vs,.inl (.inl (cut_same _ _ ha))⟩,k _ ω2 _ H1 rp2 (fr1.trans fr2) (it_tup hd) q2⟩
  | _=>cases hs⟩
theorem o_add : Ref2 (rOr (rI0 fun i j=>.int (i + j)) (rOr rCat3 rCat)) aAdd:=⟨fun F H ω v u x y Q Q' rp h1 h2 q k=>by
  have ls : (∃ ds es,datA ω x = some (.lst ds)∧datA ω y = some (.lst es)∧ds.length + es.length≤sizeLine∧Q' (.d (.lst (ds ++ es))) ω)→rOr (rI0 fun i j=>.int (i + j)) (rOr rCat3 rCat) v u H Q:=fun q =>
    .inr (.inr (o_catL.run F H ω v u x y Q Q' rp h1 h2 q k))
  cases x with
  | d x=>cases x with
    | int i =>
      obtain ⟨j,rfl,q⟩:=q
      exact .inl ⟨i,j,rv_int h1,rv_int h2,k.int rp q⟩
    | tup ds =>
      obtain ⟨es,rfl,z,q⟩:=q
      exact .inr (.inl (o_cat3.run F H ω v u _ _ Q Q' rp h1 h2 ⟨ds,es,rfl,rfl,z,q⟩ k))
    | _=>exact ls q
  | _=>exact ls q⟩
theorem o_mul : Ref2 (rOr (rI CMul fun i j=>.int (i * j)) rRep) aMul:=⟨fun F H ω v u x y Q Q' rp h1 h2 q k=>by
  have ls : aRepL x y ω Q'→rOr (rI CMul fun i j=>.int (i * j)) rRep v u H Q:=fun q=>.inr (o_repL.run F H ω v u x y Q Q' rp h1 h2 q k)
  cases x with
  | d x=>cases x with
    | int i =>
      obtain ⟨j,rfl,c,q⟩:=q
      exact .inl ⟨i,j,rv_int h1,rv_int h2,c,k.int rp q⟩
    | _=>exact ls q
  | _=>exact ls q⟩
end
def vD : V→Option D
  | .non=>some .non
  | .bl b=>some (.bl b)
  | .int i=>some (.int i)
  | .str x=>some (.str x)
  | _=>none
def aSGet (kvs : List (Str × V)) (ty : AE) : AE:=fun ρ ω Q=>ty ρ ω fun y ω1=>∃ x v d,y = .d (.str x)∧valS kvs x = some v∧vD v = some d∧Q (.d d) ω1
theorem e_sget {kvs : List (Str × V)} {a : Addr} {ty : TE} {ty' : AE} (h : RefE ty ty') : RefE (tSGet kvs (tC (.ref a)) ty) (aSGet kvs ty'):=⟨fun F H ω σ ρ Q Q' rp rs w k=>h.go rp rs w fun y ω1 u H1 rp1 fr1 rs1 rv ⟨x,v,d,e1,e2,e3,q⟩=>by
  subst e1
  refine ⟨x,v,rv_str rv,e2,?_⟩
  refine k (.d d) ω1 v H1 rp1 fr1 ?_ q
  cases v<;>simp only [vD,Option.some.injEq,reduceCtorEq] at e3
  all_goals (subst e3;simp [RV,Dat])⟩
def startA (N : List Str) (xs : List AV) : SA:=xs.map some ++ List.replicate (N.length - xs.length) none
theorem RS.start {G : Hp} {N : List Str} {xs : List AV} {vs : List V} (h : RVs G xs vs) : RS G (startA N xs) (start N vs):=by
  refine ⟨by simp [startA,L2.start,h.length],fun i a e=>?_⟩
  unfold startA at e
  unfold L2.start
  by_cases hi : i < xs.length
  · rw [List.getElem?_append_left (by simpa using hi),List.getElem?_map] at e
    rw [List.getElem?_append_left (by simpa [h.length] using hi),List.getElem?_map]
    cases z : xs[i]? with
    | none=>rw [z] at e;simp at e
    | some b =>
      rw [z] at e
      simp at e
      subst e
      obtain ⟨v,e1,e2⟩:=h.get z
      exact ⟨v,by rw [e1];rfl,e2⟩
  · rw [List.getElem?_append_right (by simpa using hi)] at e
    have:=List.mem_of_getElem? e
    rw [List.mem_replicate] at this
    cases this.2
theorem Fun.okA {P : Program} {w : World} {K : PySem.W.Frag} {mg : Str→Option Value} {base : Heap} {x qual : Str} {st : Stmt} {f : Addr} {fd : FuncData} {N ps : List Str} {k : Nat} {sp : ASp} (F : Fun K x qual st f fd) (S : FnScope N ps (defScope st)) (len : ∀ xs ω Q,sp xs ω Q→xs.length = ps.length)
    (hbody : ∀ (cdv : Value) (A : Around) (outer : List Env) (s : Shared) (H : Hp) (E : XK),Room k (A.deeper (envOfC qual (defScope st) s.heap.objs.size f cdv)) →
      ∃ t t',PSs (cxOf CX0 P w K mg base N qual (defScope st) f cdv A outer s H E).nox (defBody st) t∧RefS t t'∧∀ xs ω Q',sp xs ω Q'→t' { nx:=fun _ ω'=>Q' (.d .non) ω',rt:=Q' } (startA N xs) ω) : FnOk P w K mg base CX0 (k + 1) f fd ps (lift sp):=by
  refine F.ok S (fun vs H Q E h=>?_) (fun cdv A outer s H vs Q E hr h=>?_)
  · obtain ⟨F,xs,ω,Q',rp,rv,h,_⟩:=h
    rw [rv.length,len xs ω Q' h]
  · obtain ⟨t,t',h1,h2,h3⟩:=hbody cdv A outer s H E hr
    obtain ⟨F,xs,ω,Q',rp,rv,h,kq⟩:=h
    refine ⟨t,h1,h2.run F H ω _ _ _ _ rp (RS.start rv) (h3 xs ω Q' h) ⟨?_,kq,fun _ _ _ _ _ _ _ z=>z.elim,fun _ _ _ _ _ _ _ z=>z.elim⟩⟩
    exact fun ρ' ω' σ' H' e1 e2 e3 q=>kq (.d .non) ω' .non H' e1 e2 (by simp [RV,Dat]) q
theorem aNext_eq (D : AEnds) (ρ : SA) (ω : Om) : aNext D ρ ω = (D.nx ρ ω):=rfl
theorem aSeq_eq (t u : AS) (D : AEnds) (ρ : SA) (ω : Om) : aSeq t u D ρ ω = (t { D with nx:=u D } ρ ω):=rfl
theorem aCont_eq (D : AEnds) (ρ : SA) (ω : Om) : aCont D ρ ω = (D.ct ρ ω):=rfl
theorem aDrop_eq (te : AE) (D : AEnds) (ρ : SA) (ω : Om) : aDrop te D ρ ω = (te ρ ω fun _ ω1=>D.nx ρ ω1):=rfl
theorem aRet_eq (te : AE) (D : AEnds) (ρ : SA) (ω : Om) : aRet te D ρ ω = (te ρ ω D.rt):=rfl
theorem aIfS_eq (c : AT) (t u : AS) (D : AEnds) (ρ : SA) (ω : Om) : aIfS c t u D ρ ω = (c ρ ω fun b ω1=>if b = true then t D ρ ω1 else u D ρ ω1):=rfl
theorem aAsg_eq (te : AE) (g : AG) (D : AEnds) (ρ : SA) (ω : Om) : aAsg te g D ρ ω = (te ρ ω fun x ω1=>g x ρ ω1 D.nx):=rfl
theorem agName_eq (i : Nat) (v : AV) (ρ : SA) (ω : Om) (Q : SA→Om→Prop) : agName i v ρ ω Q = (Q (ρ.set i (some v)) ω):=rfl
theorem agNil_eq (vs : List AV) (ρ : SA) (ω : Om) (Q : SA→Om→Prop) : agNil vs ρ ω Q = (vs = []∧Q ρ ω):=rfl
theorem agCons_eq (t : AG) (u : AGs) (vs : List AV) (ρ : SA) (ω : Om) (Q : SA→Om→Prop) : agCons t u vs ρ ω Q = (∃ v r,vs = v :: r∧t v ρ ω fun ρ' ω'=>u r ρ' ω' Q):=rfl
theorem aFor_eq (wi : AI) (g : AG) (tb : AS) (D : AEnds) (ρ : SA) (ω : Om) : aFor wi g tb D ρ ω = (wi ρ ω fun as ω1=>aForL g tb D as ρ ω1):=rfl
theorem aNoTest_eq (z0 : SA) (ω : Om) (Q : Bool→Om→Prop) : aNoTest z0 ω Q = (Q true ω):=rfl
theorem aLast_eq (te : AE) (xs : List AV) (ρ : SA) (ω : Om) (K : List AV→SA→Om→Prop) : aLast te xs ρ ω K = (te ρ ω fun y ω1=>xs.length < sizeLine∧K (xs ++ [y]) ρ ω1):=rfl
theorem aLFor_eq (wi : AI) (g : AG) (tc : AT) (l : AL) (xs : List AV) (ρ : SA) (ω : Om) (K : List AV→SA→Om→Prop) : aLFor wi g tc l xs ρ ω K = (wi ρ ω fun as ω1=>aLoop g tc l as xs ρ ω1 K):=rfl
theorem aVar_eq (i : Nat) (ρ : SA) (ω : Om) (Q : AV→Om→Prop) : aVar i ρ ω Q = (∃ a,ρ[i]? = some (some a)∧Q a ω):=rfl
theorem aVarF_eq (i : Nat) (ρ : SA) (ω : Om) (Q : AV→Om→Prop) : aVarF i ρ ω Q = (∃ a,ρ[i]? = some (some a)∧frzA ω a fun d ω'=>Q (.d d) ω'):=rfl
theorem aC_eq (d : D) (z0 : SA) (ω : Om) (Q : AV→Om→Prop) : aC d z0 ω Q = (Q (.d d) ω):=rfl
theorem aOp_eq (r : A2) (ta tb : AE) (ρ : SA) (ω : Om) (Q : AV→Om→Prop) : aOp r ta tb ρ ω Q = (ta ρ ω fun x ω1=>tb ρ ω1 fun y ω2=>r x y ω2 Q):=rfl
theorem aNil_eq (z0 : SA) (ω : Om) (Q : List AV→Om→Prop) : aNil z0 ω Q = (Q [] ω):=rfl
theorem aCons_eq (ta : AE) (tr : AA) (ρ : SA) (ω : Om) (Q : List AV→Om→Prop) : aCons ta tr ρ ω Q = (ta ρ ω fun x ω1=>tr ρ ω1 fun xs ω2=>Q (x :: xs) ω2):=rfl
theorem aTup_eq (t : AA) (ρ : SA) (ω : Om) (Q : AV→Om→Prop) : aTup t ρ ω Q = (t ρ ω fun xs ω1=>xs.length≤sizeLine∧∃ ds,und xs = some ds∧Q (.d (.tup ds)) ω1):=rfl
theorem aLst_eq (t : AA) (ρ : SA) (ω : Om) (Q : AV→Om→Prop) : aLst t ρ ω Q = (t ρ ω fun xs ω1=>xs.length≤sizeLine∧∃ ds,und xs = some ds∧Q (.d (.lst ds)) ω1):=rfl
theorem aLstO_eq (t : AA) (ρ : SA) (ω : Om) (Q : AV→Om→Prop) : aLstO t ρ ω Q = (t ρ ω fun xs ω1=>xs.length≤sizeLine∧∀ p,ω1 p = none→Q (.r (.ref p)) (ω1.put p (.own xs))):=rfl
theorem aCall_eq (sp : ASp) (t : AA) (ρ : SA) (ω : Om) (Q : AV→Om→Prop) : aCall sp t ρ ω Q = (t ρ ω fun xs ω1=>sp xs ω1 Q):=rfl
theorem aTest_eq (t : AE) (ρ : SA) (ω : Om) (Q : Bool→Om→Prop) : aTest t ρ ω Q = (t ρ ω fun x ω1=>∃ k,x = .d (.bl k)∧Q k ω1):=rfl
theorem aAnd_eq (t u : AT) (ρ : SA) (ω : Om) (Q : Bool→Om→Prop) : aAnd t u ρ ω Q = (t ρ ω fun c ω1=>if c = true then u ρ ω1 Q else Q false ω1):=rfl
theorem aOr_eq (t u : AT) (ρ : SA) (ω : Om) (Q : Bool→Om→Prop) : aOr t u ρ ω Q = (t ρ ω fun c ω1=>if c = true then Q true ω1 else u ρ ω1 Q):=rfl
theorem aNot_eq (t : AT) (ρ : SA) (ω : Om) (Q : Bool→Om→Prop) : aNot t ρ ω Q = (t ρ ω fun c ω1=>Q (!c) ω1):=rfl
theorem aIf_eq (t : AT) (ta tb : AE) (ρ : SA) (ω : Om) (Q : AV→Om→Prop) : aIf t ta tb ρ ω Q = (t ρ ω fun c ω1=>if c = true then ta ρ ω1 Q else tb ρ ω1 Q):=rfl
theorem aRaw_eq (v : V) (z0 : SA) (ω : Om) (Q : AV→Om→Prop) : aRaw v z0 ω Q = (Q (.r v) ω):=rfl
theorem aTru_eq (ta : AE) (ρ : SA) (ω : Om) (Q : Bool→Om→Prop) : aTru ta ρ ω Q = (ta ρ ω fun x ω1=>∃ k,truA ω1 x = some k∧Q k ω1):=rfl
theorem aI0_eq (f : Int→Int→D) (x : AV) (y : AV) (ω : Om) (Q : AV→Om→Prop) : aI0 f x y ω Q = (∃ i j,x = .d (.int i)∧y = .d (.int j)∧Q (.d (f i j)) ω):=rfl
theorem aI_eq (C : Int→Int→Prop) (f : Int→Int→D) (x : AV) (y : AV) (ω : Om) (Q : AV→Om→Prop) : aI C f x y ω Q = (∃ i j,x = .d (.int i)∧y = .d (.int j)∧C i j∧Q (.d (f i j)) ω):=rfl
theorem aEqD_eq (neg : Bool) (x : AV) (y : AV) (ω : Om) (Q : AV→Om→Prop) : aEqD neg x y ω Q = (∃ a b,datA ω x = some a∧datA ω y = some b∧dep a≤100∧Q (.d (.bl (if neg then !eqD a b else eqD a b))) ω):=rfl
theorem aIn_eq (neg : Bool) (x : AV) (y : AV) (ω : Om) (Q : AV→Om→Prop) : aIn neg x y ω Q = (∃ a b ds,datA ω x = some a∧datA ω y = some b∧(b = .lst ds∨b = .tup ds)∧deps ds≤90∧Q (.d (.bl (if neg then !inD a ds else inD a ds))) ω):=rfl
theorem aIx_eq (x : AV) (y : AV) (ω : Om) (Q : AV→Om→Prop) : aIx x y ω Q = (∃ xs i a,(lstA ω x = some xs∨tupA x = some xs)∧y = .d (.int i)∧atI xs i = some a∧Q a ω):=rfl
theorem aLen_eq (xs : List AV) (ω : Om) (Q : AV→Om→Prop) : aLen xs ω Q = (∃ x n,xs = [x]∧lenA ω x = some n∧Q (.d (.int n)) ω):=rfl
theorem aAll_eq (f : List Bool→Bool) (xs : List AV) (ω : Om) (Q : AV→Om→Prop) : aAll f xs ω Q = (∃ x bs,xs = [x]∧datA ω x = some (.lst (bs.map D.bl))∧Q (.d (.bl (f bs))) ω):=rfl
theorem aF1_eq (f : Int→Int) (xs : List AV) (ω : Om) (Q : AV→Om→Prop) : aF1 f xs ω Q = (∃ i,xs = [.d (.int i)]∧Q (.d (.int (f i))) ω):=rfl
theorem aInt_eq (xs : List AV) (ω : Om) (Q : AV→Om→Prop) : aInt xs ω Q = (∃ d i,xs = [.d d]∧intD d = some i∧Q (.d (.int i)) ω):=rfl
theorem aTupOf_eq (xs : List AV) (ω : Om) (Q : AV→Om→Prop) : aTupOf xs ω Q = (∃ x ds,xs = [x]∧(datA ω x = some (.lst ds)∨x = .d (.tup ds))∧Q (.d (.tup ds)) ω):=rfl
theorem aListOf_eq (xs : List AV) (ω : Om) (Q : AV→Om→Prop) : aListOf xs ω Q = (∃ x ds,xs = [x]∧(datA ω x = some (.lst ds)∨x = .d (.tup ds))∧Q (.d (.lst ds)) ω):=rfl
theorem aiRng1_eq (ta : AA) (ρ : SA) (ω : Om) (R : List AV→Om→Prop) : aiRng1 ta ρ ω R = (ta ρ ω fun xs ω1=>∃ j : Int,xs = [.d (.int j)]∧-(2 ^ 62)≤j∧j < 2 ^ 62∧R (rngA 0 j.toNat) ω1):=rfl
theorem agTup_eq (n : Nat) (t : AGs) (v : AV) (ρ : SA) (ω : Om) (Q : SA→Om→Prop) : agTup n t v ρ ω Q = (∃ ds,v = .d (.tup ds)∧ds.length = n∧t (ds.map AV.d) ρ ω Q):=rfl
theorem agLst_eq (n : Nat) (t : AGs) (v : AV) (ρ : SA) (ω : Om) (Q : SA→Om→Prop) : agLst n t v ρ ω Q = (∃ xs,lstA ω v = some xs∧xs.length = n∧t xs ρ ω Q):=rfl
theorem aRev_eq (te : AE) (ρ : SA) (ω : Om) (Q : AV→Om→Prop) : aRev te ρ ω Q = (te ρ ω fun x ω1=>∃ ds,datA ω1 x = some (.lst ds)∧Q (.d (.lst ds.reverse)) ω1):=rfl
theorem aAppend_eq (to : AE) (t : AA) (ρ : SA) (ω : Om) (Q : AV→Om→Prop) : aAppend to t ρ ω Q = (to ρ ω fun x ω1=>∃ l,x = .r (.ref l)∧(∃ zs,ω1 l = some (.own zs))∧t ρ ω1 fun ys ω2=>∃ xs y,ys = [y]∧ω2 l = some (.own xs)∧xs.length < sizeLine∧Q (.d .non) (ω2.put l (.own (xs ++ [y])))):=rfl
theorem aSorted_eq (xs : List AV) (ω : Om) (Q : AV→Om→Prop) : aSorted xs ω Q = (∃ (x : AV) (W : List (List Int)),xs = [x]∧datA ω x = some (.lst (W.map wdD))∧(∀ y∈W,y≠[])∧W.length < 64∧Q (.d (.lst ((srtW W).map wdD))) ω):=rfl
theorem aIsA_eq (xs : List AV) (ω : Om) (Q : AV→Om→Prop) : aIsA xs ω Q = (∃ x d T,xs = [x,.r (.ty T)]∧datA ω x = some d∧T∈kinds∧Q (.d (.bl (isD T d))) ω):=rfl
theorem aChain_eq (r r' : A2) (ta tb tc : AE) (ρ : SA) (ω : Om) (Q : AV→Om→Prop) : aChain r r' ta tb tc ρ ω Q = (ta ρ ω fun x ω1=>tb ρ ω1 fun y ω2=>r x y ω2 fun z ω3=>∃ k,z = .d (.bl k)∧(if k = true then tc ρ ω3 fun w ω4=>r' y w ω4 Q else Q (.d (.bl false)) ω3)):=rfl
theorem aOrG_eq (ta tb : AE) (ρ : SA) (ω : Om) (Q : AV→Om→Prop) : aOrG ta tb ρ ω Q = (ta ρ ω fun x ω1=>∃ c,truA ω1 x = some c∧if c = true then Q x ω1 else tb ρ ω1 Q):=rfl
theorem aAndG_eq (ta tb : AE) (ρ : SA) (ω : Om) (Q : AV→Om→Prop) : aAndG ta tb ρ ω Q = (ta ρ ω fun x ω1=>∃ c,truA ω1 x = some c∧if c = true then tb ρ ω1 Q else Q x ω1):=rfl
theorem aNotG_eq (ta : AE) (ρ : SA) (ω : Om) (Q : AV→Om→Prop) : aNotG ta ρ ω Q = (ta ρ ω fun x ω1=>∃ c,truA ω1 x = some c∧Q (.d (.bl (!c))) ω1):=rfl
theorem aiSeq_eq (te : AE) (ρ : SA) (ω : Om) (R : List AV→Om→Prop) : aiSeq te ρ ω R = (te ρ ω fun x ω1=>frzA ω1 x fun d ω2=>∃ ds,seqD d = some ds∧R (ds.map AV.d) ω2):=rfl
theorem aComp_eq (src : List (Option Nat)) (wi : AI) (g : AG) (tc : AT) (l : AL) (ρ : SA) (ω : Om) (Q : AV→Om→Prop) : aComp src wi g tc l ρ ω Q = (wi ρ ω fun as ω1=>aLoop g tc l as [] (blkA src ρ) ω1 fun xs _ ω'=>∃ ds,und xs = some ds∧Q (.d (.lst ds)) ω'):=rfl
theorem aCompO_eq (src : List (Option Nat)) (wi : AI) (g : AG) (tc : AT) (l : AL) (ρ : SA) (ω : Om) (Q : AV→Om→Prop) : aCompO src wi g tc l ρ ω Q = (wi ρ ω fun as ω1=>aLoop g tc l as [] (blkA src ρ) ω1 fun xs _ ω'=>∀ p,ω' p = none→Q (.r (.ref p)) (ω'.put p (.own xs))):=rfl
theorem aCB_eq (r : List AV→Om→(AV→Om→Prop)→Prop) (t : AA) (ρ : SA) (ω : Om) (Q : AV→Om→Prop) : aCB r t ρ ω Q = (t ρ ω fun xs ω1=>r xs ω1 Q):=rfl
theorem aSGet_eq (kvs : List (Str × V)) (ty : AE) (ρ : SA) (ω : Om) (Q : AV→Om→Prop) : aSGet kvs ty ρ ω Q = (ty ρ ω fun y ω1=>∃ x v d,y = .d (.str x)∧valS kvs x = some v∧vD v = some d∧Q (.d d) ω1):=rfl
theorem aAdd_int (i : Int) (y : AV) (ω : Om) (Q : AV→Om→Prop) : aAdd (.d (.int i)) y ω Q = (∃ j,y = .d (.int j)∧Q (.d (.int (i + j))) ω):=rfl
theorem aAdd_lst (ds : List D) (y : AV) (ω : Om) (Q : AV→Om→Prop) : aAdd (.d (.lst ds)) y ω Q = (∃ es,datA ω y = some (.lst es)∧ds.length + es.length≤sizeLine∧Q (.d (.lst (ds ++ es))) ω):=by
  show (∃ ds' es,datA ω (.d (.lst ds)) = some (.lst ds')∧datA ω y = some (.lst es)∧ds'.length + es.length≤sizeLine∧Q (.d (.lst (ds' ++ es))) ω) = _
  simp only [datA,Option.some.injEq,D.lst.injEq,exists_eq_left',exists_and_left]
theorem aMul_int (i : Int) (y : AV) (ω : Om) (Q : AV→Om→Prop) : aMul (.d (.int i)) y ω Q = (∃ j,y = .d (.int j)∧CMul i j∧Q (.d (.int (i * j))) ω):=rfl
theorem frzA_d (ω : Om) (x : D) (K : D→Om→Prop) : frzA ω (.d x) K = K x ω:=rfl
theorem frzA_r (ω : Om) (l : Addr) (K : D→Om→Prop) : frzA ω (.r (.ref l)) K = (match ω l with
    | some (.own xs)=>∃ ds,und xs = some ds∧K (.lst ds) (ω.put l (.frz ds))
    | some (.frz ds)=>K (.lst ds) ω
    | _=>False):=rfl
theorem datA_d (ω : Om) (x : D) : datA ω (.d x) = some x:=rfl
theorem datA_r (ω : Om) (l : Addr) : datA ω (.r (.ref l)) = (match ω l with
    | some (.own xs)=>(und xs).map D.lst
    | some (.frz ds)=>some (.lst ds)
    | _=>none):=rfl
theorem lstA_l (ω : Om) (ds : List D) : lstA ω (.d (.lst ds)) = some (ds.map AV.d):=rfl
theorem lstA_t (ω : Om) (ds : List D) : lstA ω (.d (.tup ds)) = none:=rfl
theorem lstA_r (ω : Om) (l : Addr) : lstA ω (.r (.ref l)) = (match ω l with
    | some (.own xs)=>some xs
    | some (.frz ds)=>some (ds.map AV.d)
    | _=>none):=rfl
theorem tupA_t (ds : List D) : tupA (.d (.tup ds)) = some (ds.map AV.d):=rfl
theorem tupA_l (ds : List D) : tupA (.d (.lst ds)) = none:=rfl
theorem tupA_r (v : V) : tupA (.r v) = none:=rfl
theorem truA_b (ω : Om) (b : Bool) : truA ω (.d (.bl b)) = some b:=rfl
theorem truA_r (ω : Om) (l : Addr) : truA ω (.r (.ref l)) = (lstA ω (.r (.ref l))).map fun xs=>!xs.isEmpty:=rfl
theorem und_cons (x : D) (r : List AV) : und (.d x :: r) = (und r).map (x :: ·):=rfl
theorem und_nil : und [] = some []:=rfl
theorem lenA_t (ω : Om) (ds : List D) : lenA ω (.d (.tup ds)) = some ds.length:=by simp [lenA,tupA]
theorem lenA_l (ω : Om) (ds : List D) : lenA ω (.d (.lst ds)) = some ds.length:=by simp [lenA,tupA,lstA]
theorem lenA_r (ω : Om) (l : Addr) : lenA ω (.r (.ref l)) = (lstA ω (.r (.ref l))).map List.length:=rfl
theorem seqD_t (ds : List D) : seqD (.tup ds) = some ds:=rfl
theorem seqD_l (ds : List D) : seqD (.lst ds) = some ds:=rfl
theorem aForL_nil (g : AG) (tb : AS) (D : AEnds) (ρ : SA) (ω : Om) : aForL g tb D [] ρ ω = D.nx ρ ω:=rfl
theorem aForL_cons (g : AG) (tb : AS) (D : AEnds) (a : AV) (as : List AV) (ρ : SA) (ω : Om) : aForL g tb D (a :: as) ρ ω = (g a ρ ω fun ρ1 ω1=>tb { nx:=aForL g tb D as,ct:=aForL g tb D as,bk:=D.nx,rt:=D.rt } ρ1 ω1):=rfl
theorem for_ix {g : AG} {tb : AS} {D : AEnds} {as : List AV} {ρ : SA} {ω : Om} (I : Nat→SA→Om→Prop) (h0 : I 0 ρ ω)
    (hs : ∀ (i : Nat) (a : AV) (ρ : SA) (ω : Om) (N : SA→Om→Prop),as[i]? = some a→I i ρ ω→(∀ ρ' ω',I (i + 1) ρ' ω'→N ρ' ω')→g a ρ ω fun ρ1 ω1=>tb { nx:=N,ct:=N,bk:=D.nx,rt:=D.rt } ρ1 ω1)
    (hd : ∀ ρ ω,I as.length ρ ω→D.nx ρ ω) : aForL g tb D as ρ ω:=by
  have key : ∀ (n i : Nat) (ρ : SA) (ω : Om),i + n = as.length→I i ρ ω→aForL g tb D (as.drop i) ρ ω:=by
    intro n
    induction n with
    | zero=>intro i ρ ω hi h;rw [List.drop_eq_nil_of_le (by omega)];exact hd ρ ω (by rw [← hi];exact h)
    | succ n ih =>
      intro i ρ ω hi h
      obtain ⟨a,ha,hdr⟩:=drop_cons (as:=as) (i:=i) (by omega)
      rw [hdr]
      exact hs i a ρ ω _ ha h fun ρ' ω' h'=>ih (i + 1) ρ' ω' (by omega) h'
  simpa using key as.length 0 ρ ω (by omega) h0
theorem for_D {g : AG} {tb : AS} {D : AEnds} {ds : List L2.D} {ρ : SA} {ω : Om} (I : Nat→SA→Om→Prop) (h0 : I 0 ρ ω)
    (hs : ∀ (i : Nat) (d : L2.D) (ρ : SA) (ω : Om) (N : SA→Om→Prop),ds[i]? = some d→I i ρ ω→(∀ ρ' ω',I (i + 1) ρ' ω'→N ρ' ω')→g (.d d) ρ ω fun ρ1 ω1=>tb { nx:=N,ct:=N,bk:=D.nx,rt:=D.rt } ρ1 ω1)
    (hd : ∀ ρ ω,I ds.length ρ ω→D.nx ρ ω) : aForL g tb D (ds.map AV.d) ρ ω :=
  for_ix I h0 (fun i a ρ ω N ha h k=>by
    rw [List.getElem?_map,Option.map_eq_some_iff] at ha
    obtain ⟨d,h1,rfl⟩:=ha
    exact hs i d ρ ω N h1 h k) (fun ρ ω h=>hd ρ ω (by simpa using h))
theorem for_rng {g : AG} {tb : AS} {D : AEnds} {lo : Int} {n : Nat} {ρ : SA} {ω : Om} (I : Nat→SA→Om→Prop) (h0 : I 0 ρ ω)
    (hs : ∀ (i : Nat) (ρ : SA) (ω : Om) (N : SA→Om→Prop),i < n→I i ρ ω→(∀ ρ' ω',I (i + 1) ρ' ω'→N ρ' ω')→g (.d (.int (lo + (i : Nat)))) ρ ω fun ρ1 ω1=>tb { nx:=N,ct:=N,bk:=D.nx,rt:=D.rt } ρ1 ω1)
    (hd : ∀ ρ ω,I n ρ ω→D.nx ρ ω) : aForL g tb D (rngA lo n) ρ ω :=
  for_ix I h0 (fun i a ρ ω N ha h k=>by
    unfold rngA at ha
    rw [List.getElem?_map,Option.map_eq_some_iff] at ha
    obtain ⟨j,h1,rfl⟩:=ha
    obtain ⟨hj,rfl⟩:=List.getElem?_eq_some_iff.mp h1
    simp only [List.getElem_range,List.length_range] at hj ⊢
    exact hs i ρ ω N hj h k) (fun ρ ω h=>hd ρ ω (by simpa [rngA] using h))
theorem loop_ix {g : AG} {tc : AT} {l : AL} {as xs : List AV} {ρ : SA} {ω : Om} {K : List AV→SA→Om→Prop} (I : Nat→List AV→SA→Om→Prop) (h0 : I 0 xs ρ ω)
    (hs : ∀ (i : Nat) (a : AV) (xs : List AV) (ρ : SA) (ω : Om) (N : List AV→SA→Om→Prop),as[i]? = some a→I i xs ρ ω→(∀ xs' ρ' ω',I (i + 1) xs' ρ' ω'→N xs' ρ' ω')→g a ρ ω fun ρ1 ω1=>tc ρ1 ω1 fun b ω2=>if b = true then l xs ρ1 ω2 N else N xs ρ1 ω2)
    (hd : ∀ xs ρ ω,I as.length xs ρ ω→K xs ρ ω) : aLoop g tc l as xs ρ ω K:=by
  have key : ∀ (n i : Nat) (xs : List AV) (ρ : SA) (ω : Om),i + n = as.length→I i xs ρ ω→aLoop g tc l (as.drop i) xs ρ ω K:=by
    intro n
    induction n with
    | zero=>intro i xs ρ ω hi h;rw [List.drop_eq_nil_of_le (by omega)];exact hd xs ρ ω (by rw [← hi];exact h)
    | succ n ih =>
      intro i xs ρ ω hi h
      obtain ⟨a,ha,hdr⟩:=drop_cons (as:=as) (i:=i) (by omega)
      rw [hdr]
      exact hs i a xs ρ ω (fun xs' ρ' ω'=>aLoop g tc l (as.drop (i + 1)) xs' ρ' ω' K) ha h fun xs' ρ' ω' h'=>ih (i + 1) xs' ρ' ω' (by omega) h'
  simpa using key as.length 0 xs ρ ω (by omega) h0
theorem loop_D {g : AG} {tc : AT} {l : AL} {ds : List D} {xs : List AV} {ρ : SA} {ω : Om} {K : List AV→SA→Om→Prop} (I : Nat→List AV→SA→Om→Prop) (h0 : I 0 xs ρ ω)
    (hs : ∀ (i : Nat) (d : D) (xs : List AV) (ρ : SA) (ω : Om) (N : List AV→SA→Om→Prop),ds[i]? = some d→I i xs ρ ω→(∀ xs' ρ' ω',I (i + 1) xs' ρ' ω'→N xs' ρ' ω')→g (.d d) ρ ω fun ρ1 ω1=>tc ρ1 ω1 fun b ω2=>if b = true then l xs ρ1 ω2 N else N xs ρ1 ω2)
    (hd : ∀ xs ρ ω,I ds.length xs ρ ω→K xs ρ ω) : aLoop g tc l (ds.map AV.d) xs ρ ω K :=
  loop_ix I h0 (fun i a xs ρ ω N ha h k=>by
    rw [List.getElem?_map,Option.map_eq_some_iff] at ha
    obtain ⟨d,h1,rfl⟩:=ha
    exact hs i d xs ρ ω N h1 h k) (fun xs ρ ω h=>hd xs ρ ω (by simpa using h))
theorem comp_fm {tc : AT} {te : AE} {ds : List D} {v0 : Option AV} {rest : SA} {ω : Om} {K : List AV→SA→Om→Prop} (p : D→Bool) (f : D→D)
    (ht : ∀ d∈ds,∀ Q : Bool→Om→Prop,Q (p d) ω→tc (some (.d d) :: rest) ω Q) (he : ∀ d∈ds,p d = true→∀ Q : AV→Om→Prop,Q (.d (f d)) ω→te (some (.d d) :: rest) ω Q) (hz : ds.length≤sizeLine)
    (hk : ∀ ρ,K (((ds.filter p).map f).map AV.d) ρ ω) : aLoop (agName 0) tc (aLast te) (ds.map AV.d) [] (v0 :: rest) ω K:=by
  refine loop_D (fun i xs ρ ω'=>ω' = ω∧(∃ v,ρ = v :: rest)∧xs = (((ds.take i).filter p).map f).map AV.d) ⟨rfl,⟨_,rfl⟩,rfl⟩ ?_ ?_
  · rintro i d xs ρ ω' N hd ⟨rfl,⟨v,rfl⟩,rfl⟩ kN
    have hi:=(List.getElem?_eq_some_iff.mp hd).1
    have hm:=List.mem_of_getElem? hd
    have et : ds.take (i + 1) = ds.take i ++ [d]:=by rw [List.take_succ,hd];rfl
    rw [agName_eq,List.set_cons_zero]
    refine ht d hm _ ?_
    cases hp : p d with
    | true =>
      rw [if_pos rfl,aLast_eq]
      refine he d hm hp _ ⟨?_,kN _ _ _ ⟨rfl,⟨_,rfl⟩,?_⟩⟩
      · rw [List.length_map,List.length_map]
        have:=List.length_filter_le p (ds.take i)
        rw [List.length_take] at this
        omega
      · rw [et,List.filter_append]
        simp [hp]
    | false =>
      rw [if_neg Bool.false_ne_true]
      refine kN _ _ _ ⟨rfl,⟨_,rfl⟩,?_⟩
      rw [et,List.filter_append]
      simp [hp]
  · rintro xs ρ ω' ⟨rfl,_,rfl⟩
    rw [List.take_length]
    exact hk ρ
structure Pn where
  f : Int
  x : Int
  i : Int
  h : 0≤f
section
variable {α : Type} (a b c e : α) (l : List α)
theorem atI_of {xs : List α} {x : α} (j : Nat) {i : Int} (hi : i = (j : Int)) (h : xs[j]? = some x) : atI xs i = some x:=by
  subst hi
  have hj:=(List.getElem?_eq_some_iff.mp h).1
  unfold atI ixN
  rw [if_pos (by omega),if_pos (by omega)]
  simpa using h
theorem atI_0 : atI (a :: l) 0 = some a:=atI_of 0 rfl rfl
theorem atI_1 : atI (a :: b :: l) 1 = some b:=atI_of 1 rfl rfl
theorem atI_2 : atI (a :: b :: c :: l) 2 = some c:=atI_of 2 rfl rfl
theorem atI_3 : atI (a :: b :: c :: e :: l) 3 = some e:=atI_of 3 rfl rfl
end
theorem sz1 : (1≤sizeLine) = True:=eq_true (by decide)
theorem sz2 : (2≤sizeLine) = True:=eq_true (by decide)
theorem sz3 : (3≤sizeLine) = True:=eq_true (by decide)
theorem sz4 : (4≤sizeLine) = True:=eq_true (by decide)
theorem eqD_int (a b : Int) : eqD (.int a) (.int b) = (a == b):=by simp [eqD]
theorem eqD_str (a b : Str) : eqD (.str a) (.str b) = (a == b):=by simp [eqD]
theorem eqD_bl (a b : Bool) : eqD (.bl a) (.bl b) = (a == b):=by simp [eqD]
theorem eqD_nn : eqD .non .non = true:=by simp [eqD]
theorem eqD_tn (a : List D) : eqD (.tup a) .non = false:=by simp [eqD]
theorem dep_int (a : Int) : dep (.int a) = 0:=by simp [dep]
theorem dep_str (a : Str) : dep (.str a) = 0:=by simp [dep]
theorem dep_bl (a : Bool) : dep (.bl a) = 0:=by simp [dep]
theorem intD_bl (a : Bool) : intD (.bl a) = some (if a then 1 else 0):=rfl
theorem le_dec {n m : Nat} (h : n≤1000) : n≤sizeLine:=Nat.le_trans h (by decide)
theorem lt_dec {n m : Nat} (h : n≤1000) : n < sizeLine:=Nat.lt_of_le_of_lt h (by decide)
def Om.only (ω' ω : Om) : Om:=fun b=>if (ω b).isSome = true then ω' b else none
def Ex (ω ω' : Om) : Prop:=∀ b,(ω b).isSome = true→ω' b = ω b
theorem Ex.refl (ω : Om) : Ex ω ω:=fun _ _=>rfl
theorem Ex.none {ω ω' : Om} (h : Ex ω ω') {l : Addr} (e : ω' l = none) : ω l = none:=by
  cases z : ω l with
  | none=>rfl
  | some c=>have:=h l (by rw [z];rfl);rw [e,z] at this;cases this
theorem Ex.new {ω ω' : Om} (h : Ex ω ω') {l : Addr} {c : OC} (e : ω' l = Option.none) : Ex ω (ω'.put l c):=fun b hb=>by
  have : b≠l:=fun z=>by subst z;rw [h.none e] at hb;cases hb
  rw [Om.put_ne this];exact h b hb
theorem Ex.over {ω ω' : Om} (h : Ex ω ω') {l : Addr} {c : OC} (e : ω l = Option.none) : Ex ω (ω'.put l c):=fun b hb=>by
  have : b≠l:=fun z=>by subst z;rw [e] at hb;cases hb
  rw [Om.put_ne this];exact h b hb
theorem only_self (ω : Om) : ω.only ω = ω:=by
  funext b;unfold Om.only
  cases e : ω b<;>simp
theorem only_ex {ω ω' : Om} (h : Ex ω ω') : ω'.only ω = ω:=by
  funext b;unfold Om.only
  cases e : ω b with
  | none=>simp
  | some c=>simp only [Option.isSome_some,if_true];rw [h b (by rw [e];rfl),e]
theorem only_put {ω ω' : Om} {p : Addr} {c : OC} (h : Ex (ω.put p c) ω') (hp : (ω p).isSome = true) : ω'.only ω = ω.put p c:=by
  funext b;unfold Om.only
  by_cases hb : b = p
  · subst hb;rw [if_pos hp,h b (by rw [Om.put_same];rfl)]
  · rw [Om.put_ne hb]
    cases e : ω b with
    | none=>simp
    | some o=>simp only [Option.isSome_some,if_true];rw [h b (by rw [Om.put_ne hb,e];rfl),Om.put_ne hb,e]
theorem Rep.only {F : Fs} {H : Hp} {ω ω' : Om} (rp : Rep F H ω') : Rep F H (ω'.only ω)∧Same (cut F H ω') (cut F H (ω'.only ω)):=by
  have ho : ∀ b,ow (ω' b) = false→ow ((ω'.only ω) b) = false:=fun b h=>by
    unfold Om.only
    split
    · exact h
    · rfl
  have sm : Same (cut F H ω') (cut F H (ω'.only ω)):=fun b o e=>by
    obtain ⟨h,f,e⟩:=cut_some.mp e
    exact cut_some.mpr ⟨ho b h,f,e⟩
  have un : ∀ b c,(ω'.only ω) b = some c→ω' b = some c:=fun b c e=>by
    unfold Om.only at e
    split at e
    · exact e
    · cases e
  refine ⟨⟨fun l xs e=>?_,fun l ds e=>(rp.frz l ds (un _ _ e)).same sm,fun b f=>?_,fun l ks e=>(by obtain ⟨vs,e1,e2⟩:=rp.dic l ks (un _ _ e);exact ⟨vs,e1,e2.same sm⟩)⟩,sm⟩
  · obtain ⟨vs,e1,e2⟩:=rp.own l xs (un _ _ e)
    exact ⟨vs,e1,e2.same sm⟩
  · obtain ⟨h1,h2⟩:=rp.hid b f
    refine ⟨?_,h2⟩
    unfold Om.only
    rw [h1];simp
theorem Fr.only {F : Fs} {H H' : Hp} {ω ω' : Om} (fr : Fr F H ω H' ω') : Fr F H ω H' (ω'.only ω):=⟨fun b o h f e=>by
  obtain ⟨x,y⟩:=fr.st b o h f e
  refine ⟨x,?_⟩
  unfold Om.only
  split
  · exact y
  · rfl,fr.hd⟩
theorem Fun.okD {P : Program} {w : World} {K : PySem.W.Frag} {mg : Str→Option Value} {base : Heap} {x qual : Str} {st : Stmt} {f : Addr} {fd : FuncData} {N ps : List Str} {k : Nat} {sp : ASp} (F : Fun K x qual st f fd) (S : FnScope N ps (defScope st)) (len : ∀ xs ω Q,sp xs ω Q→xs.length = ps.length)
    (hbody : ∀ (cdv : Value) (A : Around) (outer : List Env) (s : Shared) (H : Hp) (E : XK),Room k (A.deeper (envOfC qual (defScope st) s.heap.objs.size f cdv)) →
      ∃ t t',PSs (cxOf CX0 P w K mg base N qual (defScope st) f cdv A outer s H E).nox (defBody st) t∧RefS t t'∧∀ xs ω Q',sp xs ω Q'→t' { nx:=fun _ ω'=>Q' (.d .non) (ω'.only ω),rt:=fun a ω'=>∃ d,a = .d d∧Q' (.d d) (ω'.only ω) } (startA N xs) ω) : FnOk P w K mg base CX0 (k + 1) f fd ps (lift sp):=by
  refine F.ok S (fun vs H Q E h=>?_) (fun cdv A outer s H vs Q E hr h=>?_)
  · obtain ⟨F,xs,ω,Q',rp,rv,h,_⟩:=h
    rw [rv.length,len xs ω Q' h]
  · obtain ⟨t,t',h1,h2,h3⟩:=hbody cdv A outer s H E hr
    obtain ⟨F,xs,ω,Q',rp,rv,h,kq⟩:=h
    refine ⟨t,h1,h2.run F H ω _ _ _ _ rp (RS.start rv) (h3 xs ω Q' h) ⟨?_,?_,fun _ _ _ _ _ _ _ z=>z.elim,fun _ _ _ _ _ _ _ z=>z.elim⟩⟩
    · exact fun ρ' ω' σ' H' e1 e2 e3 q=>kq (.d .non) (ω'.only ω) .non H' e1.only.1 e2.only (by simp [RV,Dat]) q
    · rintro a ω' v H' e1 e2 e3 ⟨d,rfl,q⟩
      exact kq (.d d) (ω'.only ω) v H' e1.only.1 e2.only (e3.same e1.only.2) q
def wl : Nat→List (List Int)
  | 0=>[[]]
  | n + 1=>(wl n).flatMap fun w=>[w ++ [0],w ++ [1]]
theorem wl_len : ∀ n,(wl n).length = 2 ^ n
  | 0=>rfl
  | n + 1=>by
    have h : ∀ ws : List (List Int),(ws.flatMap fun w=>[w ++ [0],w ++ [1]]).length = 2 * ws.length:=fun ws=>by
      induction ws with
      | nil=>rfl
      | cons a r ih=>rw [List.flatMap_cons,List.length_append,ih];simp;omega
    rw [wl,h,wl_len n,Nat.pow_succ];omega
theorem wl_mem : ∀ {n : Nat} {w : List Int},w∈wl n→w.length = n∧∀ x∈w,x = 0∨x = 1
  | 0,w,h=>by simp [wl] at h;rw [h];simp
  | n + 1,w,h=>by
    simp only [wl,List.mem_flatMap] at h
    obtain ⟨v,hv,h⟩:=h
    obtain ⟨h1,h2⟩:=wl_mem hv
    simp only [List.mem_cons,List.not_mem_nil,or_false] at h
    rcases h with rfl | rfl<;>refine ⟨by simp [h1],fun x hx=>?_⟩<;>rcases List.mem_append.mp hx with hx | hx
    · exact h2 x hx
    · rw [List.mem_singleton.mp hx];exact .inl rfl
    · exact h2 x hx
    · rw [List.mem_singleton.mp hx];exact .inr rfl
theorem wl_le {n : Nat} (h : n≤5) : (wl n).length≤32:=by
  rw [wl_len]
  exact Nat.pow_le_pow_right (by decide) h
theorem wl_pos (n : Nat) : 1≤(wl n).length:=by
  rw [wl_len]
  exact Nat.one_le_two_pow
theorem wl_two {n : Nat} (h : 1≤n) : 2≤(wl n).length:=by
  rw [wl_len]
  exact Nat.pow_le_pow_right (n:=2) (by decide) h
theorem wl_nd0 : ∀ n : Fin 6,(wl n.val).Nodup:=by decide +kernel
theorem wl_nd {n : Nat} (h : n≤5) : (wl n).Nodup:=wl_nd0 ⟨n,by omega⟩
def Wds (n : Nat) (ws : List (List Int)) : Prop:=ws.Nodup∧∀ w∈ws,w∈wl n
theorem Wds.le {n : Nat} {ws : List (List Int)} (h : Wds n ws) (hn : n≤5) : ws.length≤32:=by
  have:=h.1.length_le_of_subset (l₂:=wl n) (fun w hw=>h.2 w hw)
  have:=wl_le hn
  omega
theorem Wds.sub {n : Nat} {ws : List (List Int)} (h : ws.Sublist (wl n)) (hn : n≤5) : Wds n ws:=⟨h.nodup (wl_nd hn),fun w hw=>h.mem hw⟩
theorem Wds.perm {n : Nat} {ws vs : List (List Int)} (h : Wds n ws) (p : vs.Perm ws) : Wds n vs:=⟨(p.nodup_iff).mpr h.1,fun w hw=>h.2 w (p.mem_iff.mp hw)⟩
theorem eqDs_ints : ∀ a b : List Int,eqDs (a.map D.int) (b.map D.int) = decide (a = b)
  | [],[]=>by simp [eqDs]
  | [],_ :: _=>by simp [eqDs]
  | _ :: _,[]=>by simp [eqDs]
  | x :: a,y :: b=>by
    simp only [List.map_cons,eqDs,eqD,eqDs_ints a b,List.cons.injEq]
    by_cases h1 : x = y<;>by_cases h2 : a = b<;>simp [h1,h2]
theorem eqD_wd (a b : List Int) : eqD (wdD a) (wdD b) = decide (a = b):=by simp only [wdD,eqD];exact eqDs_ints a b
theorem dep_wd (w : List Int) : dep (wdD w) = 1:=by simp [wdD,dep,deps_ints]
theorem deps_wds (ws : List (List Int)) : deps (ws.map wdD)≤1:=deps_le fun d hd=>by
  obtain ⟨w,_,rfl⟩:=List.mem_map.mp hd
  rw [dep_wd]
  exact Nat.le_refl _
theorem inD_wd (a : List Int) (ws : List (List Int)) : inD (wdD a) (ws.map wdD) = decide (a∈ws):=by
  unfold inD
  rw [Bool.eq_iff_iff,List.any_eq_true,decide_eq_true_iff]
  constructor
  · rintro ⟨d,hd,e⟩
    obtain ⟨w,hw,rfl⟩:=List.mem_map.mp hd
    rw [eqD_wd,decide_eq_true_iff] at e
    exact e ▸ hw
  · intro h
    exact ⟨wdD a,List.mem_map.mpr ⟨a,h,rfl⟩,by rw [eqD_wd];simp⟩
theorem map_get {α β : Type} {f : α→β} {xs : List α} {i : Nat} {y : β} (h : (xs.map f)[i]? = some y) : ∃ x,xs[i]? = some x∧y = f x:=by
  rw [List.getElem?_map] at h
  cases e : xs[i]? with
  | none=>rw [e] at h;cases h
  | some x=>rw [e] at h;cases h;exact ⟨x,rfl,rfl⟩
theorem map_nth {α : Type} {f : α→AV} {xs : List α} {i : Int} (h0 : 0≤i) (h1 : i < xs.length) : ∃ x,x∈xs∧xs[i.toNat]? = some x∧atI (xs.map f) i = some (f x):=by
  obtain ⟨j,rfl⟩:=Int.eq_ofNat_of_zero_le h0
  have hj : j < xs.length:=by omega
  exact ⟨xs[j],List.getElem_mem hj,by simp [List.getElem?_eq_getElem hj],atI_of j rfl (by rw [List.getElem?_map,List.getElem?_eq_getElem hj];rfl)⟩
theorem wd_at {w : List Int} {i : Int} (h0 : 0≤i) (h1 : i < w.length) : atI ((w.map D.int).map AV.d) i = some (.d (.int (w.getD i.toNat 0))):=by
  obtain ⟨j,rfl⟩:=Int.eq_ofNat_of_zero_le h0
  have hj : j < w.length:=by omega
  refine atI_of j rfl ?_
  rw [List.getElem?_map,List.getElem?_map,List.getElem?_eq_getElem hj]
  simp [List.getD_eq_getElem?_getD,List.getElem?_eq_getElem hj]
theorem wl_bit {n : Nat} {w : List Int} (h : w∈wl n) (i : Nat) : w.getD i 0 = 0∨w.getD i 0 = 1:=by
  rw [List.getD_eq_getElem?_getD]
  cases e : w[i]? with
  | none=>exact .inl rfl
  | some x=>exact (wl_mem h).2 x (List.mem_of_getElem? e)
theorem tupA_wd (x : List Int) : tupA (.d (wdD x)) = some ((x.map D.int).map AV.d):=rfl
theorem lstA_wd (ω : Om) (x : List Int) : lstA ω (.d (wdD x)) = none:=rfl
inductive Sy where
  | is (i b : Int)
  | jn (an : Bool) (l r : Sy)
namespace Sy
def d : Sy→D
  | .is i b=>.tup [.str "is",.int i,.int b]
  | .jn an l r=>.tup [.str (if an then "and" else "or"),l.d,r.d]
def ok (n : Nat) : Sy→Prop
  | .is i b=>0≤i∧i < n∧(b = 0∨b = 1)
  | .jn _ l r=>l.ok n∧r.ok n
def dp : Sy→Nat
  | .is _ _=>0
  | .jn _ l r=>1 + max l.dp r.dp
def lvs : Sy→Nat
  | .is _ _=>1
  | .jn _ l r=>l.lvs + r.lvs
def up : Sy→Prop
  | .is _ b=>b = 1
  | .jn _ l r=>l.up∧r.up
def val (w : List Int) : Sy→Bool
  | .is i b=>decide (w.getD i.toNat 0 = b)
  | .jn an l r=>if an then val w l && val w r else val w l || val w r
end Sy
inductive Ta where
  | en (i : Int)
  | nd (y : Bool) (ws : List (List Int)) (l r : Ta)
namespace Ta
def d : Ta→D
  | .en i=>.tup [.str "end",.int i]
  | .nd y ws l r=>.tup [.str (if y then "yes" else "no"),.tup (ws.map wdD),l.d,r.d]
def ok (n : Nat) : Ta→Prop
  | .en i=>0≤i∧i < n
  | .nd _ ws l r=>Wds n ws∧l.ok n∧r.ok n
def dp : Ta→Nat
  | .en _=>0
  | .nd _ _ l r=>1 + max l.dp r.dp
def lvs : Ta→Nat
  | .en _=>1
  | .nd _ _ l r=>l.lvs + r.lvs
def size : Ta→Nat
  | .en _=>1
  | .nd _ _ l r=>l.size + r.size + 1
def bit (y n : List Int) (hy : Bool) (ws : List (List Int)) : Bool:=decide ((if hy then y else n)∈ws)
def way (y n : List Int) : Ta→List Int
  | .en _=>[]
  | .nd h ws a b=>if bit y n h ws then 1 :: way y n b else 0 :: way y n a
def fin (y n : List Int) : Ta→Int
  | .en i=>i
  | .nd h ws a b=>if bit y n h ws then fin y n b else fin y n a
theorem way_len (y n : List Int) : ∀ u : Ta,(way y n u).length≤u.dp
  | .en _=>by simp [way,dp]
  | .nd h ws a b=>by
    have h1:=way_len y n a
    have h2:=way_len y n b
    simp only [way,dp]
    split<;>simp<;>omega
theorem fin_ok {m : Nat} {y n : List Int} : ∀ {u : Ta},u.ok m→0≤fin y n u∧fin y n u < m
  | .en i,h=>h
  | .nd h ws a b,h'=>by
    obtain ⟨_,ha,hb⟩:=h'
    simp only [fin]
    split
    · exact fin_ok hb
    · exact fin_ok ha
theorem size_lvs : ∀ t : Ta,t.size + 1 = 2 * t.lvs
  | .en x=>rfl
  | .nd y ws l r=>by
    have:=size_lvs l
    have:=size_lvs r
    simp only [size,lvs];omega
end Ta
theorem sne_0_1 : (("end" : Str) = ("yes" : Str)) = False:=eq_false (by decide +kernel)
theorem sne_2_1 : (("no" : Str) = ("yes" : Str)) = False:=eq_false (by decide +kernel)
theorem sne_3_4 : (("is" : Str) = ("and" : Str)) = False:=eq_false (by decide +kernel)
theorem sne_3_5 : (("is" : Str) = ("or" : Str)) = False:=eq_false (by decide +kernel)
theorem sne_5_4 : (("or" : Str) = ("and" : Str)) = False:=eq_false (by decide +kernel)
theorem sne_6_7 : (("any" : Str) = ("rising" : Str)) = False:=eq_false (by decide +kernel)
theorem invA (F : Nat→SA→Om→Prop) : ∃ Pv : Nat→SA→Om→Prop,∀ i ρ ω,Pv i ρ ω↔F i ρ ω:=⟨F,fun _ _ _=>Iff.rfl⟩
def om2 (ω : Om) (p l : Addr) (c A : OC) : Om:=(ω.put p c).put l A
def om3 (ω : Om) (p l1 l2 : Addr) (c A B : OC) : Om:=((ω.put p c).put l1 A).put l2 B
section
variable {ω : Om} {p l l1 l2 : Addr} {c c' A A' B B' : OC}
theorem om2_p (h : p≠l) : om2 ω p l c A p = some c:=by unfold om2;rw [Om.put_ne h,Om.put_same]
theorem om2_l : om2 ω p l c A l = some A:=by unfold om2;rw [Om.put_same]
theorem om2_pp (h : p≠l) : (om2 ω p l c A).put p c' = om2 ω p l c' A:=by unfold om2;rw [Om.put_comm h,Om.put_put]
theorem om2_pl : (om2 ω p l c A).put l A' = om2 ω p l c A':=by unfold om2;rw [Om.put_put]
theorem om3_p (h1 : p≠l1) (h2 : p≠l2) : om3 ω p l1 l2 c A B p = some c:=by unfold om3;rw [Om.put_ne h2,Om.put_ne h1,Om.put_same]
theorem om3_2 : om3 ω p l1 l2 c A B l2 = some B:=by unfold om3;rw [Om.put_same]
theorem om3_pp (h1 : p≠l1) (h2 : p≠l2) : (om3 ω p l1 l2 c A B).put p c' = om3 ω p l1 l2 c' A B:=by unfold om3;rw [Om.put_comm h2,Om.put_comm h1,Om.put_put]
theorem om3_p2 : (om3 ω p l1 l2 c A B).put l2 B' = om3 ω p l1 l2 c A B':=by unfold om3;rw [Om.put_put]
theorem put_free {q : Addr} {o : OC} (h : ω.put p o q = none) : q≠p∧ω q = none:=by
  have : q≠p:=fun z=>by subst z;rw [Om.put_same] at h;cases h
  exact ⟨this,by rwa [Om.put_ne this] at h⟩
end
def om4 (ω : Om) (p l1 l2 l3 : Addr) (c A B C : OC) : Om:=(((ω.put p c).put l1 A).put l2 B).put l3 C
structure Ne4 (p l1 l2 l3 : Addr) : Prop where
  p1 : p≠l1
  p2 : p≠l2
  p3 : p≠l3
  a : l1≠l2
  b : l1≠l3
  c : l2≠l3
section
variable {ω : Om} {p l1 l2 l3 : Addr} {c c' A A' B B' C C' : OC} (h : Ne4 p l1 l2 l3)
include h
theorem om4_p : om4 ω p l1 l2 l3 c A B C p = some c:=by unfold om4;rw [Om.put_ne h.p3,Om.put_ne h.p2,Om.put_ne h.p1,Om.put_same]
theorem om4_1 : om4 ω p l1 l2 l3 c A B C l1 = some A:=by unfold om4;rw [Om.put_ne h.b,Om.put_ne h.a,Om.put_same]
theorem om4_2 : om4 ω p l1 l2 l3 c A B C l2 = some B:=by unfold om4;rw [Om.put_ne h.c,Om.put_same]
theorem om4_3 : om4 ω p l1 l2 l3 c A B C l3 = some C:=by unfold om4;rw [Om.put_same]
theorem om4_pp : (om4 ω p l1 l2 l3 c A B C).put p c' = om4 ω p l1 l2 l3 c' A B C:=by unfold om4;rw [Om.put_comm h.p3,Om.put_comm h.p2,Om.put_comm h.p1,Om.put_put]
theorem om4_p1 : (om4 ω p l1 l2 l3 c A B C).put l1 A' = om4 ω p l1 l2 l3 c A' B C:=by unfold om4;rw [Om.put_comm h.b,Om.put_comm h.a,Om.put_put]
theorem om4_p2 : (om4 ω p l1 l2 l3 c A B C).put l2 B' = om4 ω p l1 l2 l3 c A B' C:=by unfold om4;rw [Om.put_comm h.c,Om.put_put]
theorem om4_p3 : (om4 ω p l1 l2 l3 c A B C).put l3 C' = om4 ω p l1 l2 l3 c A B C':=by unfold om4;rw [Om.put_put]
end
section
variable {P : Program} {w : World} {K : PySem.W.Frag} {mg : Str→Option Value} {base : Heap}
structure Cs (n : Nat) (ys zs : List (List Int)) : Prop where
  y : Wds n ys
  z : Wds n zs
  y1 : ys≠[]
  z1 : zs≠[]
theorem seq_cut {t u : AS} {D : AEnds} {ρ : SA} {ω : Om} (I : SA→Om→Prop) (h1 : ∀ N : SA→Om→Prop,(∀ ρ' ω',I ρ' ω'→N ρ' ω')→t { D with nx:=N } ρ ω) (h2 : ∀ ρ' ω',I ρ' ω'→u D ρ' ω') : aSeq t u D ρ ω:=h1 (u D) h2
theorem datA_own {ω : Om} {l : Addr} {ds : List D} (h : ω l = some (.own (ds.map AV.d))) : datA ω (.r (.ref l)) = some (.lst ds):=by
  rw [datA_r,h];simp only [und_map,Option.map_some]
def noSp : ASp:=fun _ _ _=>False
theorem fn_no {f : Addr} {fd : FuncData} {ps : List Str} {k : Nat} : FnOk P w K mg base CX0 k f fd ps (lift noSp) :=
  ⟨fun _ _ _ _ h=>by obtain ⟨_,_,_,_,_,_,h,_⟩:=h;exact h.elim,fun _ _ _ _ _ _ _ _ _ _ _ _ _ h=>by obtain ⟨_,_,_,_,_,_,h,_⟩:=h;exact h.elim⟩
theorem wds_filter {n : Nat} {ws : List (List Int)} (h : Wds n ws) (q : List Int→Bool) : Wds n (ws.filter q):=⟨h.1.filter _,fun v hv=>h.2 v (List.mem_filter.mp hv).1⟩
theorem atI_lastS {α : Type} {xs : List α} {b : α} : atI (xs ++ [b]) (-1) = some b:=by
  unfold atI ixN
  rw [if_neg (by decide),if_pos (by simp;omega)]
  show (xs ++ [b])[((-1 : Int) + ((xs ++ [b]).length : Nat)).toNat]? = some b
  have : ((-1 : Int) + ((xs ++ [b]).length : Nat)).toNat = xs.length:=by simp;omega
  rw [this];simp
theorem aPop_eq2 (to : AE) (ρ : SA) (ω : Om) (Q : AV→Om→Prop) : aPop to ρ ω Q = (to ρ ω fun x ω1=>∃ l xs y,x = .r (.ref l)∧ω1 l = some (.own xs)∧xs.getLast? = some y∧Q y (ω1.put l (.own xs.dropLast))):=by
  unfold aPop
  simp only [List.getLast?_eq_getElem?]
theorem emp_concat {α : Type} (A : List α) (x : α) : (A ++ [x]).isEmpty = false:=by cases A<;>rfl
theorem last_concat {α : Type} (A : List α) (x : α) : (A ++ [x]).getLast? = some x:=by simp
theorem dropl_concat {α : Type} (A : List α) (x : α) : (A ++ [x]).dropLast = A:=by simp
end
structure RefR (t2 t : TS) (t' : AS) : Prop where
  run : ∀ (F : Fs) (H : Hp) (ω : Om) (σ : St) (ρ : SA) (D : Ends) (D' : AEnds),Rep F H ω→RS (cut F H ω) ρ σ→t' D' ρ ω→LE F H ω D' { D with nx:=t2 D }→t D σ H
section
variable {t t1 t2 u : TS} {t1' u' : AS} {N : SA→Om→Prop} {m : Nat}
end
theorem comp_gix {g : AG} {te : AE} {as : List AV} {rs : List D} {ρ : SA} {ω : Om} {K : List AV→SA→Om→Prop} (R : SA→Prop) (h0 : R ρ) (hl : rs.length = as.length) (hz : as.length≤sizeLine)
    (he : ∀ (i : Nat) (a : AV) (r : D) (ρ : SA) (N : SA→Om→Prop),as[i]? = some a→rs[i]? = some r→R ρ→(∀ ρ1,R ρ1→(∀ Q : AV→Om→Prop,Q (.d r) ω→te ρ1 ω Q)→N ρ1 ω)→g a ρ ω N)
    (hk : ∀ ρ,R ρ→K (rs.map AV.d) ρ ω) : aLoop g aNoTest (aLast te) as [] ρ ω K:=by
  refine loop_ix (fun i xs ρ ω'=>ω' = ω∧R ρ∧xs = (rs.take i).map AV.d) ⟨rfl,h0,rfl⟩ ?_ ?_
  · rintro i a xs ρ ω' N ha ⟨rfl,hR,rfl⟩ kN
    have hi:=(List.getElem?_eq_some_iff.mp ha).1
    have hr : rs[i]? = some rs[i]:=List.getElem?_eq_getElem (by omega)
    refine he i a _ ρ _ ha hr hR fun ρ1 hR1 h=>?_
    rw [aNoTest_eq,if_pos rfl,aLast_eq]
    refine h _ ⟨by rw [List.length_map,List.length_take];omega,kN _ _ _ ⟨rfl,hR1,?_⟩⟩
    rw [show rs.take (i + 1) = rs.take i ++ [rs[i]] from by rw [List.take_succ,hr];rfl,List.map_append]
    rfl
  · rintro xs ρ ω' ⟨rfl,hR,rfl⟩
    rw [← hl,List.take_length]
    exact hk ρ hR
theorem comp_ix {te : AE} {as : List AV} {rs : List D} {v0 : Option AV} {rest : SA} {ω : Om} {K : List AV→SA→Om→Prop} (hl : rs.length = as.length) (hz : as.length≤sizeLine)
    (he : ∀ (i : Nat) (a : AV) (r : D),as[i]? = some a→rs[i]? = some r→∀ Q : AV→Om→Prop,Q (.d r) ω→te (some a :: rest) ω Q)
    (hk : ∀ ρ,K (rs.map AV.d) ρ ω) : aLoop (agName 0) aNoTest (aLast te) as [] (v0 :: rest) ω K :=
  comp_gix (fun ρ=>∃ v,ρ = v :: rest) ⟨_,rfl⟩ hl hz (fun i a r ρ N ha hr ⟨v,e⟩ k=>by
    subst e
    rw [agName_eq,List.set_cons_zero]
    exact k _ ⟨_,rfl⟩ (he i a r ha hr)) (fun ρ _=>hk ρ)
def scrL (K : PySem.W.Frag) (a : Addr) (ns : List Int) : AV:=.p (.ref a) (fun H=>SqL K H a (ns.map V.int))
def aIxS (K : PySem.W.Frag) : A2:=fun x y ω Q=>∃ (a : Addr) (ns : List Int) (i v : Int),x = scrL K a ns∧y = .d (.int i)∧atI ns i = some v∧Q (.d (.int v)) ω
def aLenS (K : PySem.W.Frag) : AC:=fun xs ω Q=>∃ (a : Addr) (ns : List Int),xs = [scrL K a ns]∧Q (.d (.int ns.length)) ω
theorem aIxS_eq (K : PySem.W.Frag) (x y : AV) (ω : Om) (Q : AV→Om→Prop) : aIxS K x y ω Q = (∃ (a : Addr) (ns : List Int) (i v : Int),x = scrL K a ns∧y = .d (.int i)∧atI ns i = some v∧Q (.d (.int v)) ω):=rfl
theorem aLenS_eq (K : PySem.W.Frag) (xs : List AV) (ω : Om) (Q : AV→Om→Prop) : aLenS K xs ω Q = (∃ (a : Addr) (ns : List Int),xs = [scrL K a ns]∧Q (.d (.int ns.length)) ω):=rfl
theorem atI_map {α β : Type} {f : α→β} {xs : List α} {i : Int} {v : α} (h : atI xs i = some v) : atI (xs.map f) i = some (f v):=by
  unfold atI at h ⊢
  rw [List.length_map]
  cases e : ixN xs.length i with
  | none=>rw [e] at h;cases h
  | some j =>
    rw [e] at h
    simp only [Option.bind_some] at h ⊢
    rw [List.getElem?_map,h];rfl
theorem scr_at {F : Fs} {H : Hp} {ω : Om} {K : PySem.W.Frag} {a : Addr} {ns : List Int} {v : V} (r : RV (cut F H ω) (scrL K a ns) v) : v = .ref a∧SqL K H a (ns.map V.int):=by
  obtain ⟨rfl,r⟩:=r
  exact ⟨rfl,r _ cut_same⟩
theorem o_ixS {K : PySem.W.Frag} : Ref2 (rIx K) (aIxS K):=⟨fun F H ω v u x y Q Q' rp h1 h2 ⟨a,ns,i,z,e1,e2,e3,q⟩ k=>by
  subst e1 e2
  obtain ⟨rfl,hs⟩:=scr_at h1
  cases rv_int h2
  exact .inl ⟨a,_,i,_,rfl,rfl,hs,atI_map e3,k.int rp q⟩⟩
theorem c_lenS {K : PySem.W.Frag} : RefC (fun xs H Q=>∃ x n,xs = [x]∧LenV K x H n∧Q (.int n) H) (aLenS K):=⟨fun F H ω vs xs Q Q' rp rv ⟨a,ns,e,q⟩ k=>by
  subst e
  obtain ⟨v,rfl,r⟩:=rvs1 rv
  obtain ⟨rfl,hs⟩:=scr_at r
  exact ⟨_,ns.length,rfl,.inl ⟨_,hs,by simp⟩,k.int rp q⟩⟩
theorem scrL_start {K : PySem.W.Frag} {H : Hp} {a : Addr} {ns : List Int} (h : SqL K H a (ns.map V.int)) : RV (cut (fun _=>false) H (fun _=>none)) (scrL K a ns) (.ref a):=by
  refine ⟨rfl,fun G' s=>?_⟩
  have s2 : Same H G':=fun b o e=>s b o (cut_some.mpr ⟨rfl,rfl,e⟩)
  rcases h with (h | ⟨o,h⟩) | h
  · exact .inl (.inl (s2 _ _ h))
  · exact .inl (.inr ⟨o,s2 _ _ h⟩)
  · exact .inr h
theorem repNone {H : Hp} : Rep (fun _=>false) H (fun _=>none):=⟨fun _ _ h=>by simp at h,fun _ _ h=>by simp at h,fun _ h=>by simp at h,fun _ _ h=>by simp at h⟩
theorem comp_gf {α : Type} {g : AG} {tc : AT} {te : AE} {as : List AV} {xs : List α} {ρ : SA} {ω : Om} {K : List AV→SA→Om→Prop} (R : SA→Prop) (h0 : R ρ) (enc : α→AV) (p : α→Bool) (f : α→D) (ea : as = xs.map enc) (hz : xs.length≤sizeLine)
    (he : ∀ (x : α) (ρ : SA) (N : SA→Om→Prop),x∈xs→R ρ→(∀ ρ1,R ρ1→(∀ Q : Bool→Om→Prop,Q (p x) ω→tc ρ1 ω Q)→(p x = true→∀ Q : AV→Om→Prop,Q (.d (f x)) ω→te ρ1 ω Q)→N ρ1 ω)→g (enc x) ρ ω N)
    (hk : ∀ ρ,R ρ→K (((xs.filter p).map f).map AV.d) ρ ω) : aLoop g tc (aLast te) as [] ρ ω K:=by
  subst ea
  refine loop_ix (fun i ys ρ ω'=>ω' = ω∧R ρ∧ys = (((xs.take i).filter p).map f).map AV.d) ⟨rfl,h0,rfl⟩ ?_ ?_
  · rintro i a ys ρ ω' N ha ⟨rfl,hR,rfl⟩ kN
    rw [List.getElem?_map,Option.map_eq_some_iff] at ha
    obtain ⟨x,hx,rfl⟩:=ha
    have hi:=(List.getElem?_eq_some_iff.mp hx).1
    have et : xs.take (i + 1) = xs.take i ++ [x]:=by rw [List.take_succ,hx];rfl
    refine he x ρ _ (List.mem_of_getElem? hx) hR fun ρ1 hR1 h1 h2=>h1 _ ?_
    cases hp : p x with
    | true =>
      rw [if_pos rfl,aLast_eq]
      refine h2 hp _ ⟨?_,kN _ _ _ ⟨rfl,hR1,?_⟩⟩
      · rw [List.length_map,List.length_map]
        have:=List.length_filter_le p (xs.take i)
        rw [List.length_take] at this
        omega
      · rw [et,List.filter_append]
        simp [hp]
    | false =>
      rw [if_neg Bool.false_ne_true]
      refine kN _ _ _ ⟨rfl,hR1,?_⟩
      rw [et,List.filter_append]
      simp [hp]
  · rintro ys ρ ω' ⟨rfl,hR,rfl⟩
    rw [List.length_map,List.take_length]
    exact hk ρ hR
theorem comp_ft {α : Type} {tc : AT} {te : AE} {xs : List α} {v0 : Option AV} {rest : SA} {ω : Om} {K : List AV→SA→Om→Prop} (enc : α→D) (p : α→Bool) (f : α→D) (hz : xs.length≤sizeLine)
    (ht : ∀ x∈xs,∀ Q : Bool→Om→Prop,Q (p x) ω→tc (some (.d (enc x)) :: rest) ω Q) (he : ∀ x∈xs,p x = true→∀ Q : AV→Om→Prop,Q (.d (f x)) ω→te (some (.d (enc x)) :: rest) ω Q)
    (hk : ∀ ρ,K (((xs.filter p).map f).map AV.d) ρ ω) : aLoop (agName 0) tc (aLast te) ((xs.map enc).map AV.d) [] (v0 :: rest) ω K :=
  comp_gf (fun ρ=>∃ v,ρ = v :: rest) ⟨_,rfl⟩ (fun x=>.d (enc x)) p f (by simp) hz (fun x ρ N hx ⟨v,e⟩ k=>by
    subst e
    rw [agName_eq,List.set_cons_zero]
    exact k _ ⟨_,rfl⟩ (ht x hx) (he x hx)) (fun ρ _=>hk ρ)
structure Pq where
  a : Addr
  ns : List Int
  i : Int
  f : Int
  h0 : 0≤i
  hf : 0≤f
  hn : ns.length≤63
section
variable {prog : Program} {w : World} {A : Around} {E : Value→Shared→Prop} {s : Shared}
end
def dist (ns : List Int) : Nat:=(firstMet (fun i=>ns.getD i 0) ns.length).length
def tLenSet (K : PySem.W.Frag) (ta : TA) : TE:=fun σ H Q=>ta σ H fun vs H1=>∃ (l : Addr) (ns : List Int),vs = [.ref l]∧SqL K H1 l (ns.map V.int)∧ns.length≤1000∧Q (.int (dist ns : Nat)) H1
theorem pe_lenSet {X : Cx} {a : Expr} {ta : TA} {p p2 pos pos2 : Pos} (K : PySem.W.Frag) (hK : X.K = K) (hc : X.calm = true) (hg : Gl X "len") (hm : X.mg "len" = none) (hg2 : Gl X "set") (hm2 : X.mg "set" = none) (ha : PA X [a] ta) (hs : starEach [a] X.env = [(false,eval a X.env)]:=by rfl)
    (hs2 : starEach [.Call (.Name "set" p2) [a] [] pos2] X.env = [(false,eval (.Call (.Name "set" p2) [a] [] pos2) X.env)]:=by rfl) : PE X (.Call (.Name "len" p) [.Call (.Name "set" p2) [a] [] pos2] [] pos) (tLenSet K ta):=.mk <| by
  subst hK
  intro pins s σ H Q I h
  refine wpAny_Call_Name_kw (ld_blt I hg hm PySem.boot_len ?_ (by decide) (by decide))
  refine PyProof.Rows.callWith_builtin1 ?_ hs2 rfl
  rw [hs2]
  show wpAny _ _ (spliced [(false,eval (.Call (.Name "set" p2) [a] [] pos2) X.env)]) _ _ s
  refine Calls.spliced_cons (Call_ (ld_blt I hg2 hm2 PyProof.Rows.boot_set (PyProof.Rows.callWith_type1 (thn (ha pos2 pins s σ H _ I h) fun us s1 ⟨vs,H1,I1,r1,q1⟩=>?_) hs rfl) (by decide) (by decide)))
  obtain ⟨l,ns,e,hq,hn,q⟩:=q1
  subst e
  obtain ⟨u,rfl,rx⟩:=vals1 r1
  cases rx
  obtain ⟨its,rv,pl,hz⟩:=I1.list hq
  have hlen : its.length = ns.length:=by rw [← rv.length,List.length_map]
  refine call_set_list (ns:=ns) (I.ok.hd hc) pl.isList (intsAre_of rv) (by rw [List.size_toArray,hlen];show ns.length + 1 < 4096;omega) fun h' tk hset kk=>Calls.spliced_nil ?_
  obtain ⟨o,es,ep,t,ho,hex,hd,_,_,hb,hf,hsz⟩:=hset
  have I2 : Inv X pins σ H1 { s1 with heap:=h',toks:=tk }:=I1.kept fun b o e=>kk b o (Heap.lt_size e) e
  have hb' : es.size < 4096:=hb
  refine call_len_set (s:={ s1 with heap:=h',toks:=tk }) ho hex hd hf (by omega) ⟨.int (dist ns : Nat),H1,I2.tok _ |>.tok _,⟨tk + 1,?_⟩,q⟩
  rw [hsz,List.size_toArray,hlen]
  rfl
def aLenSet (ta : AA) : AE:=fun ρ ω Q=>ta ρ ω fun xs ω1=>∃ (x : AV) (ns : List Int),xs = [x]∧datA ω1 x = some (.lst (ns.map D.int))∧ns.length≤1000∧Q (.d (.int (dist ns : Nat))) ω1
theorem aLenSet_eq (ta : AA) (ρ : SA) (ω : Om) (Q : AV→Om→Prop) : aLenSet ta ρ ω Q = (ta ρ ω fun xs ω1=>∃ (x : AV) (ns : List Int),xs = [x]∧datA ω1 x = some (.lst (ns.map D.int))∧ns.length≤1000∧Q (.d (.int (dist ns : Nat))) ω1):=rfl
theorem e_lenSet {K : PySem.W.Frag} {ta : TA} {ta' : AA} (h : RefA ta ta') : RefE (tLenSet K ta) (aLenSet ta'):=⟨fun F H ω σ ρ Q Q' rp rs w k=>h.go rp rs w fun xs ω1 vs H1 rp1 fr1 rs1 rv ⟨x,ns,e,hd,hn,q⟩=>by
  subst e
  obtain ⟨v,rfl,r1⟩:=rvs1 rv
  have hD:=dat_of rp1 r1 hd
  simp only [Dat] at hD
  obtain ⟨a,us,rfl,q1,q2⟩:=hD
  cases dats_ints_eq q2
  exact ⟨a,ns,rfl,.inl (.inl q1),hn,(k.fr fr1).int rp1 q⟩⟩
def valA (kvs : List (Str × AV)) (k : Str) : Option AV:=(kvs.find? fun p=>decide (p.1 = k)).map (·.2)
def putA : List (Str × AV)→Str→AV→List (Str × AV)
  | [],k,a=>[(k,a)]
  | p :: r,k,a=>if p.1 = k then (k,a) :: r else p :: putA r k a
def ndK (kvs : List (Str × AV)) : Prop:=(kvs.map (·.1)).Nodup
section
variable {G : Hp} {F : Fs} {H : Hp} {ω : Om}
theorem RKs.length : ∀ {kvs : List (Str × AV)} {ks : List (Key × V)},RKs G kvs ks→ks.length = kvs.length
  | [],_,h=>by cases h;rfl
  | _ :: _,_,⟨v,r,h1,_,h3⟩=>by subst h1;simp [h3.length]
theorem RKs.get {k : Str} {a : AV} : ∀ {kvs : List (Str × AV)} {ks : List (Key × V)},RKs G kvs ks→valA kvs k = some a→∃ v,valV ks (Sum.inr k : Key) = some v∧RV G a v
  | [],_,_,e=>by simp [valA] at e
  | p :: r,_,⟨v,r',h1,h2,h3⟩,e=>by
    subst h1
    by_cases hp : p.1 = k
    · rw [valA,List.find?_cons,decide_eq_true hp] at e
      cases e
      exact ⟨v,valV_pos (by rw [hp]),h2⟩
    · rw [valA,List.find?_cons,decide_eq_false hp] at e
      obtain ⟨u,e1,e2⟩:=h3.get (k:=k) (a:=a) e
      exact ⟨u,by rw [valV_neg (fun z=>hp (Sum.inr.inj z))];exact e1,e2⟩
theorem RKs.any {k : Str} : ∀ {kvs : List (Str × AV)} {ks : List (Key × V)},RKs G kvs ks→(ks.any fun kv=>decide (kv.1 = (Sum.inr k : Key))) = kvs.any fun p=>decide (p.1 = k)
  | [],_,h=>by cases h;rfl
  | p :: r,_,⟨v,r',h1,h2,h3⟩=>by
    subst h1
    rw [List.any_cons,List.any_cons,h3.any]
    congr 1
    by_cases hp : p.1 = k
    · rw [decide_eq_true hp,decide_eq_true (by rw [hp])]
    · rw [decide_eq_false hp,decide_eq_false fun z=>hp (Sum.inr.inj z)]
theorem RKs.keep {k : Str} {v : V} : ∀ {kvs : List (Str × AV)} {ks : List (Key × V)},RKs G kvs ks→(kvs.any fun p=>decide (p.1 = k)) = false→ks.map (fun kv=>if kv.1 = (Sum.inr k : Key) then (kv.1,v) else kv) = ks
  | [],_,h,_=>by cases h;rfl
  | p :: r,_,⟨u,r',h1,h2,h3⟩,e=>by
    subst h1
    rw [List.any_cons,Bool.or_eq_false_iff] at e
    have hp : ¬ p.1 = k:=of_decide_eq_false e.1
    rw [List.map_cons,h3.keep e.2,if_neg fun z=>hp (Sum.inr.inj z)]
theorem RKs.put1 {k : Str} {a : AV} {v : V} (hv : RV G a v) : ∀ {kvs : List (Str × AV)} {ks : List (Key × V)},RKs G kvs ks→ndK kvs→(kvs.any fun p=>decide (p.1 = k)) = true→RKs G (putA kvs k a) (ks.map fun kv=>if kv.1 = (Sum.inr k : Key) then (kv.1,v) else kv)
  | [],_,_,_,e=>by simp at e
  | p :: r,_,⟨u,r',h1,h2,h3⟩,nd,e=>by
    subst h1
    unfold putA
    by_cases hp : p.1 = k
    · rw [if_pos hp,List.map_cons,if_pos (by rw [hp])]
      have hn : (r.any fun p=>decide (p.1 = k)) = false:=by
        rw [List.any_eq_false]
        intro q hq hk
        have hk:=of_decide_eq_true hk
        have:=(List.nodup_cons.mp nd).1
        exact this (List.mem_map.mpr ⟨q,hq,by rw [hk];exact hp.symm⟩)
      rw [h3.keep hn]
      exact ⟨v,r',by rw [hp],hv,h3⟩
    · rw [if_neg hp,List.map_cons,if_neg fun z=>hp (Sum.inr.inj z)]
      rw [List.any_cons,decide_eq_false hp,Bool.false_or] at e
      exact ⟨u,_,rfl,h2,h3.put1 hv (List.nodup_cons.mp nd).2 e⟩
theorem RKs.put {k : Str} {a : AV} {v : V} {kvs : List (Str × AV)} {ks : List (Key × V)} (h : RKs G kvs ks) (hv : RV G a v) (nd : ndK kvs) (e : (kvs.any fun p=>decide (p.1 = k)) = true) : RKs G (putA kvs k a) (putK ks (Sum.inr k : Key) v):=by
  unfold putK
  rw [if_pos (by rw [h.any];exact e)]
  exact h.put1 hv nd e
theorem cut_writeD {l : Addr} {xs ys : List (Str × AV)} {o : HO} (h : ω l = some (.dic xs)) : cut F (upd H l o) (ω.put l (.dic ys)) = cut F H ω:=by
  funext b;unfold cut Om.put
  by_cases hb : b = l
  · subst hb;rw [if_pos rfl,h];simp [ow]
  · rw [if_neg hb,upd_ne hb]
theorem Rep.writeD (R : Rep F H ω) {l : Addr} {xs ys : List (Str × AV)} {vs : List (Key × V)} (h : ω l = some (.dic xs)) (hv : RKs (cut F H ω) ys vs) :
    Rep F (upd H l (.dK vs)) (ω.put l (.dic ys))∧Fr F H ω (upd H l (.dK vs)) (ω.put l (.dic ys)):=by
  have c:=cut_writeD (F:=F) (H:=H) (ys:=ys) (o:=.dK vs) h
  refine ⟨⟨fun k zs e=>?_,fun k ds e=>?_,fun b f=>?_,fun k zs e=>?_⟩,fun b o x f e=>?_,fun b f=>?_⟩
  · have hk : k≠l:=fun z=>(by subst z;rw [Om.put_same] at e;cases e)
    rw [Om.put_ne hk] at e;rw [c,upd_ne hk];exact R.own k zs e
  · have hk : k≠l:=fun z=>(by subst z;rw [Om.put_same] at e;cases e)
    rw [Om.put_ne hk] at e;rw [c];exact R.frz k ds e
  · obtain ⟨x,o,q⟩:=R.hid b f
    have hb : b≠l:=fun z=>(by subst z;rw [h] at x;cases x)
    exact ⟨by rw [Om.put_ne hb];exact x,o,by rw [upd_ne hb];exact q⟩
  · rw [c]
    by_cases hk : k = l
    · subst hk;rw [Om.put_same] at e;cases e;exact ⟨vs,upd_same,hv⟩
    · rw [Om.put_ne hk] at e;rw [upd_ne hk];exact R.dic k zs e
  · have hb : b≠l:=fun z=>(by subst z;rw [h] at x;cases x)
    rw [Om.put_ne hb,upd_ne hb];exact ⟨e,x⟩
  · obtain ⟨x,o,q⟩:=R.hid b f
    have hb : b≠l:=fun z=>(by subst z;rw [h] at x;cases x)
    exact upd_ne hb
theorem Rep.mkD (R : Rep F H ω) {l : Addr} {xs : List (Str × AV)} {vs : List (Key × V)} (h : H l = none) (hv : RKs (cut F H ω) xs vs) :
    Rep F (upd H l (.dK vs)) (ω.put l (.dic xs))∧Fr F H ω (upd H l (.dK vs)) (ω.put l (.dic xs)):=by
  obtain ⟨f1,f2⟩:=R.free h
  have c : cut F (upd H l (.dK vs)) (ω.put l (.dic xs)) = cut F H ω:=by
    funext b;unfold cut Om.put
    by_cases hb : b = l
    · subst hb;rw [if_pos rfl,f1,f2,h];simp [ow]
    · rw [if_neg hb,upd_ne hb]
  refine ⟨⟨fun k zs e=>?_,fun k ds e=>?_,fun b f=>?_,fun k zs e=>?_⟩,fun b o x f e=>?_,fun b f=>?_⟩
  · have hk : k≠l:=fun z=>(by subst z;rw [Om.put_same] at e;cases e)
    rw [Om.put_ne hk] at e;rw [c,upd_ne hk];exact R.own k zs e
  · have hk : k≠l:=fun z=>(by subst z;rw [Om.put_same] at e;cases e)
    rw [Om.put_ne hk] at e;rw [c];exact R.frz k ds e
  · obtain ⟨x,o,q⟩:=R.hid b f
    have hb : b≠l:=ne_of_none q h
    exact ⟨by rw [Om.put_ne hb];exact x,o,by rw [upd_ne hb];exact q⟩
  · rw [c]
    by_cases hk : k = l
    · subst hk;rw [Om.put_same] at e;cases e;exact ⟨vs,upd_same,hv⟩
    · rw [Om.put_ne hk] at e;rw [upd_ne hk];exact R.dic k zs e
  · have hb : b≠l:=ne_of_none e h
    rw [Om.put_ne hb,upd_ne hb];exact ⟨e,x⟩
  · obtain ⟨x,o,q⟩:=R.hid b f
    exact upd_ne (ne_of_none q h)
end
def aDGet (td ty : AE) : AE:=fun ρ ω Q=>td ρ ω fun x ω1=>ty ρ ω1 fun y ω2=>∃ l kvs k a,x = .r (.ref l)∧ω2 l = some (.dic kvs)∧y = .d (.str k)∧valA kvs k = some a∧Q a ω2
theorem aDGet_eq (td ty : AE) (ρ : SA) (ω : Om) (Q : AV→Om→Prop) : aDGet td ty ρ ω Q = (td ρ ω fun x ω1=>ty ρ ω1 fun y ω2=>∃ l kvs k a,x = .r (.ref l)∧ω2 l = some (.dic kvs)∧y = .d (.str k)∧valA kvs k = some a∧Q a ω2):=rfl
theorem e_dget {td ty : TE} {td' ty' : AE} (hd : RefE td td') (hy : RefE ty ty') : RefE (tDGet td ty) (aDGet td' ty'):=⟨fun F H ω σ ρ Q Q' rp rs w k =>
  hd.go rp rs w fun x ω1 v H1 rp1 fr1 rs1 rv1 q1=>hy.go rp1 rs1 q1 fun y ω2 u H2 rp2 fr2 rs2 rv2 ⟨l,kvs,kk,a,e1,e2,e3,e4,q⟩=>by
    subst e1 e3
    cases (show v = .ref l from rv1)
    cases rv_str rv2
    obtain ⟨ks,z1,z2⟩:=rp2.dic l kvs e2
    obtain ⟨vv,y1,y2⟩:=z2.get e4
    have g:=DGet.k (k:=(Sum.inr kk : Key)) z1
    rw [y1] at g
    exact ⟨l,vv,rfl,g,k a ω2 vv H2 rp2 (fr1.trans fr2) y2 q⟩⟩
def aDPut (td ty tv : AE) : AS:=fun D ρ ω=>tv ρ ω fun v ω1=>td ρ ω1 fun x ω2=>ty ρ ω2 fun y ω3=>∃ l kvs k,x = .r (.ref l)∧ω3 l = some (.dic kvs)∧y = .d (.str k)∧ndK kvs∧(kvs.any fun p=>decide (p.1 = k)) = true∧kvs.length < sizeLine∧D.nx ρ (ω3.put l (.dic (putA kvs k v)))
theorem aDPut_eq (td ty tv : AE) (D : AEnds) (ρ : SA) (ω : Om) : aDPut td ty tv D ρ ω = (tv ρ ω fun v ω1=>td ρ ω1 fun x ω2=>ty ρ ω2 fun y ω3=>∃ l kvs k,x = .r (.ref l)∧ω3 l = some (.dic kvs)∧y = .d (.str k)∧ndK kvs∧(kvs.any fun p=>decide (p.1 = k)) = true∧kvs.length < sizeLine∧D.nx ρ (ω3.put l (.dic (putA kvs k v)))):=rfl
theorem s_dput {td ty tv : TE} {td' ty' tv' : AE} (hd : RefE td td') (hy : RefE ty ty') (hv : RefE tv tv') : RefS (sDPut td ty tv) (aDPut td' ty' tv'):=⟨fun F H ω σ ρ D D' rp rs w k =>
  hv.go rp rs w fun v ω1 vv H1 rp1 fr1 rs1 rv1 q1=>hd.go rp1 rs1 q1 fun x ω2 xv H2 rp2 fr2 rs2 rv2 q2=>hy.go rp2 rs2 q2 fun y ω3 yv H3 rp3 fr3 rs3 rv3 ⟨l,kvs,kk,e1,e2,e3,nd,an,sz,q⟩=>by
    subst e1 e3
    cases (show xv = .ref l from rv2)
    cases rv_str rv3
    obtain ⟨ks,z1,z2⟩:=rp3.dic l kvs e2
    have rv : RV (cut F H3 ω3) v vv:=rv1.same (fr2.trans fr3).same
    obtain ⟨rp4,fr4⟩:=rp3.writeD e2 (z2.put (k:=kk) rv nd an)
    exact ⟨l,_,rfl,DPut.k (k:=(Sum.inr kk : Key)) z1 (by rw [z2.length];exact sz),k.nx ρ _ σ _ rp4 (((fr1.trans fr2).trans fr3).trans fr4) (rs3.same fr4.same) q⟩⟩
def aVals : List AE→SA→Om→(List AV→Om→Prop)→Prop
  | [],_,ω,Q=>Q [] ω
  | t :: r,ρ,ω,Q=>t ρ ω fun x ω1=>aVals r ρ ω1 fun xs ω2=>Q (x :: xs) ω2
theorem aVals_nil (ρ : SA) (ω : Om) (Q : List AV→Om→Prop) : aVals [] ρ ω Q = Q [] ω:=rfl
theorem aVals_cons (t : AE) (r : List AE) (ρ : SA) (ω : Om) (Q : List AV→Om→Prop) : aVals (t :: r) ρ ω Q = (t ρ ω fun x ω1=>aVals r ρ ω1 fun xs ω2=>Q (x :: xs) ω2):=rfl
def aDisp (ks : List Str) (ts : List AE) : AE:=fun ρ ω Q=>ks.Nodup∧ks.length≤15∧∀ p,ω p = none→aVals ts ρ (ω.put p (.dic [])) fun xs ω1=>ω1 p = some (.dic [])∧xs.length = ks.length∧Q (.r (.ref p)) (ω1.put p (.dic (ks.zip xs)))
theorem aDisp_eq (ks : List Str) (ts : List AE) (ρ : SA) (ω : Om) (Q : AV→Om→Prop) : aDisp ks ts ρ ω Q = (ks.Nodup∧ks.length≤15∧∀ p,ω p = none→aVals ts ρ (ω.put p (.dic [])) fun xs ω1=>ω1 p = some (.dic [])∧xs.length = ks.length∧Q (.r (.ref p)) (ω1.put p (.dic (ks.zip xs)))):=rfl
inductive RefPs : List (TE × TE)→List Str→List AE→Prop
  | nil : RefPs [] [] []
  | cons {k : Str} {tv : TE} {tv' : AE} {r : List (TE × TE)} {ks : List Str} {ts : List AE} : RefE tv tv'→RefPs r ks ts→RefPs ((tC (.str k),tv) :: r) (k :: ks) (tv' :: ts)
theorem RefPs.go {trs : List (TE × TE)} {ks : List Str} {ts : List AE} (h : RefPs trs ks ts) : ∀ {F : Fs} {H : Hp} {ω : Om} {σ : St} {ρ : SA} {Q : List (V × V)→Hp→Prop} {Q' : List AV→Om→Prop},Rep F H ω→RS (cut F H ω) ρ σ→aVals ts ρ ω Q' →
    (∀ (xs : List AV) (ω1 : Om) (vs : List V) (H1 : Hp),Rep F H1 ω1→Fr F H ω H1 ω1→RVs (cut F H1 ω1) xs vs→vs.length = ks.length→Q' xs ω1→Q ((ks.zip vs).map fun p=>(V.str p.1,p.2)) H1)→tPairs trs σ H Q:=by
  induction h with
  | nil=>intro F H ω σ ρ Q Q' rp rs w k;exact k [] ω [] H rp .refl rfl rfl w
  | @cons kk tv tv' r ks ts hv hr ih =>
    intro F H ω σ ρ Q Q' rp rs w k
    refine hv.go rp rs w fun x ω1 v H1 rp1 fr1 rs1 rv1 q1=>ih rp1 rs1 q1 fun xs ω2 vs H2 rp2 fr2 rvs hl q2=>?_
    exact k (x :: xs) ω2 (v :: vs) H2 rp2 (fr1.trans fr2) ⟨v,vs,rfl,rv1.same fr2.same,rvs⟩ (by simp [hl]) q2
theorem merge_nd : ∀ {more acc : List (Key × V)},((acc ++ more).map (·.1)).Nodup→mergeK acc more = acc ++ more
  | [],acc,_=>by simp [mergeK]
  | p :: r,acc,h=>by
    have hn : (acc.any fun kv=>decide (kv.1 = p.1)) = false:=by
      rw [List.any_eq_false]
      intro q hq hk
      have hk:=of_decide_eq_true hk
      rw [List.map_append,List.map_cons] at h
      exact (List.nodup_append.mp h).2.2 _ (List.mem_map.mpr ⟨q,hq,rfl⟩) _ (List.mem_cons_self ..) hk
    have hp : putK acc p.1 p.2 = acc ++ [p]:=by unfold putK;rw [if_neg (by rw [hn];decide)]
    show mergeK (putK acc p.1 p.2) r = _
    rw [hp,merge_nd (by simpa using h)]
    simp
theorem rks_zip {G : Hp} : ∀ {ks : List Str} {xs : List AV} {vs : List V},RVs G xs vs→xs.length = ks.length→RKs G (ks.zip xs) ((ks.zip vs).map fun p=>((Sum.inr p.1 : Key),p.2))
  | [],[],_,h,_=>by cases h;rfl
  | [],_ :: _,_,_,e=>by simp at e
  | _ :: _,[],_,_,e=>by simp at e
  | k :: ks,x :: xs,_,⟨v,r,h1,h2,h3⟩,e=>by
    subst h1
    exact ⟨v,_,rfl,h2,rks_zip h3 (by simpa using e)⟩
theorem e_disp {trs : List (TE × TE)} {ks : List Str} {ts : List AE} (h : RefPs trs ks ts) : RefE (tDisp trs) (aDisp ks ts):=⟨fun F H ω σ ρ Q Q' rp rs w k=>by
  obtain ⟨nd,h15,w⟩:=w
  intro p hp
  obtain ⟨rp1,fr1⟩:=rp.mkD (xs:=[]) (vs:=[]) hp rfl
  refine h.go rp1 (rs.same fr1.same) (w p (rp.free hp).1) fun xs ω1 vs H1 rp2 fr2 rvs hl q=>?_
  obtain ⟨e1,e2,q⟩:=q
  obtain ⟨k0,z1,z2⟩:=rp2.dic p [] e1
  cases z2
  have hz:=rks_zip rvs e2
  obtain ⟨rp3,fr3⟩:=rp2.writeD e1 hz
  refine ⟨z1,(ks.zip vs).map fun p=>((Sum.inr p.1 : Key),p.2),by simp [kV,Function.comp_def],by simp;omega,?_⟩
  rw [merge_nd (by
    rw [List.nil_append,List.map_map]
    have : (List.map ((fun x : Key × V=>x.1) ∘ fun p : Str × V=>((Sum.inr p.1 : Key),p.2)) (ks.zip vs)) = ks.map fun k=>(Sum.inr k : Key):=by
      rw [show ((fun x : Key × V=>x.1) ∘ fun p : Str × V=>((Sum.inr p.1 : Key),p.2)) = (fun k=>(Sum.inr k : Key)) ∘ Prod.fst from rfl,← List.map_map,List.map_fst_zip (by omega)]
    rw [this]
    exact List.pairwise_map.mpr (nd.imp fun {a b} hne e=>hne (Sum.inr.inj e))),List.nil_append]
  exact k (.r (.ref p)) _ _ _ rp3 ((fr1.trans fr2).trans fr3) rfl q⟩
def tx (l : List Nat) : Str:=⟨l.toArray⟩
def jn (s : List Nat) : List (List Nat)→List Nat
  | []=>[]
  | [x]=>x
  | x :: y :: r=>x ++ s ++ jn s (y :: r)
inductive PFs (X : Cx) : List Expr→List TE→Prop
  | nil : PFs X [] []
  | cons {e : Expr} {t : TE} {es : List Expr} {ts : List TE} : PE X e t→PFs X es ts→PFs X (e :: es) (t :: ts)
inductive RefFs : List TE→List AE→Prop
  | nil : RefFs [] []
  | cons {t : TE} {t' : AE} {ts : List TE} {ts' : List AE} : RefE t t'→RefFs ts ts'→RefFs (t :: ts) (t' :: ts')
theorem RVs.eraseA {G : Hp} : ∀ {xs : List AV} {us : List V} (j : Nat),RVs G xs us→RVs G (xs.eraseIdx j) (us.eraseIdx j)
  | [],us,j,h=>by cases h;exact rfl
  | x :: xs,us,0,h=>by obtain ⟨v,r,rfl,h1,h2⟩:=h;exact h2
  | x :: xs,us,j + 1,h=>by
    obtain ⟨v,r,rfl,h1,h2⟩:=h
    exact ⟨v,_,rfl,h1,RVs.eraseA j h2⟩
def aPopAt (to : AE) (t : AA) : AE:=fun ρ ω Q=>to ρ ω fun x ω1=>∃ l,x = .r (.ref l)∧(∃ zs,ω1 l = some (.own zs))∧t ρ ω1 fun ys ω2=>∃ (xs : List AV) (j : Nat) (y : AV),ys = [.d (.int j)]∧ω2 l = some (.own xs)∧xs.length≤1000000∧xs[j]? = some y∧Q y (ω2.put l (.own (xs.eraseIdx j)))
theorem aPopAt_eq (to : AE) (t : AA) (ρ : SA) (ω : Om) (Q : AV→Om→Prop) : aPopAt to t ρ ω Q = (to ρ ω fun x ω1=>∃ l,x = .r (.ref l)∧(∃ zs,ω1 l = some (.own zs))∧t ρ ω1 fun ys ω2=>∃ (xs : List AV) (j : Nat) (y : AV),ys = [.d (.int j)]∧ω2 l = some (.own xs)∧xs.length≤1000000∧xs[j]? = some y∧Q y (ω2.put l (.own (xs.eraseIdx j)))):=rfl
section
variable {K : PySem.W.Frag} {to : TE} {to' : AE} {t : TA} {t' : AA}
theorem seqIx_nat {j n : Nat} (h : j < n) : seqIndex? (j : Int) n = some j:=by
  unfold seqIndex?
  simp
  omega
theorem e_popAt (ho : RefE to to') (ht : RefA t t') : RefE (tBM K "list" rPopAt to t) (aPopAt to' t'):=⟨fun F H ω σ ρ Q Q' rp rs w k =>
  ho.go rp rs w fun x ω1 v H1 rp1 fr1 rs1 rv1 ⟨l,e,⟨zs,hz⟩,q1⟩=>by
    subst e
    cases (show v = .ref l from rv1)
    obtain ⟨us,z1,_⟩:=rp1.own l zs hz
    refine ⟨.inl ⟨rfl,us,.inl (.inl z1)⟩,ht.go rp1 rs1 q1 fun ys ω2 vs H2 rp2 fr2 rs2 rv2 ⟨xs,j,y,e1,e2,e3,e4,q⟩=>?_⟩
    subst e1
    obtain ⟨u,rfl,r⟩:=rvs1 rv2
    cases rv_int r
    obtain ⟨ws,z3,z4⟩:=rp2.own l xs e2
    obtain ⟨u2,g1,g2⟩:=z4.get e4
    have hj:=(List.getElem?_eq_some_iff.mp g1).1
    have hl:=z4.length
    obtain ⟨rp3,fr3⟩:=rp2.write (ys:=xs.eraseIdx j) (vs:=ws.eraseIdx j) e2 (z4.eraseA j)
    exact ⟨l,ws,j,j,u2,rfl,rfl,z3,by omega,by omega,seqIx_nat hj,g1,k _ _ _ _ rp3 ((fr1.trans fr2).trans fr3) (g2.same fr3.same) q⟩⟩
end
end L2
namespace L2
open PySem PySem.Spec PyProof.Rows PySem.W
def CXx (P : Program) (w : World) : CXT:=fun outer H s E e s'=>∃ (a C t : Addr) (H' : Hp) (B : Heap),e = .ref a∧s'.os = s.os∧AllBare s'.gens∧Un (frs outer) [] H H' s.heap s'.heap∧HOk P w H' B ∧
  Heap.FlyingW B outer a (.ref C) (.ref t) s'.heap∧(∀ b o,s.heap.get? b = some o→H b = none→b ∉ frs outer→B.get? b = some o)∧(∀ b o,s.heap.get? b = some o→b ∉ frs outer→∃ o',B.get? b = some o')∧E (.ref a) (some C) H'
theorem get_of_objOk {P : Program} {w : World} {H : Hp} {h : Heap} {a : Addr} {o : HO} (x : ObjOk P w H h a o) : ∃ u,h.get? a = some u:=by
  cases o with
  | lst xs=>obtain ⟨_,_,_,_,e⟩:=x;exact ⟨_,e⟩
  | tup xs=>obtain ⟨_,_,_,⟨_,e,_⟩,_⟩:=x;exact ⟨_,e⟩
  | dK kvs=>obtain ⟨_,_,_,_,o,_,_,e,_⟩:=x;exact ⟨_,e⟩
  | dT kvs=>obtain ⟨_,_,_,_,o,_,_,e,_⟩:=x;exact ⟨_,e⟩
  | set S n=>obtain ⟨o,_,_,_,e,_⟩:=x;exact ⟨_,e⟩
  | ins C dx fs=>obtain ⟨_,_,_,e,_⟩:=x;exact ⟨_,e⟩
  | own y=>obtain ⟨_,e⟩:=x;exact ⟨_,e⟩
  | xd fs=>obtain ⟨_,⟨_,_,_,e,_⟩,_⟩:=x;exact ⟨_,e⟩
  | rng lo hi=>obtain ⟨_,_,_,e⟩:=x;exact ⟨_,e⟩
  | frz ob u=>obtain ⟨e,_⟩:=x;exact ⟨_,e⟩
  | tbl ps=>obtain ⟨qs,e,_⟩:=x;exact ⟨_,e⟩
  | met f y=>exact ⟨_,show h.get? a = some _ from x⟩
  | ext φ=>obtain ⟨_,⟨_,e⟩,_⟩:=x;exact ⟨_,e⟩
section
variable {P : Program} {w : World} {K : PySem.W.Frag} {mg : Str→Option Value} {base : Heap} {N : List Str} {qual : Str} {scope : Scope} {f : Addr} {cd : Value} {A : Around} {outer : List Env} {s₀ : Shared} {H₀ : Hp} {E : XK}
theorem raise_leaves {pins : List (Addr × Obj)} {σ : St} {H : Hp} {s1 : Shared} {h' : Heap} {e C : Addr} {vs : List Value} (I : Inv (cxOf (CXx P w) P w K mg base N qual scope f cd A outer s₀ H₀ E) pins σ H s1) (hx : Heap.MadeExcOf s1.heap h' e (.ref C) vs) (hE : E (.ref e) (some C) H) :
    (cxOf (CXx P w) P w K mg base N qual scope f cd A outer s₀ H₀ E).xe (.ref e) { s1 with heap:=h' }:=by
  have hfr:=I.ok.frames
  have hst : s1.heap.FunFrames base (envOfC qual scope s₀.heap.objs.size f cd :: outer):=I.stack
  have hin : ∀ env∈(envOfC qual scope s₀.heap.objs.size f cd :: outer),∀ b,env.frame = some b→b∈frs (envOfC qual scope s₀.heap.objs.size f cd :: outer):=fun env he b hb=>List.mem_filterMap.mpr ⟨env,he,hb⟩
  have hfs : ∀ b,b∈frs (envOfC qual scope s₀.heap.objs.size f cd :: outer)→b = s₀.heap.objs.size∨b∈frs outer:=fun b hb=>by
    obtain ⟨env,he,hf⟩:=List.mem_filterMap.mp hb
    rcases List.mem_cons.mp he with rfl | he
    · exact .inl (Option.some.inj hf).symm
    · exact .inr (List.mem_filterMap.mpr ⟨env,he,hf⟩)
  have hB : ∀ b o,s1.heap.get? b = some o→b≠s₀.heap.objs.size→b ∉ frs outer→(hideAll s1.heap (frs (envOfC qual scope s₀.heap.objs.size f cd :: outer))).get? b = some o:=fun b o hb h1 h2=>hideAll_get _ hb fun hm=>(hfs b hm).elim h1 h2
  have lt0 : ∀ b o,s₀.heap.get? b = some o→b≠s₀.heap.objs.size:=fun b o hb=>Nat.ne_of_lt (Heap.lt_size hb)
  have nex : ∀ b : Addr,b ∉ (cxOf (CXx P w) P w K mg base N qual scope f cd A outer s₀ H₀ E).ex:=fun b z=>absurd (show b∈([] : List Addr) from z) (by simp)
  refine wpAny_leaves_madeW (base:=hideAll s1.heap (frs (envOfC qual scope s₀.heap.objs.size f cd :: outer))) hfr rfl (fun b o q=>of_hideAll _ q) (funFrames_hide hst hin) hx fun h'' t x1 x2 x3 x4=>?_
  have stay:=x1.1
  have keep : ∀ b o,s₀.heap.get? b = some o→H₀ b = none→b ∉ frs outer→(hideAll s1.heap (frs (envOfC qual scope s₀.heap.objs.size f cd :: outer))).get? b = some o:=fun b o hb hn ho=>hB b o (I.base.keep b o hb hn ho (nex b)) (lt0 b o hb) ho
  have there : ∀ b o,s₀.heap.get? b = some o→b ∉ frs outer→∃ o',(hideAll s1.heap (frs (envOfC qual scope s₀.heap.objs.size f cd :: outer))).get? b = some o':=fun b o hb ho=>by
    obtain ⟨o',q⟩:=I.base.there b o hb (nex b)
    exact ⟨o',hB b o' q (lt0 b o hb) ho⟩
  have slot : ∀ b o,s₀.heap.get? b = some o→H₀ b = none→b∈frs outer→∃ sl,h''.get? b = some { o with slots:=sl }:=fun b o hb hn ho=>by
    obtain ⟨sl,q⟩:=I.base.slot b o hb hn ho (nex b)
    obtain ⟨_,o2,q2,nf⟩:=hst.mem (b:=b) (by
      obtain ⟨env,he,hf⟩:=List.mem_filterMap.mp ho
      exact List.mem_filterMap.mpr ⟨env,List.mem_cons_of_mem _ he,hf⟩)
    rw [q] at q2
    cases q2
    obtain ⟨sl2,q3⟩:=x4 b _ (hx.keeps b _ q) nf
    exact ⟨sl2,q3⟩
  refine ⟨e,C,t,H,_,rfl,I.os,I.bare,⟨fun b o hb hn ho _=>stay b o (keep b o hb hn ho),fun b o hb hn ho _=>slot b o hb hn ho,fun b o hb hn _=>I.base.free b o hb hn (nex b),fun b o hb _=>?_,I.base.tups,I.base.frzs,I.base.tbls⟩,?_,x1,keep,there,hE⟩
  · by_cases ho : b∈frs outer
    · by_cases hn : H₀ b = none
      · obtain ⟨sl,q⟩:=slot b o hb hn ho
        exact ⟨_,q⟩
      · exact absurd (I.ok.frf b ho) hn
    · obtain ⟨o',q⟩:=there b o hb ho
      exact ⟨o',stay b o' q⟩
  · intro a o ha
    have nf : ∀ b u,H b = some u→b ∉ frs (envOfC qual scope s₀.heap.objs.size f cd :: outer):=fun b u hu hm=>by
      have:=I.stkFree b hm
      rw [hu] at this;cases this
    refine (I.hok a o ha).stay (fun b u hb q=>hideAll_get _ q ?_) (fun _ q=>q) (fun _ _ q=>q) fun _ _ _ q=>q
    rcases hb with rfl | hb
    · exact nf _ _ ha
    · exact nf _ _ hb
end
abbrev vErr : List Value:=[.type "ValueError",.type "Exception",.type "BaseException",.type "object"]
theorem own_cls {K : PySem.W.Frag} {h : Heap} {mg : Str→Option Value} {x : Str} {C : Addr} (X : K.In h) (b : mg x = some (.ref C)) (z : excIn K C vErr "ValueError.__new__" = true) : OwnCls x C vErr "ValueError.__new__" mg h:=by
  unfold excIn at z
  split at z
  case h_2=>cases z
  case h_1 dd cd sl lk =>
    split at z
    case h_2=>cases z
    case h_1 C1 bm k0 k1 k2 k3 n k5 em es =>
      simp only [Bool.and_eq_true,beq_iff_eq,Bool.not_eq_true'] at z
      obtain ⟨⟨⟨⟨⟨e1,e2⟩,nodel⟩,tl⟩,nsok⟩,noinit⟩:=z
      subst e1 e2
      obtain ⟨nm,bs,mro,ns,qn,hd,sn,sub,ab,col,del⟩:=cd
      dsimp only at em nodel nsok noinit
      subst em nodel
      obtain ⟨l⟩:=sl
      simp only at es
      subst es
      exact ⟨b,bm,ns,nm,qn,bs,hd,sn,sub,ab,col,dd,k0,k1,k2,k3,k5,_,X _ _ lk,.of_isNs (isNs_of_in X nsok),nsMap_none_of_in X nsok noinit,tail_of_in X tl⟩
def tRaise (C : Addr) (E : XK) (t : TA) : TS:=fun _ σ H=>t σ H fun vs H1=>vs.length≤1000∧∀ e,E (.ref e) (some C) H1
section
variable {P : Program} {w : World} {K : PySem.W.Frag} {mg : Str→Option Value} {base : Heap} {N : List Str} {qual : Str} {scope : Scope} {f : Addr} {cd : Value} {A : Around} {outer : List Env} {s₀ : Shared} {H₀ : Hp} {E : XK}
theorem ps_raise {x : Str} {C : Addr} {e0 : Expr} {es : List Expr} {t : TA} {np cpos pos : Pos} (hr : (A.deeper (envOfC qual scope s₀.heap.objs.size f cd)).handled = none) (hg : Gl (cxOf (CXx P w) P w K mg base N qual scope f cd A outer s₀ H₀ E) x) (hm : mg x = some (.ref C)) (hC : excIn K C vErr "ValueError.__new__" = true)
    (ha : PA (cxOf (CXx P w) P w K mg base N qual scope f cd A outer s₀ H₀ E).nox (e0 :: es) t) (hdb : (x == ("__debug__" : Str)) = false:=by decide)
    (he : starEach (e0 :: es) (envOfC qual scope s₀.heap.objs.size f cd) = (false,eval e0 (envOfC qual scope s₀.heap.objs.size f cd)) :: starEach es (envOfC qual scope s₀.heap.objs.size f cd):=by rfl) (hpl : (backTo cpos (starEach es (envOfC qual scope s₀.heap.objs.size f cd))).any (·.1) = false:=by rfl) :
    PS (cxOf (CXx P w) P w K mg base N qual scope f cd A outer s₀ H₀ E) (.Raise (some (.Call (.Name x np) (e0 :: es) [] cpos)) none pos) (tRaise C E t):=.mk <| by
  intro pins s σ H D I h
  obtain ⟨tl,NN,nm,q,bs,hdct,sn,sub,ab,col,dd,k0,k1,k2,k3,k5,mN,hCo,hN,hni,T⟩:=(own_cls (mg:=mg) I.ok.mod.kin hm hC).obj
  refine wpAny_Raise_call_subU (C:=C) (nm:=nm) (q:=q) (N:=NN) (bs:=bs) (bm:=tl) (hdct:=hdct) (sn:=sn) (sub:=sub) (ab:=ab) (col:=col) (dd:=dd) (k0:=k0) (k1:=k1) (k2:=k2) (k3:=k3) (k5:=k5)
    PySem.F.excBase_ValueError (by decide) PySem.F.excBase_ValueError (mN:=mN) (T.hasType PySem.F.excBase_ValueError.hasBase) hr ?_ hni (ld_glob I hg hm ⟨rfl,?_⟩ hdb)
  · show (backTo cpos (starEach (e0 :: es) (envOfC qual scope s₀.heap.objs.size f cd))).any (·.1) = false
    rw [he]
    show (false || (backTo cpos (starEach es (envOfC qual scope s₀.heap.objs.size f cd))).any (·.1)) = false
    rw [hpl];rfl
  · have ev:=ha cpos pins s σ H _ (I.wish _) h
    show wpAny _ _ (evalArgs (.ref C) true (backTo cpos (starEach (e0 :: es) (envOfC qual scope s₀.heap.objs.size f cd))) []) _ _ _
    have ev : wpAny (model P w) (A.deeper (envOfC qual scope s₀.heap.objs.size f cd)) (spliced (backTo cpos (starEach (e0 :: es) (envOfC qual scope s₀.heap.objs.size f cd)))) _ _ s:=ev
    rw [he] at ev ⊢
    refine Calls.evalArgs_plain (wpAny_mono ev (fun us s2 hz=>?_) fun _ _ z=>False.elim z)
    obtain ⟨vs,H1,I1,rv,hl,hE⟩:=hz
    have I1:=I1.unwish
    exact ⟨rfl,by rw [← rv.length];exact Nat.le_of_lt (small1000 hl),I1.bk _ _ hCo,hN.keeps I1.bk,T.keeps I1.bk,fun h' e hx=>raise_leaves I1 hx (hE e)⟩
end
end L2
namespace L2
open PySem PySem.Spec PySem.Calls PyProof.Rows PySem.W PySem.Builtin PySem.Builtin.ObjectAttr PySem.Builtin.Getset_descriptor
def excOk (K : PySem.W.Frag) (D : Addr) : Bool:=(findIn K (.ref D) "__getattribute__" == some (some (.builtin "BaseException.__getattribute__")) && findIn K (.ref D) "__getattr__" == some none) && (clsIn K D).isSome && (findIn K (.ref D) "__class__" == some (some (.builtin "object.__class__"))) && (specialIn K (.builtin "object.__class__") "__get__" == some (some (.builtin "getset_descriptor.__get__"))) && (takesIn K (.builtin "object.__class__") == some true) && (mroIn K D (.type "object") == some true && mroIn K D (.type "BaseException") == some true) && excIn K D vErr "ValueError.__new__"
def ExcAt (x D : Addr) (h : Heap) : Prop:=∃ o,h.get? x = some o∧o.cls = .ref D
theorem ExcAt.ty {x D : Addr} {h : Heap} (e : ExcAt x D h) (M : Model) : Looks M h (typeOf (.ref x)) (.ref D):=by
  obtain ⟨o,h1,h2⟩:=e
  exact h2 ▸ (Looks.ld h1).andThen .now
theorem looks_data {K : PySem.W.Frag} {M : Model} {h : Heap} (X : K.In h) {x C : Addr} {name : Str} {a g : Value} (ha : findIn K (.ref C) name = some (some a)) (hg : specialIn K a "__get__" = some (some g)) (ht : takesIn K a = some true) : Looks M h (find (.ref x) (.ref C) name) (.bind g a):=by
  refine (looks_findIn (M:=M) X ha).andThen ((looks_specialIn (M:=M) X hg).andThen ?_)
  have dd : Looks M h (dataDescriptor? (some a) (some g)) (some (g,a)):=(looks_takesIn (M:=M) X ht).andThen .now
  exact dd.andThen (Looks.tag .now)
section
variable {prog : Program} {w : World} {A : Around} {E : Value→Shared→Prop} {s : Shared} {K : PySem.W.Frag} {x D : Addr}
theorem exc_class {Q : Option Value→Shared→Prop} (X : K.In s.heap) (e : ExcAt x D s.heap) (ok : excOk K D = true) (h : Q (some (.ref D)) { s with toks:=s.toks + 1 }) : wpAny (model prog w) A (getAttr? (.ref x) "__class__") Q E s:=by
  unfold excOk at ok
  simp only [Bool.and_eq_true,beq_iff_eq] at ok
  obtain ⟨⟨⟨⟨⟨⟨⟨hga,hgn⟩,_⟩,ha⟩,hn⟩,htk⟩,hm,hmb⟩,hex⟩:=ok
  obtain ⟨hh,gs,dr,tt,os⟩:=s
  have T0:=e.ty (model prog w)
  have T1:=looks_findIn (M:=model prog w) X hga
  have T2:=looks_data (M:=model prog w) (x:=x) X ha hn htk
  have T3:=looks_findIn (M:=model prog w) X hgn
  have T4:=looks_mroIn (M:=model prog w) X hm
  unfold getAttr? getAttrBy? getAttrBy
  refine wpAny_bind (wpAny_mkText (wpAny_bind (wpAny_attempt (wpAny_holding (wpAny_bind (T0.at (wpAny_bind (T1.at ?_))))))))
  dsimp only
  rw [if_neg (by rw [show (Value.builtin "BaseException.__getattribute__" == Value.builtin "object.__getattribute__") = false from by decide +kernel,Bool.and_false];exact Bool.false_ne_true)]
  have T5:=looks_mroIn (M:=model prog w) X hmb
  unfold getAttrByItsOwn hookBefore callGetattribute boundAndCalled
  show wpAny _ _ (typeLookup (.ref D) "__getattr__" >>= _) _ _ _
  refine wpAny_bind (T3.at (wpAny_bind (wpAny_attempt (wpAny_holding ?_))))
  show wpAny _ _ (bindSpecial (.builtin "BaseException.__getattribute__") (.ref x) >>= _) _ _ _
  refine wpAny_bind (wpAny_of_eq (PySem.F.attrBase_ValueError.ga.bind _) (wpAny_call (codeAny_call_builtin PySem.F.attrBase_ValueError.ga.plain PySem.F.entry_bexc_ga ?_)))
  have ck : ∀ {Q : Unit→Shared→Prop} {E : Value→Shared→Prop} {A : Around} {nv : Value},Q () ⟨hh,gs,dr,tt + 1,os⟩→wpAny (model prog w) A (checkBuiltinCall "BaseException.__getattribute__" ⟨[.ref x,nv],[]⟩) Q E ⟨hh,gs,dr,tt + 1,os⟩:=fun {Q E A nv} q=>by
    have b1 : builtinKind "BaseException.__getattribute__" = some .slot:=by decide +kernel
    have b2 : splitId "BaseException.__getattribute__" = some ("BaseException","__getattribute__"):=by decide +kernel
    have b3:=F.args_bexc_ga (.ref x) nv
    simp only [checkBuiltinCall,b1,b2]
    refine wpAny_bind ?_
    unfold isInstance
    refine wpAny_bind (T0.at (T5.at ?_))
    rw [if_neg (by decide)]
    unfold argsOk at b3
    first | (rw [b3];exact wpAny_pure q) | (refine wpAny_of_eq b3 q)
  refine ck ?_
  repeat (first | with_reducible refine wpAny_bind (T0.at ?_) | with_reducible refine T0.at ?_ | with_reducible refine wpAny_bind (T2.at ?_) | with_reducible refine T2.at ?_ | wp_step)
  refine codeAny_call_builtin KF.slot_gs.plain KF.entry_gs (KF.slot_gs.check _ _ _ _ _ _ _ _ KF.type_class (KF.args_gs _ _ _) ?_)
  unfold Builtin.«getset_descriptor.__get__» descrGet
  rw [dga_obj]
  refine wpAny_bind (wpAny_pure ?_)
  unfold descrGetter descrCheckInstance descrNameAndClass isInstance
  simp only [KF.owner_class]
  repeat lk
  refine ⟨Code.quiet_builtin _ (by decide +kernel),codeAny_builtin KF.entry_class ?_⟩
  unfold Builtin.«object.__class__» shownTypeOf
  repeat lk
  first | exact h | (repeat (first | assumption | wp_step))
theorem kitx_exc (ok : excOk K D = true) : KitX K (.ref x) (.ref D) (ExcAt x D) where
  ty:=fun M h _ e=>e.ty M
  it:=fun M h X _=>by
    unfold excOk at ok
    simp only [Bool.and_eq_true,beq_iff_eq] at ok
    obtain ⟨⟨⟨⟨⟨⟨_,hc⟩,_⟩,_⟩,_⟩,_⟩,_⟩:=ok
    unfold clsIn at hc
    split at hc
    · rename_i c' d' cd' sl' lk
      intro A' Q' E' s' k q
      unfold isType loadHead
      exact wpAny_bind (wpAny_loadPart (k _ _ (X _ _ lk)) (wpAny_pure q))
    · cases hc
  ne:=fun h tp dd its n sl X htp=>by
    unfold excOk at ok
    simp only [Bool.and_eq_true,beq_iff_eq] at ok
    obtain ⟨⟨⟨⟨⟨⟨_,hc⟩,_⟩,_⟩,_⟩,_⟩,_⟩:=ok
    refine Bool.eq_false_iff.mpr fun q=>?_
    have e : D = tp:=Value.ref.inj (beq_iff_eq.mp q)
    subst e
    unfold clsIn at hc
    split at hc
    · rename_i c' d' cd' sl' lk
      have z:=(X _ _ lk).symm.trans htp
      cases z
    · cases hc
  ca:=fun X e k=>exc_class X e ok k
end
def excO (a C : Addr) : HO:=.ext (ExcAt a C)
def clV : V→Option Value
  | .ref a=>some (.ref a)
  | .ty n=>some (.type n)
  | _=>none
theorem clV_of {v : V} {u c : Value} (r : RelV v u) (h : clV v = some c) : u = c:=by
  cases v<;>simp [clV] at h<;>subst h<;>exact r
def isX (K : PySem.W.Frag) (H : Hp) (f : Value→Option Bool) (x : V) (b : Bool) : Prop:=(x = .non∧f (.type "NoneType") = some b)∨∃ a C,x = .ref a∧H a = some (excO a C)∧excOk K C = true∧f (.ref C) = some b
def rIsX (K : PySem.W.Frag) : List V→Hp→VK→Prop:=fun xs H Q=>∃ x c cv b,xs = [x,c]∧clV c = some cv∧isX K H (fun t=>kitOne K t cv) x b∧Q (.bl b) H
theorem call_isX {X : Cx} (K : PySem.W.Frag) (hK : X.K = K) : CallR X (.builtin "isinstance") (rIsX K):=by
  subst hK
  intro pins s σ H xs us Q I r h
  obtain ⟨x,c,cv,b,rfl,hc,hx,q⟩:=h
  obtain ⟨u1,u2,rfl,r1,r2⟩:=Vals.two r
  have e2:=clV_of r2 hc
  subst e2
  rcases hx with ⟨rfl,hb⟩ | ⟨a,C,rfl,ha,ok,hb⟩
  · obtain rfl : u1 = Value.none:=r1
    exact kia_one kitx_none I.kIn trivial hb (by intro z;cases z) fun tk=>⟨.bl b,H,I.tok tk,rfl,q⟩
  · obtain rfl : u1 = Value.ref a:=r1
    exact kia_one (kitx_exc ok) I.kIn (I.hok a _ ha).1 hb (by intro z;cases z) fun tk=>⟨.bl b,H,I.tok tk,rfl,q⟩
def clVs : List V→Option (List Value)
  | []=>some []
  | v :: r=>match clV v,clVs r with
    | some c,some cs=>some (c :: cs)
    | _,_=>none
theorem clVs_of : ∀ {vs : List V} {us cs : List Value},Vals vs us→clVs vs = some cs→us = cs
  | [],us,cs,r,h=>by cases r;cases h;rfl
  | v :: vs,us,cs,r,h=>by
    cases r with
    | cons r1 rr =>
      simp only [clVs] at h
      split at h
      · rename_i c cs' h1 h2
        cases h
        rw [clV_of r1 h1,clVs_of rr h2]
      · cases h
def rIsXT (K : PySem.W.Frag) : List V→Hp→VK→Prop:=fun xs H Q=>∃ x tp cs cvs b,xs = [x,.ref tp]∧H tp = some (.tup cs)∧clVs cs = some cvs∧isX K H (fun t=>kitAny K t cvs) x b∧Q (.bl b) H
theorem call_isXT {X : Cx} (K : PySem.W.Frag) (hK : X.K = K) : CallR X (.builtin "isinstance") (rIsXT K):=by
  subst hK
  intro pins s σ H xs us Q I r h
  obtain ⟨x,tp,cs,cvs,b,rfl,ht,hc,hx,q⟩:=h
  obtain ⟨u1,u2,rfl,r1,r2⟩:=Vals.two r
  obtain rfl : u2 = Value.ref tp:=r2
  obtain ⟨_,its,rv,⟨ot,e1,e2,e3⟩,_⟩:=I.hok tp _ ht
  have e4:=clVs_of rv hc
  subst e4
  obtain ⟨n,e3⟩:=e3
  obtain ⟨oc,od,oda,osl⟩:=ot
  dsimp only at e2 e3
  subst e2 e3
  rcases hx with ⟨rfl,hb⟩ | ⟨a,C,rfl,ha,ok,hb⟩
  · obtain rfl : u1 = Value.none:=r1
    exact kia_tup kitx_none I.kIn trivial e1 hb (by intro z;cases z) fun tk=>⟨.bl b,H,I.tok tk,rfl,q⟩
  · obtain rfl : u1 = Value.ref a:=r1
    exact kia_tup (kitx_exc ok) I.kIn (I.hok a _ ha).1 e1 hb (by intro z;cases z) fun tk=>⟨.bl b,H,I.tok tk,rfl,q⟩
theorem Inv.track {X : Cx} {pins : List (Addr × Obj)} {σ : St} {H : Hp} {s : Shared} (J : Inv X pins σ H s) {a : Addr} {o : HO} (hn : H a = none) (h0 : X.s₀.heap.get? a = none) (hL : a≠X.env.locals) (hC : ∀ x c,X.env.cells.lookup x = some c→c≠a)
    (hp : ∀ p∈X.pn ++ pins,p.1≠a) (ho : ObjOk X.prog X.w (upd H a o) s.heap a o) : Inv X pins σ (upd H a o) s:=by
  have ne : ∀ b u,H b = some u→b≠a:=fun b u h z=>by subst z;rw [hn] at h;cases h
  refine ⟨J.ok,J.os,J.bare,⟨J.base.keep,J.base.slot,fun b ob h1 h2 h3=>?_,J.base.there,fun b xs h=>?_,fun b ob u h=>?_,fun b ps h=>?_⟩,J.loc,J.cell,?_,fun x c h=>?_,fun p hm=>?_,fun b u h=>?_,J.len⟩
  · rw [upd_ne (fun z=>by subst z;rw [h0] at h1;cases h1)]
    exact J.base.free b ob h1 h2 h3
  · have:=J.base.tups b xs h
    rw [upd_ne (ne b _ this)];exact this
  · have:=J.base.frzs b ob u h
    rw [upd_ne (ne b _ this)];exact this
  · obtain ⟨more,this⟩:=J.base.tbls b ps h
    exact ⟨more,by rw [upd_ne (ne b _ this)];exact this⟩
  · rw [upd_ne (Ne.symm hL)];exact J.free
  · rw [upd_ne (hC x c h)];exact J.freeC x c h
  · obtain ⟨z1,z2,z3,z4,z5⟩:=J.pin p hm
    exact ⟨z1,by rw [upd_ne (hp p hm)];exact z2,z3,z4,z5⟩
  · by_cases hb : b = a
    · subst hb;rw [upd_same] at h;cases h;exact ho
    · rw [upd_ne hb] at h
      exact (J.hok b u h).stay (fun _ _ _ q=>q) (fun c q=>by rw [upd_ne (ne c _ q)];exact q) (fun c xs q=>by rw [upd_ne (ne c _ q)];exact q) fun c o' u' q=>by rw [upd_ne (ne c _ q)];exact q
def PEX (X : Cx) (CX : CXT) (e : Expr) (t : XK→TE) : Prop:=∀ (pins : List (Addr × Obj)) (s : Shared) (σ : St) (H : Hp) (Q : VK) (E : XK),Inv X pins σ H s→t E σ H Q →
  wpAny (model X.prog X.w) X.A (eval e X.env) (EP X pins σ Q) (fun x s'=>∃ H1 s1,Inv X pins σ H1 s1∧CX X.stack H1 s1 E x s') s
section
variable {X : Cx} {CX : CXT} {k : Nat} {f : Addr} {fd : FuncData} {ps : List Str} {sp : Sp} {x : Str} {p pos : Pos} {e : Expr} {es : List Expr} {t : TA}
theorem pex_call (F : FnOk X.prog X.w X.K X.mg X.base CX k f fd ps sp) (hr : Room k X.A) (hg : Gl X x) (hm : X.mg x = some (.ref f)) (hk : PySem.W.keepIn X.K (.ref f) = true) (hb : Binds X.K fd ps [])
    (ha : PA X.nox (e :: es) t) (hdb : (x == ("__debug__" : Str)) = false:=by decide) (he : starEach (e :: es) X.env = (false,eval e X.env) :: starEach es X.env:=by rfl) (hpl : (backTo pos (starEach es X.env)).any (·.1) = false:=by rfl) :
    PEX X CX (.Call (.Name x p) (e :: es) [] pos) (fun E=>tCall sp [] E t):=by
  intro pins s σ H Q E I h
  refine wpAny_Call_Name_kw (ld_glob I hg hm ?_ hdb)
  refine PySem.W.callWith_K (h₀:=X.base) I.ok.mod.kin hk (wpAny_mono (ha pos pins s σ H _ (I.wish _) h) (fun us s1 ⟨vs,H1,I1,r,q⟩=>⟨I1.kIn,?_⟩) fun _ _ z=>False.elim z) he hpl
  have I1:=I1.unwish
  have q : sp (vs ++ []) H1 Q E:=q
  rw [List.append_nil] at q
  have hl : (us ++ []).length = ps.length:=by rw [List.append_nil,← r.length];exact F.len _ _ _ _ q
  have hbb:=hb s1 us I1.kIn hl
  rw [List.append_nil] at hbb
  refine wpAny_call (codeAny_mono (F.run X.A X.stack s1 H1 ⟨us,[]⟩ us vs Q E hr I1.env0 hbb r q) fun r s' hq=>?_)
  cases r with
  | error e=>exact ⟨H1,s1,I1,hq⟩
  | ok fl =>
    cases fl with
    | ret u=>exact I1.after hq
    | next=>exact False.elim hq
    | brk=>exact False.elim hq
    | cont=>exact False.elim hq
end
end L2
namespace L2
open PySem PySem.Spec PySem.Calls PyProof.Rows PySem.W
section
variable {X : Cx} {pins : List (Addr × Obj)} {σ : St} {H : Hp} {s : Shared}
theorem name_goes {M : Model} {A : Around} {E : Value→Shared→Prop} {i : Nat} {n : Str} {pos : Pos} {Q : Unit→Shared→Prop} (J : Inv X pins σ H s) (hN : X.N.Nodup) (hi : X.N[i]? = some n) (hl : X.env.scope.names.lookup n = some .local)
    (h : ∀ s',Inv X pins (σ.set i none) H s'→Q () s') : wpAny M A (do bindName X.env n .none;unbindBehindTheSuite X.env n pos) Q E s:=by
  have hcls : (X.env.scope.kind == .class || (X.env.scope.kind == .module && X.env.locals != X.env.globals)) = false:=by rw [J.ok.kind];rfl
  obtain ⟨m,hn,hk⟩:=J.loc
  refine wpAny_nameGoes_keeps hl hn hcls fun h' v hn' hs=>h _ ?_
  have at' : ∀ b o,b≠X.env.locals→s.heap.get? b = some o→h'.get? b = some o:=fun b o hb q=>(hs.2 b hb).trans q
  have ne0 : ∀ b o,X.s₀.heap.get? b = some o→b≠X.env.locals:=fun b o e=>Nat.ne_of_lt (Nat.lt_of_lt_of_le (Heap.lt_size e) J.ok.above)
  have cel : ∀ x c v,X.env.cells.lookup x = some c→s.heap.IsCell c v→h'.IsCell c v:=fun x c v e ⟨o,q1,q2⟩=>⟨o,at' c o (J.cne x c e) q1,q2⟩
  refine ⟨J.ok,J.os,J.bare,⟨fun b o e1 e2 e3 e4=>at' b o (ne0 b o e1) (J.base.keep b o e1 e2 e3 e4),fun b o e1 e2 e3 e4=>?_,J.base.free,fun b o e1 e2=>?_,J.base.tups,J.base.frzs,J.base.tbls⟩,⟨_,hn',fun j x w h1 h2 h3=>?_⟩,fun x c e=>?_,J.free,J.freeC,fun p hp=>?_,fun b o e=>?_,?_⟩
  · obtain ⟨sl,q⟩:=J.base.slot b o e1 e2 e3 e4
    exact ⟨sl,at' b _ (ne0 b o e1) q⟩
  · obtain ⟨o',q⟩:=J.base.there b o e1 e2
    exact ⟨o',at' b _ (ne0 b o e1) q⟩
  · have hji : j≠i:=fun z=>by
      subst z
      rw [List.getElem?_set] at h2
      simp only [if_true] at h2
      split at h2<;>cases h2
    rw [List.getElem?_set_ne (Ne.symm hji)] at h2
    obtain ⟨u,r,l⟩:=hk j x w h1 h2 h3
    have hxn : x≠n:=fun z=>by
      subst z
      have b1:=List.getElem?_eq_some_iff.mp h1
      have b2:=List.getElem?_eq_some_iff.mp hi
      exact hji ((List.getElem_inj hN).mp (b1.2.trans b2.2.symm))
    refine ⟨u,r,?_⟩
    rcases l with ⟨l1,l2⟩ | ⟨l1,c,l2,l3⟩
    · exact .inl ⟨l1,by show (if x = n then v else m x) = some u;rw [if_neg hxn];exact l2⟩
    · exact .inr ⟨l1,c,l2,cel x c _ l2 l3⟩
  · obtain ⟨v,q⟩:=J.cell x c e
    exact ⟨v,cel x c v e q⟩
  · obtain ⟨z1,z2,z3,z4,z5⟩:=J.pin p hp
    exact ⟨at' _ _ z3 z1,z2,z3,z4,z5⟩
  · have nl : ∀ b u,H b = some u→b≠X.env.locals:=fun b u q z=>by subst z;rw [J.free] at q;cases q
    refine (J.hok b o e).stay (fun c u hc q=>at' c u ?_ q) (fun _ q=>q) (fun _ _ q=>q) fun _ _ _ q=>q
    rcases hc with rfl | hc
    · exact nl _ _ e
    · exact nl _ _ hc
  · rw [List.length_set];exact J.len
end
def PSX (X : Cx) (CX : CXT) (st : Stmt) (t : XK→TS) : Prop:=∀ (pins : List (Addr × Obj)) (s : Shared) (σ : St) (H : Hp) (D : Ends) (E : XK),Inv X pins σ H s→t E D σ H →
  wpAny (model X.prog X.w) X.A (exec st X.env) (SP X pins D) (fun x s'=>∃ H1 s1,Inv X pins σ H1 s1∧CX X.stack H1 s1 E x s') s
section
variable {X : Cx} {CX : CXT} {e : Expr} {te : XK→TE} {pos : Pos}
theorem psx_set {i : Nat} {x : Str} {pos' : Pos} (hN : X.N.Nodup) (hi : X.N[i]? = some x) (hx : Loc X.env.scope x) (he : PEX X CX e te) (hs : swapsWith e (some (.Name x pos')) pos.line X.env = pure false:=by rfl) (hf : X.fn x = true∨X.env.scope.names.lookup x = some .local:=by first | exact .inl rfl | exact .inr rfl | assumption) :
    PSX X CX (.Assign [.Name x pos'] e pos) (fun E=>tAsg (te E) (gName i)):=by
  intro pins s σ H D E I h
  refine wpAny_Assign_Name (thn (he pins s σ H _ E I h) fun v s1 ⟨y,H1,I1,r1,q1⟩=>?_) hs
  exact store_ok I1 hN hi hx r1 (fun s2 I2=>⟨_,H1,I2,q1⟩) hf
end
def tTry (K : PySem.W.Frag) (T : Addr) (i j : Nat) (tb : XK→TS) : TS:=fun D σ H=>tb (fun x C H'=>∀ a c,x = .ref a→C = some c→H' a = none→exmOne K (.ref c) (.ref T) = some true∧D.nx ((σ.set i none).set j (some (.ref a))) (upd H' a (excO a c))) D σ H
def Cx.inX (X : Cx) (e : Value) : Cx:={ X with A:=X.A.mark (some e),calm:=false,xe:=fun _ _=>False }
theorem Inv.inX {X : Cx} {pins : List (Addr × Obj)} {σ : St} {H : Hp} {s : Shared} (I : Inv X pins σ H s) (e : Value) : Inv (X.inX e) pins σ H s :=
  ⟨⟨I.ok.mod,I.ok.kind,I.ok.glob,I.ok.blt,I.ok.above,I.ok.inj,I.ok.has,I.ok.cab,fun z=>(nomatch z),I.ok.frames,I.ok.stk,I.ok.exf,I.ok.bs,I.ok.bsz,I.ok.noex,I.ok.exfs,I.ok.funs,I.ok.frf,I.ok.tt⟩,I.os,I.bare,I.base,I.loc,I.cell,I.free,I.freeC,I.pin,I.hok,I.len⟩
theorem Inv.outX {X : Cx} {e : Value} {pins : List (Addr × Obj)} {σ : St} {H : Hp} {s : Shared} (ok : X.Ok) (I : Inv (X.inX e) pins σ H s) : Inv X pins σ H s:=⟨ok,I.os,I.bare,I.base,I.loc,I.cell,I.free,I.freeC,I.pin,I.hok,I.len⟩
theorem ps_try {X : Cx} {st : Stmt} {tb : XK→TS} {T : Addr} {tn n z : Str} {i j : Nat} {tp np zp ap hp pos : Pos} (hS : X.stack = X.env :: X.outer) (hF : X.env.frame = some X.env.locals) (hX : X.ex = []) (hb : PSX X (CXx X.prog X.w) st tb)
    (hg : Gl X tn) (hm : X.mg tn = some (.ref T)) (hN : X.N.Nodup) (hi : X.N[i]? = some n) (hj : X.N[j]? = some z) (hij : i≠j) (hn : X.env.scope.names.lookup n = some .local) (hz : X.env.scope.names.lookup z = some .local)
    (hdb : (tn == ("__debug__" : Str)) = false:=by decide) (hdn : (n == ("__debug__" : Str)) = false:=by decide) (hcn : (n == ("__classdict__" : Str)) = false:=by decide)
    (hs : ∀ v : Value,swapsWith (.Name n np) (some (.Name z zp)) ap.line X.env = pure false:=by intro _;rfl) :
    PS X (.Try [st] [.ExceptHandler (some (.Name tn tp)) (some n) [.Assign [.Name z zp] (.Name n np) ap] hp] [] [] pos) (tTry X.K T i j tb):=.mk <| by
  intro pins s σ H D I h
  refine wpAny_Try_except (wpAny_execs_cons (wpAny_mono (hb pins s σ H D _ I h) (fun f s1 q=>?_) fun x s' hx=>?_))
  · cases f with
    | next=>exact wpAny_execs_nil (wpAny_execs_nil q)
    | ret v=>exact q
    | brk=>exact q
    | cont=>exact q
  obtain ⟨H1,s1,I1,a,C,t,H',B,rfl,os,bare,un,hok,fl,keep,there,hE⟩:=hx
  have hfr : X.A.frames = some (X.env :: X.outer):=by rw [← hS];exact I1.ok.frames
  rw [hS] at un keep there fl
  have hBa : B.get? a = none:=fl.2.1
  have hna : H' a = none:=by
    cases q : H' a with
    | none=>rfl
    | some u =>
      obtain ⟨o,e⟩:=get_of_objOk (hok a u q)
      rw [hBa] at e;cases e
  obtain ⟨hex,hnx⟩:=hE a C rfl rfl hna
  have fst:=I1.stack
  rw [hS] at fst
  have nonf : ∀ b o,s1.heap.get? b = some o→b∈frs (X.env :: X.outer)→∀ vs,o.data≠.fields vs:=fun b o hb ho=>by
    obtain ⟨_,o2,q2,nf⟩:=fst.mem (b:=b) ho
    rw [hb] at q2;cases q2;exact nf
  refine wpAny_looks_onW hfr hF fl fun h2 held up2=>wpAny_landsW held fun h3 fl3 up3=>?_
  have back : ∀ h4 : Heap,Heap.FlyingW B (X.env :: X.outer) a (.ref C) (.ref t) h4→s'.heap.UpToSlots h4→Inv X pins σ (upd H' a (excO a C)) { s' with heap:=h4 }:=fun h4 fl4 up4=>by
    have stay:=fl4.1
    have un4 : Un (frs X.stack) [] H1 H' s1.heap h4:=by
      rw [hS]
      have slot : ∀ b o,s1.heap.get? b = some o→H1 b = none→b∈frs (X.env :: X.outer)→∃ sl,h4.get? b = some { o with slots:=sl }:=fun b o hb hn ho=>by
        obtain ⟨sl1,q1⟩:=un.slot b o hb hn ho (by simp)
        obtain ⟨sl2,q2⟩:=up4 b _ q1 (nonf b o hb ho)
        exact ⟨sl2,q2⟩
      refine ⟨fun b o hb hn ho _=>stay b o (keep b o hb hn ho),fun b o hb hn ho _=>slot b o hb hn ho,un.free,fun b o hb _=>?_,un.tups,un.frzs,un.tbls⟩
      by_cases ho : b∈frs (X.env :: X.outer)
      · obtain ⟨sl,q⟩:=slot b o hb (I1.stkFree b (by rw [hS];exact ho)) ho
        exact ⟨_,q⟩
      · obtain ⟨o',q⟩:=there b o hb ho
        exact ⟨o',stay b o' q⟩
    have J : Inv X pins σ H' { s' with heap:=h4 }:=I1.call' (s':={ s' with heap:=h4 }) os un4 (hok.kept stay) bare (fun b z=>absurd z (by simp))
    have ex4 : ExcAt a C h4:=fl4.there
    have inB : ∀ b o,s1.heap.get? b = some o→b ∉ frs (X.env :: X.outer)→b≠a:=fun b o hb ho z=>by
      subst z
      obtain ⟨o',q⟩:=there b o hb ho
      rw [hBa] at q;cases q
    have fields : ∃ oe vs,h4.get? a = some oe∧oe.data = .fields vs:=by
      obtain ⟨oe,vs,q1,_,q2,_⟩:=fl4.first
      exact ⟨oe,vs,q1,q2⟩
    have nfr : a ∉ frs (X.env :: X.outer):=fun hm=>by
      obtain ⟨_,o2,q2,nf⟩:=fl4.2.2.1.mem (b:=a) hm
      obtain ⟨oe,vs,q3,q4⟩:=fields
      rw [q3] at q2;cases q2
      exact nf vs q4
    have hL : a≠X.env.locals:=fun z=>nfr (by
      unfold frs
      rw [List.filterMap_cons,hF]
      exact z ▸ List.mem_cons_self)
    have inS : ∀ b o,s1.heap.get? b = some o→b≠a:=fun b o hb=>by
      by_cases ho : b∈frs (X.env :: X.outer)
      · exact fun z=>nfr (z ▸ ho)
      · exact inB b o hb ho
    refine J.track hna ?_ hL (fun x c hc=>?_) (fun p hp=>?_) ⟨ex4,?_,fun g1 g2 ⟨o,q1,q2⟩ k=>⟨o,k o q1,q2⟩⟩
    · cases q : X.s₀.heap.get? a with
      | none=>rfl
      | some o =>
        obtain ⟨o',q'⟩:=I1.base.there a o q (by rw [hX];simp)
        exact absurd rfl (inS a o' q')
    · obtain ⟨v,o,q,_⟩:=I1.cell x c hc
      exact inS c o q
    · exact inS _ _ (I1.pin p hp).1
    · obtain ⟨o,q,_⟩:=ex4
      exact ⟨o,q⟩
  have J3:=back h3 fl3 (up2.trans up3)
  refine wpAny_handleBy_cons (codeAny_handlers_test ?_) (by intro q;cases q)
  refine ld_glob (X:=X.inX (.ref a)) (J3.inX _) hg hm ?_ hdb
  refine (exm_one J3.kIn (ExcAt.ty fl3.there _) hex).here ?_
  show codeAny _ _ _ _ _
  refine codeAny_handlers_suite_as ?_
  refine wpAny_setFlight_noneW fl3.1 fl3.2.2.1 fl3.2.2.2 fun h5 k1 k2 k3 k4=>?_
  have fl5 : Heap.FlyingW B (X.env :: X.outer) a (.ref C) (.ref t) h5:=⟨k1,hBa,k2,k3⟩
  have J5:=back h5 fl5 ((up2.trans up3).trans fun b o hb hn=>⟨o.slots,k4 b o hb hn⟩)
  refine store_ok (X:=X.inX (.ref a)) (v:=.ref a) (J5.inX _) hN hi (.inl hn) rfl (fun s6 J6=>?_) (.inr hn)
  have ass : PS (X.inX (.ref a)) (.Assign [.Name z zp] (.Name n np) ap) (tAsg (tVar i) (gName j)):=ps_set (X:=X.inX (.ref a)) hN hj (.inl hz) (pe_var (X:=X.inX (.ref a)) hi (.inl hn) hdn hcn) (hs .none) (.inr hz)
  refine wpAny_execs_cons (wpAny_mono (ass pins s6 (σ.set i (some (.ref a))) (upd H' a (excO a C)) { nx:=fun σ' H2=>σ' = (σ.set i (some (.ref a))).set j (some (.ref a))∧H2 = upd H' a (excO a C),rt:=fun _ _=>False } J6 ?_) (fun f s7 q=>?_) fun _ _ z=>False.elim z)
  · have hil : i < σ.length:=by rw [J5.len];exact (List.getElem?_eq_some_iff.mp hi).1
    exact ⟨.ref a,by rw [List.getElem?_set];simp [hil],rfl,rfl⟩
  cases f with
  | ret v=>obtain ⟨_,_,_,_,_,q⟩:=q;exact q.elim
  | brk=>obtain ⟨_,_,_,q⟩:=q;exact q.elim
  | cont=>obtain ⟨_,_,_,q⟩:=q;exact q.elim
  | next =>
    obtain ⟨σ7,H7,J7,e7,e8⟩:=q
    subst e7 e8
    refine wpAny_execs_nil ?_
    show wpAny _ _ _ _ _ _
    refine name_goes (Inv.outX I1.ok J7) hN hi hn fun s8 J8=>?_
    refine ⟨_,_,J8,?_⟩
    rw [List.set_comm _ _ (Ne.symm hij),List.set_set]
    exact hnx
end L2
namespace L2
open PySem PySem.Spec PyProof.Rows
abbrev ASpX:=List AV→Om→(AV→Om→Prop)→(Addr→Om→Prop)→Prop
def LX (F : Fs) (H : Hp) (ω : Om) (Ex : Addr→Om→Prop) (E : XK) : Prop:=∀ C ω' a H',Rep F H' ω'→Fr F H ω H' ω'→Ex C ω'→E (.ref a) (some C) H'
theorem LX.fr {F : Fs} {H H1 : Hp} {ω ω1 : Om} {Ex : Addr→Om→Prop} {E : XK} (k : LX F H ω Ex E) (f : Fr F H ω H1 ω1) : LX F H1 ω1 Ex E:=fun C ω' a H' rp fr q=>k C ω' a H' rp (f.trans fr) q
def liftX (sp : ASpX) : Sp:=fun vs H Q E=>∃ (F : Fs) (xs : List AV) (ω : Om) (Q' : AV→Om→Prop) (Ex : Addr→Om→Prop),Rep F H ω∧RVs (cut F H ω) xs vs∧sp xs ω Q' Ex∧LP RV F H ω Q' Q∧LX F H ω Ex E
abbrev AXS:=AEnds→(Addr→Om→Prop)→SA→Om→Prop
structure RefSX (E : XK) (t : TS) (t' : AXS) : Prop where
  run : ∀ (F : Fs) (H : Hp) (ω : Om) (σ : St) (ρ : SA) (D : Ends) (D' : AEnds) (Ex : Addr→Om→Prop),Rep F H ω→RS (cut F H ω) ρ σ→t' D' Ex ρ ω→LE F H ω D' D→LX F H ω Ex E→t D σ H
def axOf (t : AS) : AXS:=fun D _ ρ ω=>t D ρ ω
def axSeq (t u : AXS) : AXS:=fun D Ex ρ ω=>t { D with nx:=u D Ex } Ex ρ ω
def axIf (c : AT) (t u : AXS) : AXS:=fun D Ex ρ ω=>c ρ ω fun b ω1=>if b = true then t D Ex ρ ω1 else u D Ex ρ ω1
def axRaise (C : Addr) (ta : AA) : AXS:=fun _ Ex ρ ω=>ta ρ ω fun xs ω1=>xs.length≤1000∧Ex C ω1
theorem axOf_eq (t : AS) (D : AEnds) (Ex : Addr→Om→Prop) (ρ : SA) (ω : Om) : axOf t D Ex ρ ω = t D ρ ω:=rfl
theorem axSeq_eq (t u : AXS) (D : AEnds) (Ex : Addr→Om→Prop) (ρ : SA) (ω : Om) : axSeq t u D Ex ρ ω = t { D with nx:=u D Ex } Ex ρ ω:=rfl
theorem axIf_eq (c : AT) (t u : AXS) (D : AEnds) (Ex : Addr→Om→Prop) (ρ : SA) (ω : Om) : axIf c t u D Ex ρ ω = c ρ ω fun b ω1=>if b = true then t D Ex ρ ω1 else u D Ex ρ ω1:=rfl
theorem axRaise_eq (C : Addr) (ta : AA) (D : AEnds) (Ex : Addr→Om→Prop) (ρ : SA) (ω : Om) : axRaise C ta D Ex ρ ω = ta ρ ω fun xs ω1=>xs.length≤1000∧Ex C ω1:=rfl
section
variable {E : XK} {t u : TS} {t' u' : AXS} {ta : TA} {ta' : AA} {tc : TT} {tc' : AT} {sp : ASpX} {C : Addr}
theorem x_of {a : AS} (h : RefS t a) : RefSX E t (axOf a):=⟨fun F H ω σ ρ D D' Ex rp rs w k kx=>h.run F H ω σ ρ D D' rp rs w k⟩
theorem x_seq (h1 : RefSX E t t') (h2 : RefSX E u u') : RefSX E (tSeq t u) (axSeq t' u'):=⟨fun F H ω σ ρ D D' Ex rp rs h k kx =>
  h1.run F H ω σ ρ _ _ Ex rp rs h ⟨fun ρ1 ω1 σ1 H1 rp1 fr1 rs1 q=>h2.run F H1 ω1 σ1 ρ1 D D' Ex rp1 rs1 q (k.fr fr1) (kx.fr fr1),k.rt,k.bk,k.ct⟩ kx⟩
theorem x_if (hc : RefT tc tc') (h1 : RefSX E t t') (h2 : RefSX E u u') : RefSX E (tIfS tc t u) (axIf tc' t' u'):=⟨fun F H ω σ ρ D D' Ex rp rs w k kx =>
  hc.go rp rs w fun a ω1 v H1 rp1 fr1 rs1 rv q=>by
    cases (show a = v from rv)
    cases a with
    | true=>rw [if_pos rfl] at q ⊢;exact h1.run F H1 ω1 σ ρ D D' Ex rp1 rs1 q (k.fr fr1) (kx.fr fr1)
    | false=>rw [if_neg Bool.false_ne_true] at q ⊢;exact h2.run F H1 ω1 σ ρ D D' Ex rp1 rs1 q (k.fr fr1) (kx.fr fr1)⟩
theorem x_raise (ha : RefA ta ta') : RefSX E (tRaise C E ta) (axRaise C ta'):=⟨fun F H ω σ ρ D D' Ex rp rs w k kx =>
  ha.go rp rs w fun xs ω1 vs H1 rp1 fr1 rs1 rv q=>⟨by rw [rv.length];exact q.1,fun e=>kx C ω1 e H1 rp1 fr1 q.2⟩⟩
end
theorem PS.nox {X : Cx} {st : Stmt} {t : TS} (h : PS X.nox st t) : PS X st t:=.mk <| fun pins s σ H D I hw =>
  wpAny_mono (h pins s σ H D (I.wish _) hw) (fun _ _ q=>q.unwish) fun _ _ z=>False.elim z
theorem Fun.okX {P : Program} {w : World} {K : PySem.W.Frag} {mg : Str→Option Value} {base : Heap} {x qual : Str} {st : Stmt} {f : Addr} {fd : FuncData} {N ps : List Str} {k : Nat} {sp : ASpX} (F : Fun K x qual st f fd) (S : FnScope N ps (defScope st)) (len : ∀ xs ω Q Ex,sp xs ω Q Ex→xs.length = ps.length)
    (hbody : ∀ (cdv : Value) (A : Around) (outer : List Env) (s : Shared) (H : Hp) (E : XK),Room k (A.deeper (envOfC qual (defScope st) s.heap.objs.size f cdv)) →
      ∃ t t',PSs (cxOf (CXx P w) P w K mg base N qual (defScope st) f cdv A outer s H E) (defBody st) t∧RefSX E t t'∧∀ xs ω Q' Ex,sp xs ω Q' Ex→t' { nx:=fun _ ω'=>Q' (.d .non) (ω'.only ω),rt:=fun a ω'=>∃ d,a = .d d∧Q' (.d d) (ω'.only ω) } (fun C ω'=>Ex C (ω'.only ω)) (startA N xs) ω) : FnOk P w K mg base (CXx P w) (k + 1) f fd ps (liftX sp):=by
  obtain ⟨oc,od,kV,doc,pm,an,cdv,ct,osl,rfl,lk,hcd⟩:=F.ex
  refine fn_of lk hcd S (fun vs H Q E h=>?_) (fun A outer s H vs Q E hr h=>?_)
  · obtain ⟨F',xs,ω,Q',Ex,rp,rv,h,_⟩:=h
    rw [rv.length,len xs ω Q' Ex h]
  · obtain ⟨t,t',h1,h2,h3⟩:=hbody cdv A outer s H E hr
    obtain ⟨F',xs,ω,Q',Ex,rp,rv,h,kq,kx⟩:=h
    refine ⟨t,h1,h2.run F' H ω _ _ _ _ _ rp (RS.start rv) (h3 xs ω Q' Ex h) ⟨?_,?_,fun _ _ _ _ _ _ _ z=>z.elim,fun _ _ _ _ _ _ _ z=>z.elim⟩ ?_⟩
    · exact fun ρ' ω' σ' H' e1 e2 e3 q=>kq (.d .non) (ω'.only ω) .non H' e1.only.1 e2.only (by simp [RV,Dat]) q
    · rintro a ω' v H' e1 e2 e3 ⟨d,rfl,q⟩
      exact kq (.d d) (ω'.only ω) v H' e1.only.1 e2.only (e3.same e1.only.2) q
    · exact fun C ω' a H' e1 e2 q=>kx C (ω'.only ω) a H' e1.only.1 e2.only q
def excA (a C : Addr) : AV:=.p (.ref a) (fun G=>G a = some (excO a C))
def aTry (K : PySem.W.Frag) (T : Addr) (i j : Nat) (y : Option Nat) (sp : ASpX) (ta : AA) : AS:=fun D ρ ω=>ta ρ ω fun xs ω1=>sp xs ω1 (fun v ω2=>D.nx (match y with | none=>ρ | some k=>ρ.set k (some v)) ω2)
  (fun c ω2=>PySem.W.exmOne K (.ref c) (.ref T) = some true∧∀ a,D.nx ((ρ.set i none).set j (some (excA a c))) ω2)
theorem aTryS_eq (K : PySem.W.Frag) (T : Addr) (i j k : Nat) (sp : ASpX) (ta : AA) (D : AEnds) (ρ : SA) (ω : Om) : aTry K T i j (some k) sp ta D ρ ω = ta ρ ω fun xs ω1=>sp xs ω1 (fun v ω2=>D.nx (ρ.set k (some v)) ω2) (fun c ω2=>PySem.W.exmOne K (.ref c) (.ref T) = some true∧∀ a,D.nx ((ρ.set i none).set j (some (excA a c))) ω2):=rfl
theorem RS.setN {G : Hp} {ρ : SA} {σ : St} {i : Nat} (h : RS G ρ σ) : RS G (ρ.set i none) (σ.set i none):=by
  refine ⟨by simp [h.1],fun j b e=>?_⟩
  by_cases hj : j = i
  · subst hj
    rw [List.getElem?_set] at e
    simp only [if_true] at e
    split at e<;>cases e
  · rw [List.getElem?_set_ne (Ne.symm hj)] at e
    rw [List.getElem?_set_ne (Ne.symm hj)]
    exact h.2 j b e
section
variable {K : PySem.W.Frag} {T : Addr} {i j : Nat} {sp : ASpX} {ta : TA} {ta' : AA}
theorem LE.caught {F : Fs} {H H1 : Hp} {ω ω1 : Om} {σ : St} {ρ : SA} {D : Ends} {D' : AEnds} (k : LE F H ω D' D) (fr1 : Fr F H ω H1 ω1) (rs1 : RS (cut F H1 ω1) ρ σ) :
    LX F H1 ω1 (fun c ω2=>PySem.W.exmOne K (.ref c) (.ref T) = some true∧∀ a,D'.nx ((ρ.set i none).set j (some (excA a c))) ω2) (fun x C H'=>∀ a c,x = .ref a→C = some c→H' a = none→PySem.W.exmOne K (.ref c) (.ref T) = some true∧D.nx ((σ.set i none).set j (some (.ref a))) (upd H' a (excO a c))):=by
  intro C ω2 a H2 rp2 fr2 q a' c' e1 e2 hn
  cases e1
  cases e2
  obtain ⟨rp3,fr3,hc⟩:=rp2.lay (o:=excO a C) hn
  have rx : RV (cut F (upd H2 a (excO a C)) ω2) (excA a C) (.ref a):=⟨rfl,fun G' s=>s _ _ hc⟩
  exact ⟨q.1,k.nx _ ω2 _ _ rp3 ((fr1.trans fr2).trans fr3) (((rs1.same fr2.same).same fr3.same).setN.set rx) (q.2 a)⟩
theorem s_tryA {y : Nat} (ha : RefA ta ta') : RefS (tTry K T i j fun E=>tAsg (tCall (liftX sp) [] E ta) (gName y)) (aTry K T i j (some y) sp ta'):=⟨fun F H ω σ ρ D D' rp rs w k =>
  ha.go rp rs w fun xs ω1 vs H1 rp1 fr1 rs1 rv q=>by
    rw [List.append_nil]
    exact ⟨F,xs,ω1,_,_,rp1,rv,q,fun a ω2 v H2 rp2 fr2 rv2 q2=>k.nx _ ω2 _ H2 rp2 (fr1.trans fr2) ((rs1.same fr2.same).set rv2) q2,k.caught fr1 rs1⟩⟩
end
def isXA (K : PySem.W.Frag) (f : Value→Option Bool) (x : AV) (b : Bool) : Prop:=(x = .d .non∧f (.type "NoneType") = some b)∨∃ a C,x = excA a C∧excOk K C = true∧f (.ref C) = some b
theorem isXA.of {K : PySem.W.Frag} {f : Value→Option Bool} {x : AV} {b : Bool} {F : Fs} {H : Hp} {ω : Om} {v : V} (h : isXA K f x b) (r : RV (cut F H ω) x v) : isX K H f v b:=by
  rcases h with ⟨rfl,hb⟩ | ⟨a,C,rfl,ok,hb⟩
  · exact .inl ⟨rv_non r,hb⟩
  · obtain ⟨rfl,h2⟩:=r
    exact .inr ⟨a,C,rfl,(cut_some.mp (h2 _ (Same.refl _))).2.2,ok,hb⟩
theorem isXA_exc {K : PySem.W.Frag} {f : Value→Option Bool} {b : Bool} {a C : Addr} (ok : excOk K C = true) (h : f (.ref C) = some b) : isXA K f (excA a C) b:=.inr ⟨a,C,rfl,ok,h⟩
def aIsX (K : PySem.W.Frag) : AC:=fun xs ω Q=>∃ x c cv b,xs = [x,.r c]∧clV c = some cv∧isXA K (fun t=>PySem.W.kitOne K t cv) x b∧Q (.d (.bl b)) ω
theorem aIsX_eq (K : PySem.W.Frag) (xs : List AV) (ω : Om) (Q : AV→Om→Prop) : aIsX K xs ω Q = ∃ x c cv b,xs = [x,.r c]∧clV c = some cv∧isXA K (fun t=>PySem.W.kitOne K t cv) x b∧Q (.d (.bl b)) ω:=rfl
theorem c_isX {K : PySem.W.Frag} : RefC (rIsX K) (aIsX K):=⟨fun F H ω vs xs Q Q' rp rv ⟨x,c,cv,b,e,h1,h2,q⟩ k=>by
  subst e
  obtain ⟨v,u,rfl,r1,r2⟩:=rvs2 rv
  have e2 : u = c:=r2
  rw [e2]
  exact ⟨v,c,cv,b,rfl,h1,h2.of r1,k.bl rp q⟩⟩
def aIsXT (K : PySem.W.Frag) (tx : AE) (tcs : AA) : AE:=fun ρ ω Q=>tx ρ ω fun x ω1=>tcs ρ ω1 fun cs ω2=>∃ vs cvs b,cs = vs.map AV.r∧vs.length≤1000∧clVs vs = some cvs∧isXA K (fun t=>PySem.W.kitAny K t cvs) x b∧Q (.d (.bl b)) ω2
theorem aIsXT_eq (K : PySem.W.Frag) (tx : AE) (tcs : AA) (ρ : SA) (ω : Om) (Q : AV→Om→Prop) : aIsXT K tx tcs ρ ω Q = tx ρ ω fun x ω1=>tcs ρ ω1 fun cs ω2=>∃ vs cvs b,cs = vs.map AV.r∧vs.length≤1000∧clVs vs = some cvs∧isXA K (fun t=>PySem.W.kitAny K t cvs) x b∧Q (.d (.bl b)) ω2:=rfl
theorem rvs_raw {G : Hp} : ∀ {vs us : List V},RVs G (vs.map AV.r) us→us = vs
  | [],us,h=>h
  | v :: vs,us,h=>by
    obtain ⟨u,r,rfl,h1,h2⟩:=h
    cases (show u = v from h1)
    rw [rvs_raw h2]
theorem e_isXT {K : PySem.W.Frag} {tx : TE} {tx' : AE} {tcs : TA} {tcs' : AA} (hx : RefE tx tx') (hc : RefA tcs tcs') : RefE (tCB (rIsXT K) (tCons tx (tCons (tTup tcs) tNil))) (aIsXT K tx' tcs'):=⟨fun F H ω σ ρ Q Q' rp rs w k =>
  hx.go rp rs w fun x ω1 v H1 rp1 fr1 rs1 rv1 q1=>hc.go rp1 rs1 q1 fun cs ω2 us H2 rp2 fr2 rs2 rv2 ⟨vs,cvs,b,e,hl,h1,h2,q⟩=>by
    subst e
    cases rvs_raw rv2
    refine ⟨Nat.le_of_lt (small1000 hl),fun p hp=>?_⟩
    obtain ⟨rp3,fr3,hc3⟩:=rp2.lay (o:=.tup us) hp
    exact ⟨v,p,us,cvs,b,rfl,upd_same,h1,h2.of (rv1.same (fr2.trans fr3).same),(k.fr ((fr1.trans fr2).trans fr3)).bl rp3 q⟩⟩
theorem exc_in {K : PySem.W.Frag} {D : Addr} (h : excOk K D = true) : PySem.W.excIn K D vErr "ValueError.__new__" = true:=by
  unfold excOk at h
  simp only [Bool.and_eq_true] at h
  exact h.2
def nonA : AV→Option Bool
  | .d a=>some (eqD a .non)
  | .p (.ref _) _=>some false
  | _=>none
def aIsNX (neg : Bool) : A2:=fun x y ω Q=>∃ b,nonA x = some b∧y = .d .non∧Q (.d (.bl (if neg then !b else b))) ω
theorem aIsNX_eq (neg : Bool) (x y : AV) (ω : Om) (Q : AV→Om→Prop) : aIsNX neg x y ω Q = ∃ b,nonA x = some b∧y = .d .non∧Q (.d (.bl (if neg then !b else b))) ω:=rfl
theorem nonA_d (a : D) : nonA (.d a) = some (eqD a .non):=rfl
theorem nonA_x (a C : Addr) : nonA (excA a C) = some false:=rfl
theorem o_isNX : Ref2 (fun x y H Q=>y = .non∧Q (.bl (decide (x = .non))) H) (aIsNX false):=⟨fun F H ω v u x y Q Q' rp h1 h2 ⟨b,e1,e2,q⟩ k=>by
  cases x with
  | d a =>
    cases e1
    exact o_isN.run F H ω v u (.d a) y Q Q' rp h1 h2 ⟨a,rfl,e2,q⟩ k
  | r v'=>cases e1
  | p v' P =>
    cases v'<;>cases e1
    subst e2
    obtain ⟨rfl,_⟩:=h1
    exact ⟨rv_non h2,k.bl rp q⟩⟩
end L2
namespace L2
open PySem PySem.Spec PySem.Calls PyProof.Rows PySem.W
structure CloX (P : Program) (w : World) (K : PySem.W.Frag) (mg : Str→Option Value) (base : Heap) (H₀ : Hp) (k : Nat) (f : Addr) (n : Nat) (sp : Sp) : Prop where
  fn : ∃ (oc : Value) (od : Option Addr) (fd : FuncData) (sl : Array (Option Value)) (u : HO),H₀ f = some (.frz ⟨oc,od,.func fd,sl⟩ u)
  len : ∀ vs H Q E,sp vs H Q E→vs.length = n
  run : ∀ (A : Around) (outer : List Env) (s : Shared) (H : Hp) (us : List Value) (vs : List V) (Q : VK) (E : XK),Room k A→Env0 P w K mg base A outer s H→Frz H₀ H→Vals vs us→sp vs H Q E →
    codeAny (model P w) A (.call (.ref f) ⟨us,[]⟩) (CR (CXx P w) outer P w H s Q E) s
end L2
namespace L2
open PySem PySem.Spec PySem.Calls PyProof.Rows
structure Ap3 (z u o i j l p q r : Addr) : Prop where
  uz : u≠z
  oz : o≠z
  iz : i≠z
  jz : j≠z
  lz : l≠z
  uo : u≠o
  ui : u≠i
  uj : u≠j
  ul : u≠l
  oi : o≠i
  oj : o≠j
  ol : o≠l
  ij : i≠j
  il : i≠l
  jl : j≠l
  np : ∀ c∈[z,u,o,i,j,l],p≠c
  nq : ∀ c∈[z,u,o,i,j,l],q≠c
  nr : ∀ c∈[z,u,o,i,j,l],r≠c
section
variable {prog : Program} {w : World} {A : Around} {E : Value→Shared→Prop} {S : Shared} {z u o i j l p q r : Addr} {m n : Nat} {xs ys zs : Array Value} {x y v a b c : Value} {Ii Ij Il : Nat→Heap→Prop} {Sp Sq Sr : Heap→Prop}
end
section
variable {c1 c2 c3 : String} {S1 S2 S3 : PySem.W.Frag→Hp→Addr→List V→Prop} {I1 I2 I3 : Heap→Addr→Addr→Nat→Prop} {Is1 Is2 Is3 : Heap→Addr→Array Value→Prop}
end
section
variable {K : PySem.W.Frag} {sa : TA} {sa' : AA}
end
def frzAs (ω : Om) : List AV→(List D→Om→Prop)→Prop
  | [],K=>K [] ω
  | x :: r,K=>frzA ω x fun d ω1=>frzAs ω1 r fun ds ω2=>K (d :: ds) ω2
theorem frzs_of {F : Fs} {H : Hp} : ∀ {xs : List AV} {vs : List V} {ω : Om} {K : List D→Om→Prop},Rep F H ω→RVs (cut F H ω) xs vs→frzAs ω xs K→∃ ds ω',Rep F H ω'∧Fr F H ω H ω'∧RVs (cut F H ω') (ds.map AV.d) vs∧K ds ω'
  | [],vs,ω,K,rp,rv,h=>⟨[],ω,rp,.refl,rv,h⟩
  | x :: r,vs,ω,K,rp,rv,h=>by
    obtain ⟨v,us,rfl,h1,h2⟩:=rv
    obtain ⟨d,ω1,rp1,fr1,hd,q⟩:=frz_of rp h1 h
    obtain ⟨ds,ω2,rp2,fr2,hs,q⟩:=frzs_of rp1 (h2.same fr1.same) q
    exact ⟨d :: ds,ω2,rp2,fr1.trans fr2,⟨v,us,rfl,hd.same fr2.same,hs⟩,q⟩
def aVarFF (i : Nat) : AE:=fun ρ ω Q=>∃ l xs,ρ[i]? = some (some (.r (.ref l)))∧ω l = some (.own xs)∧frzAs ω xs fun ds ω1=>ω1 l = some (.own xs)∧Q (.d (.lst ds)) (ω1.put l (.frz ds))
theorem e_varFF {i : Nat} : RefE (tVar i) (aVarFF i):=⟨fun F H ω σ ρ Q Q' rp rs h k=>by
  obtain ⟨l,xs,e,hl,q⟩:=h
  obtain ⟨v,e1,e2⟩:=rs.2 i _ e
  cases (show v = .ref l from e2)
  obtain ⟨vs,hv,rv⟩:=rp.own l xs hl
  obtain ⟨ds,ω1,rp1,fr1,hs,hl1,q⟩:=frzs_of rp rv q
  obtain ⟨rp2,fr2⟩:=rp1.write hl1 hs
  have eu : upd H l (.lst vs) = H:=by
    funext b
    by_cases hb : b = l
    · subst hb;rw [upd_same,hv]
    · rw [upd_ne hb]
  rw [eu] at rp2 fr2
  obtain ⟨rp3,fr3,hd⟩:=rp2.freeze Om.put_same
  rw [Om.put_put] at rp3 fr3 hd
  exact ⟨_,e1,k (.d (.lst ds)) _ _ H rp3 ((fr1.trans fr2).trans fr3) hd q⟩⟩
end L2
namespace L2
open PySem PySem.Spec PyProof.Rows
inductive O where
  | d (x : D) | box (b : Bool) | tup (os : List O)
def Om.del (ω : Om) (l : Addr) : Om:=fun b=>if b = l then none else ω b
section
variable {F : Fs} {H : Hp} {ω : Om}
end
end L2
namespace L2
open PySem PySem.Spec PyProof.Rows AutoSeq1
section
variable {A : Around} {s : Shared}
end
section
variable {prog : Program} {w : World} {A : Around} {E : Value→Shared→Prop} {s : Shared}
end
section
variable {prog : Program} {w : World} {A : Around} {E : Value→Shared→Prop} {s : Shared}
end
end L2
namespace L2
open PySem PySem.Spec PyProof PyProof.Rows PySem.SeqAt
open AutoSeq1 (wpAny_loadPart')
section
variable {prog : Program} {w : World} {A : Around} {E : Value→Shared→Prop} {s : Shared}
end
section
variable {X : Cx} {e st : Expr} {te ts : TE} {pos p2 : Pos}
end
mutual
def ltD : D→D→Bool
  | .int a,.int b=>decide (a < b)
  | .str a,.str b=>decide (a.cps.toList < b.cps.toList)
  | .tup xs,.tup ys=>ltDs xs ys
  | _,_=>false
def ltDs : List D→List D→Bool
  | [],[]=>false
  | [],_ :: _=>true
  | _ :: _,[]=>false
  | x :: xs,y :: ys=>if eqD x y then ltDs xs ys else ltD x y
end
mutual
def cmD : D→D→Bool
  | .int _,.int _=>true
  | .str _,.str _=>true
  | .tup xs,.tup ys=>cmDs xs ys
  | _,_=>false
def cmDs : List D→List D→Bool
  | x :: xs,y :: ys=>if eqD x y then cmDs xs ys else cmD x y
  | _,_=>true
end
section
variable {X : Cx} {pins : List (Addr × Obj)} {σ : St} {H : Hp} {s : Shared}
end
section
variable {X : Cx} {pins : List (Addr × Obj)} {σ : St} {H : Hp} {s : Shared} {A : Around} {E : Value→Shared→Prop} {Q : Value→Shared→Prop} {b : Bool}
end
end L2
namespace L2
open PySem PySem.Spec PyProof PyProof.Rows PySem.SeqAt
end L2
namespace L2
open PySem PySem.Spec PySem.Calls PyProof PyProof.Rows PySem.SeqAt
section
variable {prog : Program} {w : World} {A : Around} {E : Value→Shared→Prop} {s : Shared}
def KeepH (h0 h : Heap) : Prop:=∀ x o,h0.get? x = some o→h.get? x = some o
structure SrtH (prog : Program) (w : World) (A : Around) (h0 : Heap) (s : Shared) (vs : List Value) (c : Nat→Nat→Bool) (b : Bool) : Prop where
  kind : ∀ h,KeepH h0 h→∃ fs T,PySem.W.KatTups h vs fs∧fs.length = vs.length∧(∀ v∈fs,PySem.W.Looks (model prog w) h (typeOf v) T)∧(T == T) = true∧(T != Value.type "tuple") = b
  ask : ∀ h,KeepH h0 h→∀ i j,i < vs.length→j < vs.length→∀ (C : Bool→Shared→Prop) (E : Value→Shared→Prop),C (c i j) { s with heap:=h }→wpAny (model prog w) A (keyLt' (tuples' b) (vs.getD i Value.none) (vs.getD j Value.none)) C E { s with heap:=h }
end
section
variable {X : Cx} {pins : List (Addr × Obj)} {σ : St} {H : Hp} {s : Shared} {A : Around}
def RowK (k : Bool) (d : D) : Prop:=∃ r,(k = true∧∃ z,d = .tup (.str z :: r))∨(k = false∧∃ i,d = .tup (.int i :: r))
end
section
variable {X : Cx} {pins : List (Addr × Obj)} {σ : St} {H : Hp} {s : Shared} {A : Around}
end
structure Srt (W : List D) (key : D→List Int) (k : Bool) : Prop where
  row : ∀ d∈W,RowK k d
  cmp : ∀ d∈W,∀ e∈W,cmD d e = true
  lt : ∀ d∈W,∀ e∈W,ltD d e = lexL (key d) (key e)
end L2
namespace L2
open PySem PySem.Spec PyProof PyProof.Rows PySem.SeqAt
def aRevO (te : AE) : AE:=fun ρ ω Q=>te ρ ω fun x ω1=>∃ ds,datA ω1 x = some (.lst ds)∧∀ l,ω1 l = none→Q (.r (.ref l)) (ω1.put l (.own (ds.reverse.map AV.d)))
theorem e_revO {K : PySem.W.Frag} {te : TE} {te' : AE} (he : RefE te te') : RefE (tRev K te (tUn (rU fun i=>.int (-i)) (tC (.int 1)))) (aRevO te'):=⟨fun F H ω σ ρ Q Q' rp rs w k =>
  he.go rp rs w fun x ω1 v H1 rp1 fr1 rs1 rv1 ⟨ds,e,q⟩=>⟨1,rfl,rfl,by
    obtain ⟨a,vs,rfl,z1,z2⟩:=dats_of rp1 rv1 e
    exact ⟨a,vs,rfl,.inl (.inl z1),(k.fr fr1).own rp1 (RVs.dats.mpr z2.rev) q⟩⟩⟩
section
variable {K : PySem.W.Frag} {x qual : Str} {st : Stmt} {f : Addr} {fd : FuncData}
theorem Fun.binds1 {p0 : Str} (F : Fun K x qual st f fd) (h : ∀ (kV doc pm : Value) (an : Option Addr) (cdv ct : Value) (u0 : Value),bindArgs (PySem.W.fnOf x qual (defArgs st) (defBody st) (defScope st) .none kV doc pm an cdv ct) ⟨[u0],[]⟩ = pure ([p0].zip [u0])) : Binds K fd [p0] [] :=
  F.binds fun a b c d e g us hl=>match us,hl with | [u0],_=>h a b c d e g u0
theorem Fun.binds2 {p0 p1 : Str} (F : Fun K x qual st f fd) (h : ∀ (kV doc pm : Value) (an : Option Addr) (cdv ct : Value) (u0 u1 : Value),bindArgs (PySem.W.fnOf x qual (defArgs st) (defBody st) (defScope st) .none kV doc pm an cdv ct) ⟨[u0,u1],[]⟩ = pure ([p0,p1].zip [u0,u1])) : Binds K fd [p0,p1] [] :=
  F.binds fun a b c d e g us hl=>match us,hl with | [u0,u1],_=>h a b c d e g u0 u1
theorem Fun.binds3 {p0 p1 p2 : Str} (F : Fun K x qual st f fd) (h : ∀ (kV doc pm : Value) (an : Option Addr) (cdv ct : Value) (u0 u1 u2 : Value),bindArgs (PySem.W.fnOf x qual (defArgs st) (defBody st) (defScope st) .none kV doc pm an cdv ct) ⟨[u0,u1,u2],[]⟩ = pure ([p0,p1,p2].zip [u0,u1,u2])) : Binds K fd [p0,p1,p2] [] :=
  F.binds fun a b c d e g us hl=>match us,hl with | [u0,u1,u2],_=>h a b c d e g u0 u1 u2
theorem Fun.binds4 {p0 p1 p2 p3 : Str} (F : Fun K x qual st f fd) (h : ∀ (kV doc pm : Value) (an : Option Addr) (cdv ct : Value) (u0 u1 u2 u3 : Value),bindArgs (PySem.W.fnOf x qual (defArgs st) (defBody st) (defScope st) .none kV doc pm an cdv ct) ⟨[u0,u1,u2,u3],[]⟩ = pure ([p0,p1,p2,p3].zip [u0,u1,u2,u3])) : Binds K fd [p0,p1,p2,p3] [] :=
  F.binds fun a b c d e g us hl=>match us,hl with | [u0,u1,u2,u3],_=>h a b c d e g u0 u1 u2 u3
end
end L2
namespace L2
open PySem PySem.Spec PyProof.Rows
section
variable {X : Cx}
end
end L2
set_option maxHeartbeats 4000000
namespace My
open PySem PySem.Spec L2
def top (i : Nat) : Stmt:=PySem.Challenge.pw_unlikeplace_k23_talks_not_let_by.main.body.getD i (.Pass ⟨0,0,0,0⟩)
abbrev s_went_on : Stmt:=top 1
abbrev s_ends_of : Stmt:=top 2
abbrev s_has_pairs : Stmt:=top 3
abbrev s_kept_upward : Stmt:=top 4
abbrev s_cut : Stmt:=top 5
abbrev s_upward : Stmt:=top 17
abbrev s_pairs_in : Stmt:=top 19
abbrev s_spoken : Stmt:=top 21
abbrev s_parts_pair : Stmt:=top 22
abbrev s_fault : Stmt:=top 23
abbrev s_lets_by : Stmt:=top 24
abbrev s_saying_of : Stmt:=top 27
abbrev s_l_started : Stmt:=top 29
abbrev s_l_pull : Stmt:=top 30
abbrev s_l_list : Stmt:=top 31
abbrev s_l_two_sorts : Stmt:=top 32
abbrev s_l_parts_all : Stmt:=top 33
abbrev s_l_by_places : Stmt:=top 34
abbrev s_l_bent : Stmt:=top 35
abbrev s_l_ended : Stmt:=top 36
abbrev s_l_good : Stmt:=top 37
abbrev s_l_one_at : Stmt:=top 38
abbrev s_l_told : Stmt:=top 39
abbrev s_l_right : Stmt:=top 40
abbrev s_law : Stmt:=top 41
theorem sc_went_on : FnScope ["turn","yes","no","own","silent","loud"] ["turn","yes","no"] (defScope s_went_on):=⟨rfl,rfl,rfl,by decide +kernel,rfl,by decide +kernel,by decide +kernel⟩
theorem sc_ends_of : FnScope ["case","talk","ends","waiting","bits","part","yes","no","at_first","at_second"] ["case","talk"] (defScope s_ends_of):=⟨rfl,rfl,rfl,by decide +kernel,rfl,by decide +kernel,by decide +kernel⟩
theorem sc_has_pairs : FnScope ["words"] ["words"] (defScope s_has_pairs):=⟨rfl,rfl,rfl,by decide +kernel,rfl,by decide +kernel,by decide +kernel⟩
theorem sc_kept_upward : FnScope ["case","talk","downward","waiting","part","yes","no","at_first","at_second"] ["case","talk"] (defScope s_kept_upward):=⟨rfl,rfl,rfl,by decide +kernel,rfl,by decide +kernel,by decide +kernel⟩
theorem sc_cut : FnScope ["case","talk","done","part","second","first"] ["case","talk"] (defScope s_cut):=⟨rfl,rfl,rfl,by decide +kernel,rfl,by decide +kernel,by decide +kernel⟩
theorem sc_upward : FnScope ["tree","leaf","waiting","downward","part"] ["tree","leaf"] (defScope s_upward):=⟨rfl,rfl,rfl,by decide +kernel,rfl,by decide +kernel,by decide +kernel⟩
theorem sc_pairs_in : FnScope ["case"] ["case"] (defScope s_pairs_in):=⟨rfl,rfl,rfl,by decide +kernel,rfl,by decide +kernel,by decide +kernel⟩
theorem sc_spoken : FnScope ["talk","yes","no","bits","part","own","bit"] ["talk","yes","no"] (defScope s_spoken):=⟨rfl,rfl,rfl,by decide +kernel,rfl,by decide +kernel,by decide +kernel⟩
theorem sc_parts_pair : FnScope ["rule","place","yes","no"] ["rule","place","yes","no"] (defScope s_parts_pair):=⟨rfl,rfl,rfl,by decide +kernel,rfl,by decide +kernel,by decide +kernel⟩
theorem sc_fault : FnScope ["case","rule","talk","yes","no","place"] ["case","rule","talk"] (defScope s_fault):=⟨rfl,rfl,rfl,by decide +kernel,rfl,by decide +kernel,by decide +kernel⟩
theorem sc_lets_by : FnScope ["case","rule","talk"] ["case","rule","talk"] (defScope s_lets_by):=⟨rfl,rfl,rfl,by decide +kernel,rfl,by decide +kernel,by decide +kernel⟩
theorem sc_saying_of : FnScope ["case","talk","kept","leaves","waiting","done","part","other","one"] ["case","talk"] (defScope s_saying_of):=⟨rfl,rfl,rfl,by decide +kernel,rfl,by decide +kernel,by decide +kernel⟩
theorem sc_l_started : FnScope ["_law_script"] ["_law_script"] (defScope s_l_started):=⟨rfl,rfl,rfl,by decide +kernel,rfl,by decide +kernel,by decide +kernel⟩
theorem sc_l_pull : FnScope ["_law_start","_law_below","_law_pulled","_law_spot","_law_script","_law_number"] ["_law_start","_law_below"] (defScope s_l_pull):=⟨rfl,rfl,rfl,by decide +kernel,rfl,by decide +kernel,by decide +kernel⟩
theorem sc_l_list : FnScope ["_law_places","_law_words","_law_k"] ["_law_places"] (defScope s_l_list):=⟨rfl,rfl,rfl,by decide +kernel,rfl,by decide +kernel,by decide +kernel⟩
theorem sc_l_two_sorts : FnScope ["_law_start","_law_places","_law_left","_law_sorts","_law_word","_law_k"] ["_law_start","_law_places"] (defScope s_l_two_sorts):=⟨rfl,rfl,rfl,by decide +kernel,rfl,by decide +kernel,by decide +kernel⟩
theorem sc_l_parts_all : FnScope ["_law_at","_law_yes","_law_no","_law_bits"] ["_law_at","_law_yes","_law_no"] (defScope s_l_parts_all):=⟨rfl,rfl,rfl,by decide +kernel,rfl,by decide +kernel,by decide +kernel⟩
theorem sc_l_by_places : FnScope ["_law_start","_law_places","_law_yes","_law_no","_law_ends","_law_ways","_law_hand","_law_words","_law_at","_law_says","_law_both","_law_told_here"] ["_law_start","_law_places","_law_yes","_law_no"] (defScope s_l_by_places):=⟨rfl,rfl,rfl,by decide +kernel,rfl,by decide +kernel,by decide +kernel⟩
theorem sc_l_bent : FnScope ["_law_start","_law_places","_law_talk","_law_hand","_law_says","_law_first","_law_second","_law_way","_law_word","_law_more"] ["_law_start","_law_places","_law_talk"] (defScope s_l_bent):=⟨rfl,rfl,rfl,by decide +kernel,rfl,by decide +kernel,by decide +kernel⟩
theorem sc_l_ended : FnScope ["_law_talk","_law_yes","_law_no","_law_own"] ["_law_talk","_law_yes","_law_no"] (defScope s_l_ended):=⟨rfl,rfl,rfl,by decide +kernel,rfl,by decide +kernel,by decide +kernel⟩
theorem sc_l_good : FnScope ["_law_case","_law_talk","_law_one","_law_other","_law_at"] ["_law_case","_law_talk"] (defScope s_l_good):=⟨rfl,rfl,rfl,by decide +kernel,rfl,by decide +kernel,by decide +kernel⟩
theorem sc_l_one_at : FnScope ["_law_saying","_law_word"] ["_law_saying","_law_word"] (defScope s_l_one_at):=⟨rfl,rfl,rfl,by decide +kernel,rfl,by decide +kernel,by decide +kernel⟩
theorem sc_l_told : FnScope ["_law_case","_law_talk","_law_caught","_law_found","e"] ["_law_case","_law_talk"] (defScope s_l_told):=⟨rfl,rfl,rfl,by decide +kernel,rfl,by decide +kernel,by decide +kernel⟩
theorem sc_l_right : FnScope ["_law_case","_law_talk","_law_word","_law_saying"] ["_law_case","_law_talk"] (defScope s_l_right):=⟨rfl,rfl,rfl,by decide +kernel,rfl,by decide +kernel,by decide +kernel⟩
theorem sc_law : FnScope ["_law_script","_law_start","_law_places","_law_yes","_law_no","_law_case","_law_talk","_law_k","_law_bent_here","_law_at"] ["_law_script"] (defScope s_law):=⟨rfl,rfl,rfl,by decide +kernel,rfl,by decide +kernel,by decide +kernel⟩
set_option genInjectivity false in
structure Adr where
  a_went_on : Addr
  d_went_on : FuncData
  a_ends_of : Addr
  d_ends_of : FuncData
  a_has_pairs : Addr
  d_has_pairs : FuncData
  a_kept_upward : Addr
  d_kept_upward : FuncData
  a_cut : Addr
  d_cut : FuncData
  a_upward : Addr
  d_upward : FuncData
  a_pairs_in : Addr
  d_pairs_in : FuncData
  a_spoken : Addr
  d_spoken : FuncData
  a_parts_pair : Addr
  d_parts_pair : FuncData
  a_fault : Addr
  d_fault : FuncData
  a_lets_by : Addr
  d_lets_by : FuncData
  a_saying_of : Addr
  d_saying_of : FuncData
  a_l_started : Addr
  d_l_started : FuncData
  a_l_pull : Addr
  d_l_pull : FuncData
  a_l_list : Addr
  d_l_list : FuncData
  a_l_two_sorts : Addr
  d_l_two_sorts : FuncData
  a_l_parts_all : Addr
  d_l_parts_all : FuncData
  a_l_by_places : Addr
  d_l_by_places : FuncData
  a_l_bent : Addr
  d_l_bent : FuncData
  a_l_ended : Addr
  d_l_ended : FuncData
  a_l_good : Addr
  d_l_good : FuncData
  a_l_one_at : Addr
  d_l_one_at : FuncData
  a_l_told : Addr
  d_l_told : FuncData
  a_l_right : Addr
  d_l_right : FuncData
  a_law : Addr
  d_law : FuncData
  wo : World
  a_JOIN_OF_HAND : Addr
  a_TalkError : Addr
  a_NoCase : Addr
  a_NoSaying : Addr
  a_NoTalk : Addr
  a_NoRise : Addr
  a_TooMany : Addr
  a_NoRow : Addr
  a_NoWord : Addr
  a_NoText : Addr
structure Txt (K : PySem.W.Frag) (mg : Str→Option Value) (t : Adr) : Prop where
  m_went_on : mg "went_on" = some (.ref t.a_went_on)
  f_went_on : Fun K "went_on" "went_on" s_went_on t.a_went_on t.d_went_on
  k_went_on : PySem.W.keepIn K (.ref t.a_went_on) = true
  p_went_on : Binds K t.d_went_on ["turn","yes","no"] []
  m_ends_of : mg "ends_of" = some (.ref t.a_ends_of)
  f_ends_of : Fun K "ends_of" "ends_of" s_ends_of t.a_ends_of t.d_ends_of
  k_ends_of : PySem.W.keepIn K (.ref t.a_ends_of) = true
  p_ends_of : Binds K t.d_ends_of ["case","talk"] []
  m_has_pairs : mg "has_pairs" = some (.ref t.a_has_pairs)
  f_has_pairs : Fun K "has_pairs" "has_pairs" s_has_pairs t.a_has_pairs t.d_has_pairs
  k_has_pairs : PySem.W.keepIn K (.ref t.a_has_pairs) = true
  p_has_pairs : Binds K t.d_has_pairs ["words"] []
  m_kept_upward : mg "kept_upward" = some (.ref t.a_kept_upward)
  f_kept_upward : Fun K "kept_upward" "kept_upward" s_kept_upward t.a_kept_upward t.d_kept_upward
  k_kept_upward : PySem.W.keepIn K (.ref t.a_kept_upward) = true
  p_kept_upward : Binds K t.d_kept_upward ["case","talk"] []
  m_cut : mg "cut" = some (.ref t.a_cut)
  f_cut : Fun K "cut" "cut" s_cut t.a_cut t.d_cut
  k_cut : PySem.W.keepIn K (.ref t.a_cut) = true
  p_cut : Binds K t.d_cut ["case","talk"] []
  m_upward : mg "upward" = some (.ref t.a_upward)
  f_upward : Fun K "upward" "upward" s_upward t.a_upward t.d_upward
  k_upward : PySem.W.keepIn K (.ref t.a_upward) = true
  p_upward : Binds K t.d_upward ["tree","leaf"] []
  m_pairs_in : mg "pairs_in" = some (.ref t.a_pairs_in)
  f_pairs_in : Fun K "pairs_in" "pairs_in" s_pairs_in t.a_pairs_in t.d_pairs_in
  k_pairs_in : PySem.W.keepIn K (.ref t.a_pairs_in) = true
  p_pairs_in : Binds K t.d_pairs_in ["case"] []
  m_spoken : mg "spoken" = some (.ref t.a_spoken)
  f_spoken : Fun K "spoken" "spoken" s_spoken t.a_spoken t.d_spoken
  k_spoken : PySem.W.keepIn K (.ref t.a_spoken) = true
  p_spoken : Binds K t.d_spoken ["talk","yes","no"] []
  m_parts_pair : mg "parts_pair" = some (.ref t.a_parts_pair)
  f_parts_pair : Fun K "parts_pair" "parts_pair" s_parts_pair t.a_parts_pair t.d_parts_pair
  k_parts_pair : PySem.W.keepIn K (.ref t.a_parts_pair) = true
  p_parts_pair : Binds K t.d_parts_pair ["rule","place","yes","no"] []
  m_fault : mg "fault" = some (.ref t.a_fault)
  f_fault : Fun K "fault" "fault" s_fault t.a_fault t.d_fault
  k_fault : PySem.W.keepIn K (.ref t.a_fault) = true
  p_fault : Binds K t.d_fault ["case","rule","talk"] []
  m_lets_by : mg "lets_by" = some (.ref t.a_lets_by)
  f_lets_by : Fun K "lets_by" "lets_by" s_lets_by t.a_lets_by t.d_lets_by
  k_lets_by : PySem.W.keepIn K (.ref t.a_lets_by) = true
  p_lets_by : Binds K t.d_lets_by ["case","rule","talk"] []
  m_saying_of : mg "saying_of" = some (.ref t.a_saying_of)
  f_saying_of : Fun K "saying_of" "saying_of" s_saying_of t.a_saying_of t.d_saying_of
  k_saying_of : PySem.W.keepIn K (.ref t.a_saying_of) = true
  p_saying_of : Binds K t.d_saying_of ["case","talk"] []
  m_l_started : mg "_law_started" = some (.ref t.a_l_started)
  f_l_started : Fun K "_law_started" "_law_started" s_l_started t.a_l_started t.d_l_started
  k_l_started : PySem.W.keepIn K (.ref t.a_l_started) = true
  p_l_started : Binds K t.d_l_started ["_law_script"] []
  m_l_pull : mg "_law_pull" = some (.ref t.a_l_pull)
  f_l_pull : Fun K "_law_pull" "_law_pull" s_l_pull t.a_l_pull t.d_l_pull
  k_l_pull : PySem.W.keepIn K (.ref t.a_l_pull) = true
  p_l_pull : Binds K t.d_l_pull ["_law_start","_law_below"] []
  m_l_list : mg "_law_list" = some (.ref t.a_l_list)
  f_l_list : Fun K "_law_list" "_law_list" s_l_list t.a_l_list t.d_l_list
  k_l_list : PySem.W.keepIn K (.ref t.a_l_list) = true
  p_l_list : Binds K t.d_l_list ["_law_places"] []
  m_l_two_sorts : mg "_law_two_sorts" = some (.ref t.a_l_two_sorts)
  f_l_two_sorts : Fun K "_law_two_sorts" "_law_two_sorts" s_l_two_sorts t.a_l_two_sorts t.d_l_two_sorts
  k_l_two_sorts : PySem.W.keepIn K (.ref t.a_l_two_sorts) = true
  p_l_two_sorts : Binds K t.d_l_two_sorts ["_law_start","_law_places"] []
  m_l_parts_all : mg "_law_parts_all" = some (.ref t.a_l_parts_all)
  f_l_parts_all : Fun K "_law_parts_all" "_law_parts_all" s_l_parts_all t.a_l_parts_all t.d_l_parts_all
  k_l_parts_all : PySem.W.keepIn K (.ref t.a_l_parts_all) = true
  p_l_parts_all : Binds K t.d_l_parts_all ["_law_at","_law_yes","_law_no"] []
  m_l_by_places : mg "_law_by_places" = some (.ref t.a_l_by_places)
  f_l_by_places : Fun K "_law_by_places" "_law_by_places" s_l_by_places t.a_l_by_places t.d_l_by_places
  k_l_by_places : PySem.W.keepIn K (.ref t.a_l_by_places) = true
  p_l_by_places : Binds K t.d_l_by_places ["_law_start","_law_places","_law_yes","_law_no"] []
  m_l_bent : mg "_law_bent" = some (.ref t.a_l_bent)
  f_l_bent : Fun K "_law_bent" "_law_bent" s_l_bent t.a_l_bent t.d_l_bent
  k_l_bent : PySem.W.keepIn K (.ref t.a_l_bent) = true
  p_l_bent : Binds K t.d_l_bent ["_law_start","_law_places","_law_talk"] []
  m_l_ended : mg "_law_ended" = some (.ref t.a_l_ended)
  f_l_ended : Fun K "_law_ended" "_law_ended" s_l_ended t.a_l_ended t.d_l_ended
  k_l_ended : PySem.W.keepIn K (.ref t.a_l_ended) = true
  p_l_ended : Binds K t.d_l_ended ["_law_talk","_law_yes","_law_no"] []
  m_l_good : mg "_law_good" = some (.ref t.a_l_good)
  f_l_good : Fun K "_law_good" "_law_good" s_l_good t.a_l_good t.d_l_good
  k_l_good : PySem.W.keepIn K (.ref t.a_l_good) = true
  p_l_good : Binds K t.d_l_good ["_law_case","_law_talk"] []
  m_l_one_at : mg "_law_one_at" = some (.ref t.a_l_one_at)
  f_l_one_at : Fun K "_law_one_at" "_law_one_at" s_l_one_at t.a_l_one_at t.d_l_one_at
  k_l_one_at : PySem.W.keepIn K (.ref t.a_l_one_at) = true
  p_l_one_at : Binds K t.d_l_one_at ["_law_saying","_law_word"] []
  m_l_told : mg "_law_told" = some (.ref t.a_l_told)
  f_l_told : Fun K "_law_told" "_law_told" s_l_told t.a_l_told t.d_l_told
  k_l_told : PySem.W.keepIn K (.ref t.a_l_told) = true
  p_l_told : Binds K t.d_l_told ["_law_case","_law_talk"] []
  m_l_right : mg "_law_right" = some (.ref t.a_l_right)
  f_l_right : Fun K "_law_right" "_law_right" s_l_right t.a_l_right t.d_l_right
  k_l_right : PySem.W.keepIn K (.ref t.a_l_right) = true
  p_l_right : Binds K t.d_l_right ["_law_case","_law_talk"] []
  m_law : mg "law" = some (.ref t.a_law)
  f_law : Fun K "law" "law" s_law t.a_law t.d_law
  k_law : PySem.W.keepIn K (.ref t.a_law) = true
  p_law : Binds K t.d_law ["_law_script"] []
  bl_law : ∀ (s : Shared) (v : Value),BindsTo s t.d_law ⟨[v],[]⟩ [("_law_script",v)]
  b_ValueError : mg "ValueError" = none
  b_abs : mg "abs" = none
  b_all : mg "all" = none
  b_any : mg "any" = none
  b_int : mg "int" = none
  b_isinstance : mg "isinstance" = none
  b_len : mg "len" = none
  b_list : mg "list" = none
  b_range : mg "range" = none
  b_set : mg "set" = none
  b_sorted : mg "sorted" = none
  b_tuple : mg "tuple" = none
  c_JOIN_OF_HAND : mg "JOIN_OF_HAND" = some (.ref t.a_JOIN_OF_HAND)
  s_JOIN_OF_HAND : StD t.wo K t.a_JOIN_OF_HAND [("yes",V.str "or"),("no",V.str "and")]
  c_TalkError : mg "TalkError" = some (.ref t.a_TalkError)
  c_NoCase : mg "NoCase" = some (.ref t.a_NoCase)
  c_NoSaying : mg "NoSaying" = some (.ref t.a_NoSaying)
  c_NoTalk : mg "NoTalk" = some (.ref t.a_NoTalk)
  c_NoRise : mg "NoRise" = some (.ref t.a_NoRise)
  c_TooMany : mg "TooMany" = some (.ref t.a_TooMany)
  c_NoRow : mg "NoRow" = some (.ref t.a_NoRow)
  c_NoWord : mg "NoWord" = some (.ref t.a_NoWord)
  c_NoText : mg "NoText" = some (.ref t.a_NoText)
  x_NoTalk : excOk K t.a_NoTalk = true
  q_NoTalk_NoCase : PySem.W.kitOne K (.ref t.a_NoTalk) (.ref t.a_NoCase) = some false
  q_NoTalk_NoSaying : PySem.W.kitOne K (.ref t.a_NoTalk) (.ref t.a_NoSaying) = some false
  q_NoTalk_NoRise : PySem.W.kitOne K (.ref t.a_NoTalk) (.ref t.a_NoRise) = some false
  q_NoTalk_TooMany : PySem.W.kitOne K (.ref t.a_NoTalk) (.ref t.a_TooMany) = some false
  q_NoTalk_NoText : PySem.W.kitOne K (.ref t.a_NoTalk) (.ref t.a_NoText) = some false
  q_NoTalk_NoRow : PySem.W.kitOne K (.ref t.a_NoTalk) (.ref t.a_NoRow) = some false
  q_NoTalk_NoWord : PySem.W.kitOne K (.ref t.a_NoTalk) (.ref t.a_NoWord) = some false
  q_NoTalk_NoTalk : PySem.W.kitOne K (.ref t.a_NoTalk) (.ref t.a_NoTalk) = some true
  q_NoTalk_ValueError : PySem.W.kitOne K (.ref t.a_NoTalk) (.type "ValueError") = some true
  r_NoTalk_TalkError : PySem.W.exmOne K (.ref t.a_NoTalk) (.ref t.a_TalkError) = some true
  n_NoCase : PySem.W.kitOne K (.type "NoneType") (.ref t.a_NoCase) = some false
  n_NoSaying : PySem.W.kitOne K (.type "NoneType") (.ref t.a_NoSaying) = some false
  n_NoRise : PySem.W.kitOne K (.type "NoneType") (.ref t.a_NoRise) = some false
  n_TooMany : PySem.W.kitOne K (.type "NoneType") (.ref t.a_TooMany) = some false
  n_NoText : PySem.W.kitOne K (.type "NoneType") (.ref t.a_NoText) = some false
  n_NoRow : PySem.W.kitOne K (.type "NoneType") (.ref t.a_NoRow) = some false
  n_NoWord : PySem.W.kitOne K (.type "NoneType") (.ref t.a_NoWord) = some false
  n_NoTalk : PySem.W.kitOne K (.type "NoneType") (.ref t.a_NoTalk) = some false
  n_ValueError : PySem.W.kitOne K (.type "NoneType") (.type "ValueError") = some false
local macro_rules | `(tactic| walk_at "ab")=>`(tactic| simp only [aNext_eq,aSeq_eq,aCont_eq,aDrop_eq,aRet_eq,aIfS_eq,aAsg_eq,agName_eq,agNil_eq,agCons_eq,aFor_eq,aNoTest_eq,aLast_eq,aLFor_eq,aVar_eq,aVarF_eq,aC_eq,aOp_eq,aNil_eq,aCons_eq,aTup_eq,aLst_eq,aLstO_eq,aCall_eq,aDGet_eq,aDPut_eq,aDisp_eq,aVals_nil,aVals_cons,aLenSet_eq,aIxS_eq,aLenS_eq,aTest_eq,aAnd_eq,aOr_eq,aNot_eq,aIf_eq,aRaw_eq,aTru_eq,aI0_eq,aI_eq,aEqD_eq,aIn_eq,aIx_eq,aLen_eq,aAll_eq,aF1_eq,aInt_eq,aTupOf_eq,aListOf_eq,aiRng1_eq,agTup_eq,agLst_eq,aRev_eq,aAppend_eq,aPop_eq2,emp_concat,last_concat,dropl_concat,axOf_eq,axIf_eq,axRaise_eq,aTryS_eq,aIsX_eq,aIsXT_eq,aIsNX_eq,nonA_d,nonA_x,aPopAt_eq,aSorted_eq,aIsA_eq,aChain_eq,aOrG_eq,aAndG_eq,aNotG_eq,aiSeq_eq,aComp_eq,aCompO_eq,aCB_eq,aSGet_eq,aAdd_int,sne_0_1,sne_2_1,sne_3_4,sne_3_5,sne_5_4,sne_6_7,tupA_wd,lstA_wd,eqD_wd,dep_wd,aAdd_lst,aMul_int,frzA_d,frzA_r,datA_d,datA_r,lstA_l,lstA_t,lstA_r,tupA_t,tupA_l,tupA_r,truA_b,truA_r,und_cons,und_nil,und_map,lenA_t,lenA_l,lenA_r,seqD_t,seqD_l,aForL_nil,startA,blkA,Om.put_same,Om.put_put,sz1,sz2,sz3,sz4,Int.toNat_natCast,atI_0,atI_1,atI_2,atI_3,eqD_int,eqD_str,eqD_bl,eqD_nn,eqD_tn,dep_int,dep_str,dep_bl,intD_bl,Nat.zero_le,AV.d.injEq,AV.r.injEq,D.int.injEq,D.bl.injEq,D.str.injEq,D.tup.injEq,D.lst.injEq,OC.own.injEq,V.ref.injEq,V.ty.injEq,List.map_cons,List.map_nil,List.cons_append,List.nil_append,List.length_cons,List.length_nil,List.length_map,List.length_append,List.replicate,List.getElem?_cons_zero,List.getElem?_cons_succ,List.set_cons_zero,List.set_cons_succ,Option.some.injEq,Option.map_some,Option.join_some,exists_eq',exists_eq_left',List.cons.injEq,and_true,true_and,and_assoc,exists_and_left,exists_and_right,Nat.sub_self,Nat.reduceAdd,Nat.reduceSub,Nat.reduceLeDiff,Int.reduceLT,Int.reduceAdd,Int.reduceToNat,Nat.reduceLT,decide_eq_true_eq,Bool.not_eq_true,Bool.not_true,Bool.not_false,if_true,if_false,Bool.false_eq_true,reduceCtorEq,false_and,and_false,or_false,false_or,exists_false,beq_iff_eq,ne_eq,Bool.true_eq_false])
local macro_rules | `(tactic| walk_at "a1")=>`(tactic| simp only [aNext_eq,aCont_eq,aDrop_eq,aRet_eq,aIfS_eq,aAsg_eq,agName_eq,agNil_eq,agCons_eq,aFor_eq,aNoTest_eq,aLast_eq,aLFor_eq,aVar_eq,aVarF_eq,aC_eq,aOp_eq,aNil_eq,aCons_eq,aTup_eq,aLst_eq,aLstO_eq,aCall_eq,aDGet_eq,aDPut_eq,aDisp_eq,aVals_nil,aVals_cons,aLenSet_eq,aIxS_eq,aLenS_eq,aTest_eq,aAnd_eq,aOr_eq,aNot_eq,aIf_eq,aRaw_eq,aTru_eq,aI0_eq,aI_eq,aEqD_eq,aIn_eq,aIx_eq,aLen_eq,aAll_eq,aF1_eq,aInt_eq,aTupOf_eq,aListOf_eq,aiRng1_eq,agTup_eq,agLst_eq,aRev_eq,aAppend_eq,aPop_eq2,emp_concat,last_concat,dropl_concat,axOf_eq,axIf_eq,axRaise_eq,aTryS_eq,aIsX_eq,aIsXT_eq,aIsNX_eq,nonA_d,nonA_x,aPopAt_eq,aSorted_eq,aIsA_eq,aChain_eq,aOrG_eq,aAndG_eq,aNotG_eq,aiSeq_eq,aComp_eq,aCompO_eq,aCB_eq,aSGet_eq,aAdd_int,sne_0_1,sne_2_1,sne_3_4,sne_3_5,sne_5_4,sne_6_7,tupA_wd,lstA_wd,eqD_wd,dep_wd,aAdd_lst,aMul_int,frzA_d,frzA_r,datA_d,datA_r,lstA_l,lstA_t,lstA_r,tupA_t,tupA_l,tupA_r,truA_b,truA_r,und_cons,und_nil,und_map,lenA_t,lenA_l,lenA_r,seqD_t,seqD_l,aForL_nil,startA,blkA,Om.put_same,Om.put_put,sz1,sz2,sz3,sz4,Int.toNat_natCast,atI_0,atI_1,atI_2,atI_3,eqD_int,eqD_str,eqD_bl,eqD_nn,eqD_tn,dep_int,dep_str,dep_bl,intD_bl,Nat.zero_le,AV.d.injEq,AV.r.injEq,D.int.injEq,D.bl.injEq,D.str.injEq,D.tup.injEq,D.lst.injEq,OC.own.injEq,V.ref.injEq,V.ty.injEq,List.map_cons,List.map_nil,List.cons_append,List.nil_append,List.length_cons,List.length_nil,List.length_map,List.length_append,List.replicate,List.getElem?_cons_zero,List.getElem?_cons_succ,List.set_cons_zero,List.set_cons_succ,Option.some.injEq,Option.map_some,Option.join_some,exists_eq',exists_eq_left',List.cons.injEq,and_true,true_and,and_assoc,exists_and_left,exists_and_right,Nat.sub_self,Nat.reduceAdd,Nat.reduceSub,Nat.reduceLeDiff,Int.reduceLT,Int.reduceAdd,Int.reduceToNat,Nat.reduceLT,decide_eq_true_eq,Bool.not_eq_true,Bool.not_true,Bool.not_false,if_true,if_false,Bool.false_eq_true,reduceCtorEq,false_and,and_false,or_false,false_or,exists_false,beq_iff_eq,ne_eq,Bool.true_eq_false])
local macro_rules | `(tactic| walk_at "s1")=>`(tactic| (try walk_at "a1");(first | rw [aSeq_eq] | rw [axSeq_eq]);walk_at "a1")
section
variable {P : Program} {w : World} {K : PySem.W.Frag} {mg : Str→Option Value} {base : Heap} {t : Adr}
def pdO (K : PySem.W.Frag) (c : Pq) : OC:=.dic [(("script" : Str),scrL K c.a c.ns),(("spot" : Str),.d (.int c.i)),(("heap" : Str),.d (.int c.f))]
def PdAt (K : PySem.W.Frag) (ω : Om) (p : Addr) : Prop:=∃ c,ω p = some (pdO K c)
theorem pdAt_put {K : PySem.W.Frag} {ω : Om} {p : Addr} {c : Pq} : PdAt K (ω.put p (pdO K c)) p:=⟨c,Om.put_same⟩
def sp_pen (K : PySem.W.Frag) : ASp:=fun xs ω Q=>∃ (a : Addr) (ns : List Int),xs = [scrL K a ns]∧ns.length≤63∧∀ p c,ω p = none→Q (.r (.ref p)) (ω.put p (pdO K c))
theorem ok_pen (T : Txt K mg t) : FnOk P w K mg base CX0 1 t.a_l_started t.d_l_started ["_law_script"] (lift (sp_pen K)):=by
  refine T.f_l_started.okA sc_l_started (fun xs ω Q h=>by obtain ⟨a,ns,rfl,_⟩:=h;rfl) (fun cdv A outer s H E hr=>⟨_,_,(pss_one (ps_ret (pe_disp (pps_cons pe_str (pv 0) (pps_cons pe_str pe_int (pps_cons pe_str pe_int pps_nil))) rfl rfl (by simp) (by decide)))),(s_ret (e_disp (RefPs.cons e_var (RefPs.cons e_int (RefPs.cons e_int RefPs.nil))))),fun xs ω Q h=>?_⟩)
  obtain ⟨a,ns,rfl,hn,k⟩:=h
  walk_at "a1"
  exact ⟨by decide +kernel,fun p hp=>k p ⟨a,ns,0,0,Int.le_refl _,Int.le_refl _,hn⟩ hp⟩
theorem PdAt.some {ω : Om} {p : Addr} (h : PdAt K ω p) : (ω p).isSome = true:=by obtain ⟨c,e⟩:=h;rw [e];rfl
theorem PdAt.ne {ω : Om} {p l : Addr} (h : PdAt K ω p) (hl : ω l = none) : p≠l:=fun e=>by subst e;obtain ⟨c,e⟩:=h;rw [e] at hl;cases hl
theorem only_pd {ω : Om} {p : Addr} {c : Pq} (h : PdAt K ω p) : (ω.put p (pdO K c)).only ω = ω.put p (pdO K c):=only_put (Ex.refl _) h.some
abbrev pd3 (a b c : AV) : List (Str × AV):=[(("script" : Str),a),(("spot" : Str),b),(("heap" : Str),c)]
theorem pd_nd {a b c : AV} : ndK (pd3 a b c):=by unfold ndK;show [("script" : Str),"spot","heap"].Nodup;decide +kernel
theorem pd_l {a b c x : AV} : valA (pd3 a b c) "heap" = some c∧putA (pd3 a b c) "heap" x = pd3 a b x:=by
  refine ⟨?_,?_⟩
  · simp only [valA,List.find?_cons,show decide (("script" : Str) = "heap") = false from by decide +kernel,show decide (("spot" : Str) = "heap") = false from by decide +kernel,decide_true];rfl
  · simp only [putA,if_neg (show ¬ ("script" : Str) = "heap" from by decide +kernel),if_neg (show ¬ ("spot" : Str) = "heap" from by decide +kernel),if_true]
theorem pd_a {a b c x : AV} : valA (pd3 a b c) "spot" = some b∧putA (pd3 a b c) "spot" x = pd3 a x c:=by
  refine ⟨?_,?_⟩
  · simp only [valA,List.find?_cons,show decide (("script" : Str) = "spot") = false from by decide +kernel,decide_true];rfl
  · simp only [putA,if_neg (show ¬ ("script" : Str) = "spot" from by decide +kernel),if_true]
theorem pd_s {a b c : AV} : valA (pd3 a b c) "script" = some a:=by
  simp only [valA,List.find?_cons,decide_true];rfl
theorem pd_any {a b c : AV} : ((pd3 a b c).any fun p=>decide (p.1 = ("heap" : Str))) = true∧((pd3 a b c).any fun p=>decide (p.1 = ("spot" : Str))) = true:=by
  simp
def sp_draw (K : PySem.W.Frag) : ASp:=fun xs ω Q=>∃ (p : Addr) (m : Int),xs = [.r (.ref p),.d (.int m)]∧PdAt K ω p∧0 < m∧m < 1073741824∧∀ (r : Int) (c : Pq),0≤r→r < m→Q (.d (.int r)) (ω.put p (pdO K c))
theorem ok_draw (T : Txt K mg t) : FnOk P w K mg base CX0 1 t.a_l_pull t.d_l_pull ["_law_start","_law_below"] (lift (sp_draw K)):=by
  refine T.f_l_pull.okA sc_l_pull (fun xs ω Q h=>by obtain ⟨p,m,rfl,_⟩:=h;rfl) (fun cdv A outer s H E hr=>⟨_,_,(pss_cons (ps_if (pt_cmpR op_gt (pe_dget (hu_of hr) (pv 0) pe_str (fun _ _=>rfl)) pe_int (nomark _)) (pss_cons (ps_set (i:=2) sc_l_pull.nd rfl (Or.inl rfl) (pe_op op_mod (pe_dget (hu_of hr) (pv 0) pe_str (fun _ _=>rfl)) (pv 1)))
      (pss_cons (ps_dput (hu_of hr) (pv 0) pe_str (pe_op op_fdiv (pe_dget (hu_of hr) (pv 0) pe_str (fun _ _=>rfl)) (pv 1)) rfl)
      (pss_one (ps_ret (pv 2))))) pss_nil)
      (pss_cons (ps_set (i:=3) sc_l_pull.nd rfl (Or.inl rfl) (pe_dget (hu_of hr) (pv 0) pe_str (fun _ _=>rfl)))
      (pss_cons (ps_dput (hu_of hr) (pv 0) pe_str (pe_op (op_alt op_add (op_alt op_cat3 op_cat)) (pv 3) pe_int) rfl)
      (pss_cons (ps_set (i:=4) sc_l_pull.nd rfl (Or.inl rfl) (pe_dget (hu_of hr) (pv 0) pe_str (fun _ _=>rfl)))
      (pss_cons (ps_set (i:=5) sc_l_pull.nd rfl (Or.inl rfl) pe_int)
      (pss_cons (ps_if (pt_cmpR op_gt (pe_callB (call_lenK K rfl) (by rfl) T.b_len (by kernel_rfl) (pa_cons (pv 4) pa_nil)) pe_int (nomark _)) (pss_one (ps_set (i:=5) sc_l_pull.nd rfl (Or.inl rfl) (pe_ix (ix_seqK K rfl) (pv 4) (pe_op op_mod (pv 3) (pe_callB (call_lenK K rfl) (by rfl) T.b_len (by kernel_rfl) (pa_cons (pv 4) pa_nil))) (fun _ _=>rfl)))) pss_nil)
      (pss_cons (ps_if (PW.pt (pw_and (pt_cmpR op_lt (pv 3) (pe_callB (call_lenK K rfl) (by rfl) T.b_len (by kernel_rfl) (pa_cons (pv 4) pa_nil)) (nomark _)) (pw_and1 (pt_cmpR op_ge (pe_callB call_abs (by rfl) T.b_abs (by kernel_rfl) (pa_cons (pv 5) pa_nil)) (pe_op op_pow pe_int pe_int) (nomark _))))) (pss_cons (ps_dput (hu_of hr) (pv 0) pe_str (pe_op op_fdiv (pe_callB call_abs (by rfl) T.b_abs (by kernel_rfl) (pa_cons (pv 5) pa_nil)) (pv 1)) rfl)
      (pss_one (ps_ret (pe_op op_mod (pe_callB call_abs (by rfl) T.b_abs (by kernel_rfl) (pa_cons (pv 5) pa_nil)) (pv 1))))) pss_nil)
      (pss_cons (ps_set (i:=5) sc_l_pull.nd rfl (Or.inl rfl) (pe_op op_mod (pe_op (op_alt op_mul op_rep) (pe_op (op_alt op_add (op_alt op_cat3 op_cat)) (pe_op (op_alt op_add (op_alt op_cat3 op_cat)) (pe_op op_mod (pv 5) pe_int) (pe_op (op_alt op_mul op_rep) pe_int (pv 3))) pe_int) pe_int) pe_int))
      (pss_cons (ps_set (i:=5) sc_l_pull.nd rfl (Or.inl rfl) (pe_op op_mod (pe_op (op_alt op_add (op_alt op_cat3 op_cat)) (pe_op (op_alt op_mul op_rep) (pv 5) (pe_op (op_alt op_add (op_alt op_cat3 op_cat)) (pe_op op_mod (pv 5) pe_int) pe_int)) (pv 3)) pe_int))
      (pss_cons (ps_set (i:=5) sc_l_pull.nd rfl (Or.inl rfl) (pe_op op_mod (pe_op (op_alt op_add (op_alt op_cat3 op_cat)) (pe_op (op_alt op_mul op_rep) (pv 5) (pv 5)) (pe_op (op_alt op_mul op_rep) pe_int (pv 5))) pe_int))
      (pss_one (ps_ret (pe_op op_mod (pe_op op_fdiv (pv 5) pe_int) (pv 1)))))))))))))),(s_seq (s_if (t_test (e_op o_I0b (e_dget e_var e_str) e_int)) (s_seq (s_asg (e_op o_Ii (e_dget e_var e_str) e_var) g_name)
      (s_seq (s_dput e_var e_str (e_op o_Ii (e_dget e_var e_str) e_var))
      (s_ret e_var))) s_next)
      (s_seq (s_asg (e_dget e_var e_str) g_name)
      (s_seq (s_dput e_var e_str (e_op o_add e_var e_int))
      (s_seq (s_asg (e_dget e_var e_str) g_name)
      (s_seq (s_asg e_int g_name)
      (s_seq (s_if (t_test (e_op o_I0b (e_cb c_lenS (a_cons e_var a_nil)) e_int)) (s_asg (e_op o_ixS e_var (e_op o_Ii e_var (e_cb c_lenS (a_cons e_var a_nil)))) g_name) s_next)
      (s_seq (s_if (t_and (t_test (e_op o_I0b e_var (e_cb c_lenS (a_cons e_var a_nil)))) (t_test (e_op o_I0b (e_cb c_F1 (a_cons e_var a_nil)) (e_op o_Ii e_int e_int)))) (s_seq (s_dput e_var e_str (e_op o_Ii (e_cb c_F1 (a_cons e_var a_nil)) e_var))
      (s_ret (e_op o_Ii (e_cb c_F1 (a_cons e_var a_nil)) e_var))) s_next)
      (s_seq (s_asg (e_op o_Ii (e_op o_mul (e_op o_add (e_op o_add (e_op o_Ii e_var e_int) (e_op o_mul e_int e_var)) e_int) e_int) e_int) g_name)
      (s_seq (s_asg (e_op o_Ii (e_op o_add (e_op o_mul e_var (e_op o_add (e_op o_Ii e_var e_int) e_int)) e_var) e_int) g_name)
      (s_seq (s_asg (e_op o_Ii (e_op o_add (e_op o_mul e_var e_var) (e_op o_mul e_int e_var)) e_int) g_name)
      (s_ret (e_op o_Ii (e_op o_Ii e_var e_int) e_var)))))))))))),fun xs ω Q h=>?_⟩)
  obtain ⟨p,m,rfl,⟨c,hp⟩,hm,hm2,k⟩:=h
  have fin : ∀ (r : Int) (c : Pq),Q (.d (.int (r % m))) (ω.put p (pdO K c)):=fun r c=>k _ c (Int.emod_nonneg _ (by omega)) (Int.emod_lt_of_pos _ hm)
  unfold pdO at hp
  walk_at "s1"
  refine ⟨_,hp,_,(pd_l (x:=.d .non)).1,_,rfl,ite2 (fun h1=>?_) (fun h1=>?_)⟩
  · walk_at "s1"
    refine ⟨_,hp,_,(pd_l (x:=.d .non)).1,_,rfl,hm,?_⟩
    walk_at "s1"
    refine ⟨_,hp,_,(pd_l (x:=.d .non)).1,_,rfl,⟨hm,hm2⟩,_,hp,pd_nd,pd_any.1,by simp [sizeLine],?_⟩
    rw [pd_l.2]
    exact fin _ ⟨c.a,c.ns,c.i,c.f / m,c.h0,Int.ediv_nonneg c.hf (by omega),c.hn⟩
  · walk_at "s1"
    refine ⟨_,hp,_,(pd_a (x:=.d .non)).1,?_⟩
    walk_at "s1"
    refine ⟨_,hp,pd_nd,pd_any.2,by simp [sizeLine],?_⟩
    rw [pd_a.2]
    walk_at "s1"
    refine ⟨_,rfl,_,pd_s,?_⟩
    walk_at "s1"
    have absn : ∀ z : Int,0≤(if z < 0 then -z else z):=fun z=>by split<;>omega
    refine seq_cut (fun ρ' ω'=>ω' = ω.put p (.dic (pd3 (scrL K c.a c.ns) (.d (.int (c.i + 1))) (.d (.int c.f))))∧∃ x : Int,ρ' = [some (AV.r (V.ref p)),some (AV.d (D.int m)),none,some (AV.d (D.int c.i)),some (scrL K c.a c.ns),some (AV.d (D.int x))]) (fun M kM=>?_) ?_
    · walk_at "a1"
      refine ⟨c.a,c.ns,rfl,ite2 (fun h2=>?_) (fun h2=>kM _ _ ⟨rfl,_,rfl⟩)⟩
      have h2' : 0 < (c.ns.length : Int):=h2
      have hx1 : 0≤c.i % (c.ns.length : Int):=Int.emod_nonneg _ (by omega)
      have hx2 : c.i % (c.ns.length : Int) < (c.ns.length : Int):=Int.emod_lt_of_pos _ h2'
      obtain ⟨y,ey⟩ : ∃ y,atI c.ns (c.i % (c.ns.length : Int)) = some y:=by
        obtain ⟨j,ej⟩:=Int.eq_ofNat_of_zero_le hx1
        rw [ej] at hx2 ⊢
        have hj : j < c.ns.length:=Int.ofNat_lt.mp hx2
        exact ⟨_,atI_nat (List.getElem?_eq_getElem hj)⟩
      exact ⟨c.a,c.ns,rfl,h2',c.a,c.ns,rfl,y,ey,kM _ _ ⟨rfl,_,rfl⟩⟩
    rintro ρ ω' ⟨rfl,x,rfl⟩
    refine seq_cut (fun ρ' ω'=>ω' = ω.put p (.dic (pd3 (scrL K c.a c.ns) (.d (.int (c.i + 1))) (.d (.int c.f))))∧ρ' = [some (AV.r (V.ref p)),some (AV.d (D.int m)),none,some (AV.d (D.int c.i)),some (scrL K c.a c.ns),some (AV.d (D.int x))]) (fun M kM=>?_) ?_
    · walk_at "a1"
      refine ⟨c.a,c.ns,rfl,ite2 (fun h2=>⟨⟨by decide,by decide,by decide⟩,ite2 (fun h3=>?_) (fun h3=>kM _ _ ⟨rfl,rfl⟩)⟩) (fun h2=>kM _ _ ⟨rfl,rfl⟩)⟩
      walk_at "s1"
      refine ⟨⟨hm,hm2⟩,_,rfl,pd_nd,pd_any.1,by simp [sizeLine],hm,?_⟩
      rw [pd_l.2]
      exact fin _ ⟨c.a,c.ns,c.i + 1,(if x < 0 then -x else x) / m,by have:=c.h0;omega,Int.ediv_nonneg (absn x) (by omega),c.hn⟩
    rintro ρ ω' ⟨rfl,rfl⟩
    walk_at "ab"
    exact ⟨cmul_l (by decide),cmul_r (by decide),cmul_mod (by decide) (by decide),cmul_mod (by decide) (by decide),cmul_l (by decide),⟨by decide,by decide⟩,hm,fin _ ⟨c.a,c.ns,c.i + 1,c.f,by have:=c.h0;omega,c.hf,c.hn⟩⟩
def sp_lawA (K : PySem.W.Frag) : ASp:=fun xs ω Q=>∃ (a : Addr) (ns : List Int),xs = [scrL K a ns]∧ns.length≤63∧ω = (fun _=>none)∧∀ ω',Q (.d (.bl true)) ω'
def sp_law (K : PySem.W.Frag) : Sp:=lift (sp_lawA K)
theorem start_law {K : PySem.W.Frag} {H : Hp} {a : Addr} {ns : List Int} (hl : ns.length≤63) (hO : Only H) (hS : SqL K H a (ns.map V.int)) : sp_law K [.ref a] H (fun v _=>v = .bl true) fun _ _ _=>False :=
  ⟨fun _=>false,[scrL K a ns],fun _=>none,fun a _=>a = .d (.bl true),repNone,⟨_,_,rfl,scrL_start hS,rfl⟩,⟨a,ns,rfl,hl,rfl,fun _=>rfl⟩,fun a ω' v H' _ _ rv q=>by subst q;exact rv_bl rv⟩
end
section
variable {P : Program} {w : World} {K : PySem.W.Frag} {mg : Str→Option Value} {base : Heap} {t : Adr}
theorem wl_front : ∀ n : Fin 5,((wl n.val).map fun r=>(0 : Int) :: r) ++ ((wl n.val).map fun r=>(1 : Int) :: r) = wl (n.val + 1):=by decide +kernel
def ldD (w : List Int) : D:=.lst (w.map D.int)
def sp_list : ASp:=fun xs ω Q=>∃ n : Nat,xs = [.d (.int n)]∧n≤5∧∀ p,ω p = none→Q (.r (.ref p)) (ω.put p (.own (((wl n).map wdD).map AV.d)))
theorem ok_list (T : Txt K mg t) : FnOk P w K mg base CX0 1 t.a_l_list t.d_l_list ["_law_places"] (lift sp_list):=by
  refine T.f_l_list.okA sc_l_list (fun xs ω Q h=>by obtain ⟨n,rfl,_⟩:=h;rfl) (fun cdv A outer s H E hr=>⟨_,_,(pss_cons (ps_set (i:=1) sc_l_list.nd rfl (Or.inl rfl) (pe_lst (pa_consL (pe_lst pa_nil) pa_nil)))
      (pss_cons (ps_for PassesOwn.never rfl (pi_range1 rfl T.b_range (pa_cons (pv 0) pa_nil)) (pg_name (i:=2) sc_l_list.nd rfl (Or.inl rfl)) (pss_one (ps_set (i:=1) sc_l_list.nd rfl (Or.inl rfl) (pe_op (op_alt op_add (op_alt op_cat3 op_cat)) (pe_comp (N:=(["_law_word"] : List Str)) (src:=[none]) rfl (by show blkOk _ (defScope s_l_list) _ _ (["_law_places","_law_words","_law_k"] : List Str) = true;decide +kernel) (by intro g' h;cases h) (pi_seq K rfl (pv 1)) (fun _ _ _ _ _ _=>(pg_name (i:=0) (show (["_law_word"] : List Str).Nodup by decide +kernel) rfl (Or.inl rfl))) (fun _ _ _ _ _ _=>pts_nil) (fun _ _ _ _ _ _=>(pl_last rfl rfl (pe_op (op_alt op_add (op_alt op_cat3 op_cat)) (pe_lst (pa_consC pe_int pa_nil)) (pv 0))))) (pe_comp (N:=(["_law_word"] : List Str)) (src:=[none]) rfl (by show blkOk _ (defScope s_l_list) _ _ (["_law_places","_law_words","_law_k"] : List Str) = true;decide +kernel) (by intro g' h;cases h) (pi_seq K rfl (pv 1)) (fun _ _ _ _ _ _=>(pg_name (i:=0) (show (["_law_word"] : List Str).Nodup by decide +kernel) rfl (Or.inl rfl))) (fun _ _ _ _ _ _=>pts_nil) (fun _ _ _ _ _ _=>(pl_last rfl rfl (pe_op (op_alt op_add (op_alt op_cat3 op_cat)) (pe_lst (pa_consC pe_int pa_nil)) (pv 0)))))))))
      (pss_one (ps_ret (pe_comp (N:=(["_law_word"] : List Str)) (src:=[none]) rfl (by show blkOk _ (defScope s_l_list) _ _ (["_law_places","_law_words","_law_k"] : List Str) = true;decide +kernel) (by intro g' h;cases h) (pi_seq K rfl (pv 1)) (fun _ _ _ _ _ _=>(pg_name (i:=0) (show (["_law_word"] : List Str).Nodup by decide +kernel) rfl (Or.inl rfl))) (fun _ _ _ _ _ _=>pts_nil) (fun _ _ _ _ _ _=>(pl_last rfl rfl (pe_callTy (call_tuple_ofK K rfl) (by rfl) T.b_tuple (by kernel_rfl) (pa_cons (pv 0) pa_nil))))))))),(s_seq (s_asg (e_lst (a_cons (e_lst a_nil) a_nil)) g_name)
      (s_seq (s_for (i_rng1 (a_cons e_var a_nil)) g_name (s_asg (e_op o_add (e_comp (i_seq e_var) g_name t_no (l_last (e_op o_add (e_lst (a_cons e_int a_nil)) e_var))) (e_comp (i_seq e_var) g_name t_no (l_last (e_op o_add (e_lst (a_cons e_int a_nil)) e_var)))) g_name))
      (s_ret (e_compO (i_seq e_var) g_name t_no (l_last (e_cb c_tuple (a_cons e_var a_nil))))))),fun xs ω Q h=>?_⟩)
  obtain ⟨n,rfl,hn,k⟩:=h
  walk_at "s1"
  walk_at "s1"
  refine ⟨by omega,by omega,for_rng (fun i ρ ω'=>ω' = ω∧∃ v2,ρ = [some (.d (.int n)),some (.d (.lst ((wl i).map ldD))),v2]) ⟨rfl,_,rfl⟩ ?_ ?_⟩
  · rintro i ρ ω1 N hi ⟨rfl,v2,rfl⟩ kN
    have r2:=wl_le (n:=i) (by omega)
    walk_at "a1"
    have one : ∀ b : Int,∀ {v0 : Option AV} {KK : List AV→SA→Om→Prop},(∀ ρ,KK ((((wl i).map fun r=>b :: r).map ldD).map AV.d) ρ ω1)→aLoop (agName 0) aNoTest (aLast (aOp aAdd (aLst (aCons (aC (D.int b)) aNil)) (aVar 0))) (((wl i).map ldD).map AV.d) [] [v0] ω1 KK:=fun b v0 KK hk=>by
      refine comp_ix (by simp) (Nat.le_of_lt (small1000 (by simp;omega))) (fun j a r h1 h2 Q q=>?_) hk
      simp only [List.map_map,List.getElem?_map,Option.map_eq_some_iff] at h1 h2
      obtain ⟨y,hy,rfl⟩:=h1
      obtain ⟨y',hy',rfl⟩:=h2
      rw [hy] at hy'
      cases hy'
      have:=(wl_mem (List.mem_of_getElem? hy)).1
      simp only [Function.comp_apply,ldD] at q ⊢
      walk_at "a1"
      exact ⟨Nat.le_of_lt (small1000 (by first | omega | (simp;omega))),q⟩
    refine one 0 fun ρ=>⟨_,und_map _,one 1 fun ρ=>⟨_,und_map _,Nat.le_of_lt (small1000 (by simp;omega)),kN _ _ ⟨rfl,some (.d (.int (0 + (i : Nat)))),?_⟩⟩⟩
    rw [← List.map_append,wl_front ⟨i,by omega⟩]
  · rintro ρ ω1 ⟨rfl,v2,rfl⟩
    have r2:=wl_le hn
    walk_at "a1"
    refine comp_ix (rs:=(wl n).map wdD) (by simp) (Nat.le_of_lt (small1000 (by simp;omega))) (fun j a r h1 h2 Q q=>?_) (fun ρ=>k)
    simp only [List.map_map,List.getElem?_map,Option.map_eq_some_iff] at h1 h2
    obtain ⟨y,hy,rfl⟩:=h1
    obtain ⟨y',hy',rfl⟩:=h2
    rw [hy] at hy'
    cases hy'
    simp only [Function.comp_apply,ldD] at q ⊢
    walk_at "a1"
    exact q
theorem dist_one {ns : List Int} (h : dist ns = 1) {a b : Int} (ha : a∈ns) (hb : b∈ns) : a = b:=by
  obtain ⟨c,hc⟩:=List.length_eq_one_iff.mp h
  have key : ∀ x∈ns,x = c:=fun x hx=>by
    obtain ⟨i,hi,rfl⟩:=List.getElem_of_mem hx
    have:=PyProof.Rows.firstMet_any (fun i=>ns.getD i 0) ns.length ns[i]
    rw [hc] at this
    have h2 : ((List.range ns.length).map fun i=>ns.getD i 0).any (· == ns[i]) = true:=by
      rw [List.any_eq_true]
      exact ⟨ns[i],List.mem_map.mpr ⟨i,List.mem_range.mpr hi,by rw [List.getD_eq_getElem?_getD,List.getElem?_eq_getElem hi];rfl⟩,by simp⟩
    rw [h2] at this
    have h3 : c = ns[i]:=by simpa using this
    exact h3.symm
  rw [key a ha,key b hb]
theorem dist_all {ns : List Int} (h0 : ns≠[]) {c : Int} (h : ∀ x∈ns,x = c) : dist ns = 1:=by
  have key : ∀ i,i < ns.length→PyProof.Rows.firstMet (fun i=>ns.getD i 0) (i + 1) = [c]:=fun i=>by
    induction i with
    | zero =>
      intro hi
      rw [PyProof.Rows.firstMet_succ,PyProof.Rows.firstMet_zero]
      show (if ([] : List Int).any (· == ns.getD 0 0) then [] else [] ++ [ns.getD 0 0]) = [c]
      have:=h _ (List.getElem_mem hi)
      simp [List.getElem?_eq_getElem hi,this]
    | succ i ih =>
      intro hi
      rw [PyProof.Rows.firstMet_succ,ih (by omega)]
      show (if [c].any (· == ns.getD (i + 1) 0) then [c] else [c] ++ [ns.getD (i + 1) 0]) = [c]
      have:=h _ (List.getElem_mem hi)
      simp [List.getElem?_eq_getElem hi,this]
  have hp:=List.length_pos_iff.mpr h0
  obtain ⟨m,hm⟩ : ∃ m,ns.length = m + 1:=⟨ns.length - 1,by omega⟩
  unfold dist
  rw [hm,key m (by omega)]
  rfl
def ptA (i : Nat) (ys zs : List (List Int)) : Bool:=(ys.all fun y=>decide (y.getD i 0 = (ys.headD []).getD i 0)) && zs.all fun z=>!decide (z.getD i 0 = (ys.headD []).getD i 0)
def sp_pta : ASp:=fun xs ω Q=>∃ (n i : Nat) (ys zs : List (List Int)),xs = [.d (.int i),.d (.lst (ys.map wdD)),.d (.lst (zs.map wdD))]∧n≤5∧i < n∧Wds n ys∧Wds n zs∧ys≠[]∧Q (.d (.bl (ptA i ys zs))) ω
theorem ok_pta (T : Txt K mg t) : FnOk P w K mg base CX0 1 t.a_l_parts_all t.d_l_parts_all ["_law_at","_law_yes","_law_no"] (lift sp_pta):=by
  refine T.f_l_parts_all.okD sc_l_parts_all (fun xs ω Q h=>by obtain ⟨n,i,ys,zs,rfl,_⟩:=h;rfl) (fun cdv A outer s H E hr=>⟨_,_,(pss_cons (ps_setC (i:=3) sc_l_parts_all.nd rfl (Or.inl rfl) (N:=(["_law_word","_law_at"] : List Str)) (src:=[none,some 0]) rfl (by show blkOk _ (defScope s_l_parts_all) _ _ (["_law_at","_law_yes","_law_no","_law_bits"] : List Str) = true;decide +kernel) (by intro g' h;cases h) (pi_seq K rfl (pv 1)) (fun _ _ _ _ _ _=>(pg_name (i:=0) (show (["_law_word","_law_at"] : List Str).Nodup by decide +kernel) rfl (Or.inl rfl))) (fun _ _ _ _ _ _=>pts_nil) (fun _ _ _ _ _ _=>(pl_last rfl rfl (pe_ix (ix_seqK K rfl) (pv 0) (pv 1) (fun _ _=>rfl)))))
      (pss_one (ps_ret (pe_andG K rfl (pe_cmpR (op_eqD hr.u100) (pe_lenSet K rfl rfl (by rfl) T.b_len (by rfl) T.b_set (pa_cons (pv 3) pa_nil)) pe_int (nomark _)) (pe_one (pe_cmpR (op_notInD hr.u100) (pe_ix (ix_seqK K rfl) (pv 3) pe_int (fun _ _=>rfl)) (pe_comp (N:=(["_law_word","_law_at"] : List Str)) (src:=[none,some 0]) rfl (by show blkOk _ (defScope s_l_parts_all) _ _ (["_law_at","_law_yes","_law_no","_law_bits"] : List Str) = true;decide +kernel) (by intro g' h;cases h) (pi_seq K rfl (pv 2)) (fun _ _ _ _ _ _=>(pg_name (i:=0) (show (["_law_word","_law_at"] : List Str).Nodup by decide +kernel) rfl (Or.inl rfl))) (fun _ _ _ _ _ _=>pts_nil) (fun _ _ _ _ _ _=>(pl_last rfl rfl (pe_ix (ix_seqK K rfl) (pv 0) (pv 1) (fun _ _=>rfl))))) (by with_unfolding_all rfl))))))),(s_seq (s_asg (e_comp (i_seq e_var) g_name t_no (l_last (e_op o_ix e_var e_var))) g_name)
      (s_ret (e_andG (e_op o_eqD (e_lenSet (a_cons e_var a_nil)) e_int) (e_op o_in (e_op o_ix e_var e_int) (e_comp (i_seq e_var) g_name t_no (l_last (e_op o_ix e_var e_var))))))),fun xs ω Q h=>?_⟩)
  obtain ⟨n,i,ys,zs,rfl,hn,hi,hy,hz,hy0,k⟩:=h
  have hyl:=hy.le hn
  have hzl:=hz.le hn
  have bit : ∀ ws : List (List Int),Wds n ws→∀ {v0 : Option AV} {KK : List AV→SA→Om→Prop},(∀ ρ,KK (((ws.map fun v=>v.getD i 0).map D.int).map AV.d) ρ ω)→aLoop (agName 0) aNoTest (aLast (aOp aIx (aVar 0) (aVar 1))) ((ws.map wdD).map AV.d) [] [v0,some (.d (.int i))] ω KK:=fun ws hw v0 KK hk=>by
    have hl:=hw.le hn
    refine comp_ix (by simp) (Nat.le_of_lt (small1000 (by simp;omega))) (fun j a r h1 h2 Q q=>?_) hk
    simp only [List.map_map,List.getElem?_map,Option.map_eq_some_iff] at h1 h2
    obtain ⟨y,hyj,rfl⟩:=h1
    obtain ⟨y',hyj',rfl⟩:=h2
    rw [hyj] at hyj'
    cases hyj'
    have hyn : y.length = n:=(wl_mem (hw.2 y (List.mem_of_getElem? hyj))).1
    obtain ⟨z,mz,hz',ez⟩:=map_nth (f:=AV.d ∘ D.int) (xs:=y) (i:=(i : Int)) (by omega) (by omega)
    rw [← List.map_map] at ez
    have ev : y.getD i 0 = z:=by rw [List.getD_eq_getElem?_getD,show y[i]? = some z from hz'];rfl
    simp only [Function.comp_apply] at q ⊢
    rw [ev] at q
    walk_at "a1"
    exact ⟨_,ez,q⟩
  walk_at "s1"
  refine bit ys hy fun ρ=>⟨_,und_map _,?_⟩
  refine ⟨_,rfl,by simp;omega,?_⟩
  obtain ⟨y0,yr,rfl⟩:=List.exists_cons_of_ne_nil hy0
  refine ite2 (fun h=>?_) (fun h=>?_)
  · have hd : dist ((y0 :: yr).map fun v=>v.getD i 0) = 1:=by omega
    refine ⟨.d (.int (y0.getD i 0)),atI_of 0 rfl rfl,bit zs hz fun ρ=>⟨_,und_map _,_,rfl,?_,?_⟩⟩
    · have:=deps_ints (zs.map fun v=>v.getD i 0)
      omega
    · have e : (!inD (D.int (y0.getD i 0)) ((zs.map fun v=>v.getD i 0).map D.int)) = ptA i (y0 :: yr) zs:=by
        have e1 : ((y0 :: yr).all fun y=>decide (y.getD i 0 = ((y0 :: yr).headD []).getD i 0)) = true:=by
          rw [List.all_eq_true]
          intro y hy'
          rw [decide_eq_true_eq]
          exact dist_one hd (List.mem_map.mpr ⟨y,hy',rfl⟩) (List.mem_map.mpr ⟨y0,List.mem_cons_self ..,rfl⟩)
        unfold ptA inD
        rw [e1,Bool.true_and,List.any_map,List.any_map,List.headD_cons,List.not_any_eq_all_not]
        congr 1
      rw [e,only_self]
      exact k
  · have e : ptA i (y0 :: yr) zs = false:=by
      unfold ptA
      rw [Bool.and_eq_false_iff]
      left
      rw [Bool.eq_false_iff]
      intro hall
      apply h
      rw [List.all_eq_true] at hall
      have:=dist_all (ns:=(y0 :: yr).map fun v=>v.getD i 0) (by simp) (c:=y0.getD i 0) (fun x hx=>by
        obtain ⟨v,hv,rfl⟩:=List.mem_map.mp hx
        have:=hall v hv
        rw [decide_eq_true_eq] at this
        exact this)
      omega
    have e2 : ((dist ((y0 :: yr).map fun v=>v.getD i 0) : Int) == 1) = false:=by simpa using h
    rw [e2,only_self,← e]
    exact k
end
section
variable {P : Program} {w : World} {K : PySem.W.Frag} {mg : Str→Option Value} {base : Heap} {t : Adr}
theorem yn_nd : [Str.ofString "yes",Str.ofString "no"].Nodup:=by decide +kernel
theorem yn_val {a b : AV} : valA ([Str.ofString "yes",Str.ofString "no"].zip [a,b]) (Str.ofString "yes") = some a∧valA ([Str.ofString "yes",Str.ofString "no"].zip [a,b]) (Str.ofString "no") = some b:=by
  refine ⟨?_,?_⟩
  · simp only [List.zip_cons_cons,List.zip_nil_left,valA,List.find?_cons,decide_true];rfl
  · simp only [List.zip_cons_cons,List.zip_nil_left,valA,List.find?_cons,show decide (("yes" : Str) = "no") = false from by decide +kernel,decide_true];rfl
def sp_ended : ASp:=fun xs ω Q=>∃ (n : Nat) (y z : List Int) (u : Ta),xs = [.d u.d,.d (wdD y),.d (wdD z)]∧n≤5∧u.ok n∧Q (.d (.int (Ta.fin y z u))) ω
theorem ok_ended (T : Txt K mg t) : FnOk P w K mg base CX0 1 t.a_l_ended t.d_l_ended ["_law_talk","_law_yes","_law_no"] (lift sp_ended):=by
  refine T.f_l_ended.okD sc_l_ended (fun xs ω Q h=>by obtain ⟨n,y,z,u,rfl,_⟩:=h;rfl) (fun cdv A outer s H E hr=>⟨_,_,(pss_cons (ps_while PassesOwn.never (pt_cmpR (op_neD hr.u100) (pe_ix (ix_seqK K rfl) (pv 0) pe_int (fun _ _=>rfl)) pe_str (nomark _)) (pss_cons (ps_set (i:=3) sc_l_ended.nd rfl (Or.inl rfl) (pe_dget (hu_of hr) (pe_disp (pps_cons pe_str (pv 1) (pps_cons pe_str (pv 2) pps_nil)) rfl rfl (by simp) (by decide)) (pe_ix (ix_seqK K rfl) (pv 0) pe_int (fun _ _=>rfl)) (fun _ _=>rfl)))
      (pss_one (ps_set (i:=0) sc_l_ended.nd rfl (Or.inl rfl) (pe_ix (ix_seqK K rfl) (pv 0) (pe_op (op_alt op_add (op_alt op_cat3 op_cat)) pe_int (pe_callTy call_int1 (by rfl) T.b_int (by kernel_rfl) (pa_cons (pe_cmpR (op_inD hr.u100) (pv 3) (pe_ix (ix_seqK K rfl) (pv 0) pe_int (fun _ _=>rfl)) (by with_unfolding_all rfl)) pa_nil))) (fun _ _=>rfl))))))
      (pss_one (ps_ret (pe_ix (ix_seqK K rfl) (pv 0) pe_int (fun _ _=>rfl))))),(s_seq (s_while (t_test (e_op o_eqD (e_op o_ix e_var e_int) e_str)) (s_seq (s_asg (e_dget (e_disp (RefPs.cons e_var (RefPs.cons e_var RefPs.nil))) (e_op o_ix e_var e_int)) g_name)
      (s_asg (e_op o_ix e_var (e_op o_add e_int (e_cb c_int (a_cons (e_op o_in e_var (e_op o_ix e_var e_int)) a_nil)))) g_name)))
      (s_ret (e_op o_ix e_var e_int))),fun xs ω Q h=>?_⟩)
  obtain ⟨n,y,z,u,rfl,hn,hu,k⟩:=h
  walk_at "s1"
  obtain ⟨Pv,iP⟩:=invA fun m ρ ω'=>Ex ω ω'∧∃ (u2 : Ta) (v3 : Option AV),ρ = [some (.d u2.d),some (.d (wdD y)),some (.d (wdD z)),v3]∧u2.ok n∧Ta.fin y z u2 = Ta.fin y z u∧m = u2.dp
  refine ⟨Pv,⟨_,(iP _ _ _).mpr ⟨Ex.refl _,u,_,rfl,hu,rfl,rfl⟩⟩,fun m ρ ω3 h=>?_⟩
  obtain ⟨hex,u2,v6,rfl,hu2,hf,rfl⟩:=(iP _ _ _).mp h
  clear h
  cases u2 with
  | en c =>
    simp only [Ta.fin] at hf
    subst hf
    simp only [Ta.d]
    walk_at "a1"
    rw [if_neg (by decide +kernel)]
    rw [only_ex hex]
    exact k
  | nd h ws l r =>
    have hE2 : (!(if h then ("yes" : Str) else ("no" : Str)) == "end") = true:=by cases h<;>decide +kernel
    obtain ⟨hws,hl,hr⟩:=hu2
    have hle:=hws.le hn
    simp only [Ta.d]
    walk_at "a1"
    rw [if_pos hE2]
    refine ⟨fun ρ' ω'=>∃ m',m' < (Ta.nd h ws l r).dp∧Pv m' ρ' ω',fun ρ' ω' h=>h,?_⟩
    have hds : deps (ws.map wdD)≤90:=by have:=deps_wds ws;omega
    cases h
    · walk_at "s1"
      refine ⟨yn_nd,fun pd hpd=>⟨_,rfl,_,yn_val.2,_,rfl,hds,?_⟩⟩
      rw [inD_wd]
      by_cases hm : z∈ws
      · exact ⟨_,by rw [decide_eq_true hm];rfl,_,by simp only [Ta.dp];omega,(iP _ _ _).mpr ⟨hex.new hpd,r,_,rfl,hr,by rw [← hf];simp [Ta.fin,Ta.bit,hm],rfl⟩⟩
      · exact ⟨_,by rw [decide_eq_false hm];rfl,_,by simp only [Ta.dp];omega,(iP _ _ _).mpr ⟨hex.new hpd,l,_,rfl,hl,by rw [← hf];simp [Ta.fin,Ta.bit,hm],rfl⟩⟩
    · walk_at "s1"
      refine ⟨yn_nd,fun pd hpd=>⟨_,rfl,_,yn_val.1,_,rfl,hds,?_⟩⟩
      rw [inD_wd]
      by_cases hm : y∈ws
      · exact ⟨_,by rw [decide_eq_true hm];rfl,_,by simp only [Ta.dp];omega,(iP _ _ _).mpr ⟨hex.new hpd,r,_,rfl,hr,by rw [← hf];simp [Ta.fin,Ta.bit,hm],rfl⟩⟩
      · exact ⟨_,by rw [decide_eq_false hm];rfl,_,by simp only [Ta.dp];omega,(iP _ _ _).mpr ⟨hex.new hpd,l,_,rfl,hl,by rw [← hf];simp [Ta.fin,Ta.bit,hm],rfl⟩⟩
def gdB (ys zs : List (List Int)) (u : Ta) : Bool:=ys.all fun y=>zs.all fun z=>!decide (y.getD (Ta.fin y z u).toNat 0 = z.getD (Ta.fin y z u).toNat 0)
def sp_good : ASp:=fun xs ω Q=>∃ (n : Nat) (ys zs : List (List Int)) (u : Ta),xs = [.d (csD n ys zs),.d u.d]∧n≤5∧Wds n ys∧Wds n zs∧u.ok n∧Q (.d (.bl (gdB ys zs u))) ω
theorem ok_good (T : Txt K mg t) : FnOk P w K mg base CX0 2 t.a_l_good t.d_l_good ["_law_case","_law_talk"] (lift sp_good):=by
  have G_l_ended : FnOk P w K mg base CX0 1 t.a_l_ended t.d_l_ended ["_law_talk","_law_yes","_law_no"] (lift sp_ended):=ok_ended T
  refine T.f_l_good.okD sc_l_good (fun xs ω Q h=>by obtain ⟨n,ys,zs,u,rfl,_⟩:=h;rfl) (fun cdv A outer s H E hr=>⟨_,_,(pss_cons (ps_for PassesOwn.never rfl (pi_seq K rfl (pe_ix (ix_seqK K rfl) (pv 0) pe_int (fun _ _=>rfl))) (pg_name (i:=2) sc_l_good.nd rfl (Or.inl rfl)) (pss_one (ps_for PassesOwn.never rfl (pi_seq K rfl (pe_ix (ix_seqK K rfl) (pv 0) pe_int (fun _ _=>rfl))) (pg_name (i:=3) sc_l_good.nd rfl (Or.inl rfl)) (pss_cons (ps_set (i:=4) sc_l_good.nd rfl (Or.inl rfl) (pe_call G_l_ended (hr.mono (by omega)) (by rfl) T.m_l_ended T.k_l_ended T.p_l_ended .nil pass0 (pa_cons (pv 1) (pa_cons (pv 2) (pa_cons (pv 3) pa_nil)))))
      (pss_one (ps_if (pt_cmpR (op_eqD hr.u100) (pe_ix (ix_seqK K rfl) (pv 2) (pv 4) (fun _ _=>rfl)) (pe_ix (ix_seqK K rfl) (pv 3) (pv 4) (fun _ _=>rfl)) (nomark _)) (pss_one (ps_ret pe_bl)) pss_nil))))))
      (pss_one (ps_ret pe_bl))),(s_seq (s_for (i_seq (e_op o_ix e_var e_int)) g_name (s_for (i_seq (e_op o_ix e_var e_int)) g_name (s_seq (s_asg (e_call (a_cons e_var (a_cons e_var (a_cons e_var a_nil)))) g_name)
      (s_if (t_test (e_op o_eqD (e_op o_ix e_var e_var) (e_op o_ix e_var e_var))) (s_ret e_bl) s_next))))
      (s_ret e_bl)),fun xs ω Q h=>?_⟩)
  obtain ⟨n,ys,zs,u,rfl,hn,hy,hz,hu,k⟩:=h
  simp only [csD]
  walk_at "s1"
  refine for_D (fun i ρ ω'=>ω' = ω∧((ys.take i).all fun y=>zs.all fun z=>!decide (y.getD (Ta.fin y z u).toNat 0 = z.getD (Ta.fin y z u).toNat 0)) = true∧∃ v2 v3 v4,ρ = [some (AV.d (D.tup [D.int n,D.tup (ys.map wdD),D.tup (zs.map wdD)])),some (AV.d u.d),v2,v3,v4]) ⟨rfl,rfl,_,_,_,rfl⟩ ?_ ?_
  · rintro i d ρ ω1 N hd ⟨rfl,ha,v2,v3,v4,rfl⟩ kN
    obtain ⟨y,hyi,rfl⟩:=L2.map_get hd
    have hym:=List.mem_of_getElem? hyi
    have hyl : y.length = n:=(wl_mem (hy.2 y hym)).1
    walk_at "a1"
    refine for_D (fun j ρ ω'=>ω' = ω1∧((zs.take j).all fun z=>!decide (y.getD (Ta.fin y z u).toNat 0 = z.getD (Ta.fin y z u).toNat 0)) = true∧∃ v3 v4,ρ = [some (AV.d (D.tup [D.int n,D.tup (ys.map wdD),D.tup (zs.map wdD)])),some (AV.d u.d),some (.d (wdD y)),v3,v4]) ⟨rfl,rfl,_,_,rfl⟩ ?_ ?_
    · rintro j d ρ ω2 N2 hd ⟨rfl,hb,v3,v4,rfl⟩ kN2
      obtain ⟨z,hzi,rfl⟩:=L2.map_get hd
      have hzm:=List.mem_of_getElem? hzi
      have hzl : z.length = n:=(wl_mem (hz.2 z hzm)).1
      obtain ⟨f0,f1⟩:=Ta.fin_ok (y:=y) (n:=z) hu
      walk_at "s1"
      refine ⟨n,y,z,u,rfl,hn,hu,?_⟩
      obtain ⟨y',my,hy',ey⟩:=map_nth (f:=AV.d ∘ D.int) (xs:=y) f0 (by omega)
      obtain ⟨z',mz,hz',ez⟩:=map_nth (f:=AV.d ∘ D.int) (xs:=z) f0 (by omega)
      rw [← List.map_map] at ey ez
      have evy : y.getD (Ta.fin y z u).toNat 0 = y':=by rw [List.getD_eq_getElem?_getD,hy'];rfl
      have evz : z.getD (Ta.fin y z u).toNat 0 = z':=by rw [List.getD_eq_getElem?_getD,hz'];rfl
      walk_at "a1"
      refine ⟨_,ey,_,ez,_,rfl,_,rfl,by simp [dep],?_⟩
      rw [eqD_int]
      refine ite2 (fun h=>?_) (fun h=>?_)
      · have e : gdB ys zs u = false:=by
          unfold gdB
          refine List.all_eq_false.mpr ⟨y,hym,?_⟩
          rw [Bool.not_eq_true]
          refine List.all_eq_false.mpr ⟨z,hzm,?_⟩
          rw [evy,evz]
          simpa using h
        rw [e] at k
        rw [only_self]
        exact k
      · exact kN2 _ _ ⟨rfl,by
          rw [List.take_succ,hzi,List.all_append,hb]
          simp only [Option.toList_some,List.all_cons,List.all_nil,Bool.and_true,Bool.true_and,evy,evz]
          simpa using h,_,_,rfl⟩
    · rintro ρ ω2 ⟨rfl,hb,v3,v4,rfl⟩
      rw [List.length_map,List.take_length] at hb
      exact kN _ _ ⟨rfl,by rw [List.take_succ,hyi,List.all_append,ha];simpa using hb,_,_,_,rfl⟩
  · rintro ρ ω1 ⟨rfl,ha,v2,v3,v4,rfl⟩
    rw [List.length_map,List.take_length] at ha
    dsimp only
    walk_at "a1"
    rw [only_self]
    unfold gdB at k
    rw [ha] at k
    exact k
def sp_one (r : Nat) : ASp:=fun xs ω Q=>∃ (x : Sy) (wd : List Int),xs = [.d x.d,.d (wdD wd)]∧x.ok wd.length∧x.dp≤r∧Q (.d (.bl (x.val wd))) ω
theorem one_step (T : Txt K mg t) (r : Nat) (kk : Nat) (sp : ASp) (G_l_one_at : FnOk P w K mg base CX0 kk t.a_l_one_at t.d_l_one_at ["_law_saying","_law_word"] (lift sp))
    (hs : ∀ r',r = r' + 1→sp = sp_one r') : FnOk P w K mg base CX0 (kk + 1) t.a_l_one_at t.d_l_one_at ["_law_saying","_law_word"] (lift (sp_one r)):=by
  refine T.f_l_one_at.okD sc_l_one_at (fun xs ω Q h=>by obtain ⟨x,wd,rfl,_⟩:=h;rfl) (fun cdv A outer s H E hr=>⟨_,_,(pss_cons (ps_if (pt_cmpR (op_eqD hr.u100) (pe_ix (ix_seqK K rfl) (pv 0) pe_int (fun _ _=>rfl)) pe_str (nomark _)) (pss_one (ps_ret (pe_andG K rfl (pe_call G_l_one_at (hr.mono (by omega)) (by rfl) T.m_l_one_at T.k_l_one_at T.p_l_one_at .nil pass0 (pa_cons (pe_ix (ix_seqK K rfl) (pv 0) pe_int (fun _ _=>rfl)) (pa_cons (pv 1) pa_nil))) (pe_one (pe_call G_l_one_at (hr.mono (by omega)) (by rfl) T.m_l_one_at T.k_l_one_at T.p_l_one_at .nil pass0 (pa_cons (pe_ix (ix_seqK K rfl) (pv 0) pe_int (fun _ _=>rfl)) (pa_cons (pv 1) pa_nil))))))) pss_nil)
      (pss_cons (ps_if (pt_cmpR (op_eqD hr.u100) (pe_ix (ix_seqK K rfl) (pv 0) pe_int (fun _ _=>rfl)) pe_str (nomark _)) (pss_one (ps_ret (pe_orG K rfl (pe_call G_l_one_at (hr.mono (by omega)) (by rfl) T.m_l_one_at T.k_l_one_at T.p_l_one_at .nil pass0 (pa_cons (pe_ix (ix_seqK K rfl) (pv 0) pe_int (fun _ _=>rfl)) (pa_cons (pv 1) pa_nil))) (pe_one (pe_call G_l_one_at (hr.mono (by omega)) (by rfl) T.m_l_one_at T.k_l_one_at T.p_l_one_at .nil pass0 (pa_cons (pe_ix (ix_seqK K rfl) (pv 0) pe_int (fun _ _=>rfl)) (pa_cons (pv 1) pa_nil))))))) pss_nil)
      (pss_one (ps_ret (pe_cmpR (op_eqD hr.u100) (pe_ix (ix_seqK K rfl) (pv 1) (pe_ix (ix_seqK K rfl) (pv 0) pe_int (fun _ _=>rfl)) (fun _ _=>rfl)) (pe_ix (ix_seqK K rfl) (pv 0) pe_int (fun _ _=>rfl)) (nomark _)))))),(s_seq (s_if (t_test (e_op o_eqD (e_op o_ix e_var e_int) e_str)) (s_ret (e_andG (e_call (a_cons (e_op o_ix e_var e_int) (a_cons e_var a_nil))) (e_call (a_cons (e_op o_ix e_var e_int) (a_cons e_var a_nil))))) s_next)
      (s_seq (s_if (t_test (e_op o_eqD (e_op o_ix e_var e_int) e_str)) (s_ret (e_orG (e_call (a_cons (e_op o_ix e_var e_int) (a_cons e_var a_nil))) (e_call (a_cons (e_op o_ix e_var e_int) (a_cons e_var a_nil))))) s_next)
      (s_ret (e_op o_eqD (e_op o_ix e_var (e_op o_ix e_var e_int)) (e_op o_ix e_var e_int))))),fun xs ω Q h=>?_⟩)
  obtain ⟨x,wd,rfl,hx,hd,k⟩:=h
  cases x with
  | is i e =>
    obtain ⟨i0,i1,he⟩:=hx
    simp only [Sy.d]
    walk_at "s1"
    walk_at "s1"
    obtain ⟨y,my,hy,ey⟩:=map_nth (f:=AV.d ∘ D.int) (xs:=wd) i0 i1
    rw [← List.map_map] at ey
    refine ⟨_,ey,_,rfl,by simp [dep],?_⟩
    have ev : wd.getD i.toNat 0 = y:=by rw [List.getD_eq_getElem?_getD,hy];rfl
    simp only [Sy.val,ev] at k
    rw [only_self,eqD_int,show (y == e) = decide (y = e) from rfl]
    exact k
  | jn a l rr =>
    obtain ⟨hl1,hl2⟩:=hx
    simp only [Sy.dp] at hd
    obtain ⟨r',rfl⟩ : ∃ r',r = r' + 1:=⟨r - 1,by omega⟩
    cases hs r' rfl
    cases a<;>simp only [Sy.d,Sy.val,if_true,if_false,Bool.false_eq_true] at k ⊢
    · walk_at "s1"
      walk_at "s1"
      refine ⟨l,wd,rfl,hl1,by omega,_,rfl,ite2 (fun h=>?_) (fun h=>?_)⟩
      · refine ⟨_,rfl,?_⟩
        rw [h,Bool.true_or] at k
        rw [only_self,h]
        exact k
      · rw [Bool.not_eq_true] at h
        rw [h,Bool.false_or] at k
        refine ⟨rr,wd,rfl,hl2,by omega,_,rfl,?_⟩
        rw [only_self]
        exact k
    · walk_at "s1"
      refine ⟨l,wd,rfl,hl1,by omega,_,rfl,ite2 (fun h=>?_) (fun h=>?_)⟩
      · rw [h,Bool.true_and] at k
        refine ⟨rr,wd,rfl,hl2,by omega,_,rfl,?_⟩
        rw [only_self]
        exact k
      · rw [Bool.not_eq_true] at h
        rw [h,Bool.false_and] at k
        refine ⟨_,rfl,?_⟩
        rw [only_self,h]
        exact k
theorem ok_one (T : Txt K mg t) : ∀ r,FnOk P w K mg base CX0 (r + 1) t.a_l_one_at t.d_l_one_at ["_law_saying","_law_word"] (lift (sp_one r))
  | 0=>one_step T 0 0 noSp fn_no (fun r' h=>by omega)
  | r + 1=>one_step T (r + 1) (r + 1) _ (ok_one T r) (fun r' h=>by cases h;rfl)
end
section
variable {P : Program} {w : World} {K : PySem.W.Frag} {mg : Str→Option Value} {base : Heap} {t : Adr}
def sp_bent (K : PySem.W.Frag) (r : Nat) : ASp:=fun xs ω Q=>∃ (p : Addr) (n : Nat) (u : Ta),xs = [.r (.ref p),.d (.int n),.d u.d]∧PdAt K ω p∧1≤n∧n≤5∧u.ok n∧u.dp≤r∧∀ (v : Ta) (c : Pq),v.ok n→v.dp≤u.dp→v.size≤u.size→Q (.d v.d) (ω.put p (pdO K c))
theorem bent_step (T : Txt K mg t) (r : Nat) (kk : Nat) (sp : ASp) (hk : 1≤kk) (G_l_bent : FnOk P w K mg base CX0 kk t.a_l_bent t.d_l_bent ["_law_start","_law_places","_law_talk"] (lift sp))
    (hs : ∀ r',r = r' + 1→sp = sp_bent K r') : FnOk P w K mg base CX0 (kk + 1) t.a_l_bent t.d_l_bent ["_law_start","_law_places","_law_talk"] (lift (sp_bent K r)):=by
  have G_l_pull : FnOk P w K mg base CX0 1 t.a_l_pull t.d_l_pull ["_law_start","_law_below"] (lift (sp_draw K)):=ok_draw T
  have G_l_list : FnOk P w K mg base CX0 1 t.a_l_list t.d_l_list ["_law_places"] (lift sp_list):=ok_list T
  refine T.f_l_bent.okD sc_l_bent (fun xs ω Q h=>by obtain ⟨p,n,u,rfl,_⟩:=h;rfl) (fun cdv A outer s H E hr=>⟨_,_,(pss_cons (ps_if (pt_cmpR (op_eqD hr.u100) (pe_ix (ix_seqK K rfl) (pv 2) pe_int (fun _ _=>rfl)) pe_str (nomark _)) (pss_one (ps_ret (pe_tup (pa_consC pe_str (pa_cons (pe_call G_l_pull (hr.mono (by omega)) (by rfl) T.m_l_pull T.k_l_pull T.p_l_pull .nil pass0 (pa_cons (pv 0) (pa_cons (pv 1) pa_nil))) pa_nil))))) pss_nil)
      (pss_cons (ps_asg (pv 2) (pg_tupK K rfl (n:=4) rfl (pgs_cons (pg_name (i:=3) sc_l_bent.nd rfl (Or.inl rfl)) (pgs_cons (pg_name (i:=4) sc_l_bent.nd rfl (Or.inl rfl)) (pgs_cons (pg_name (i:=5) sc_l_bent.nd rfl (Or.inl rfl)) (pgs_cons (pg_name (i:=6) sc_l_bent.nd rfl (Or.inl rfl)) pgs_nil))))))
      (pss_cons (ps_set (i:=7) sc_l_bent.nd rfl (Or.inl rfl) (pe_call G_l_pull (hr.mono (by omega)) (by rfl) T.m_l_pull T.k_l_pull T.p_l_pull .nil pass0 (pa_cons (pv 0) (pa_consC pe_int pa_nil))))
      (pss_cons (ps_if (pt_cmpR (op_eqD hr.u100) (pv 7) pe_int (nomark _)) (pss_one (ps_ret (pe_tup (pa_cons (pv 3) (pa_cons (pv 4) (pa_cons (pv 6) (pa_cons (pv 5) pa_nil))))))) pss_nil)
      (pss_cons (ps_if (pt_cmpR (op_eqD hr.u100) (pv 7) pe_int (nomark _)) (pss_one (ps_ret (pe_tup (pa_cons (pe_dget (hu_of hr) (pe_disp (pps_cons pe_str pe_str (pps_cons pe_str pe_str pps_nil)) rfl rfl (by simp) (by decide)) (pv 3) (fun _ _=>rfl)) (pa_cons (pv 4) (pa_cons (pv 5) (pa_cons (pv 6) pa_nil))))))) pss_nil)
      (pss_cons (ps_if (pt_cmpR (op_eqD hr.u100) (pv 7) pe_int (nomark _)) (pss_one (ps_ret (pe_ix (ix_seqK K rfl) (pe_lst (pa_cons (pv 5) (pa_cons (pv 6) pa_nil))) (pe_call G_l_pull (hr.mono (by omega)) (by rfl) T.m_l_pull T.k_l_pull T.p_l_pull .nil pass0 (pa_cons (pv 0) (pa_consC pe_int pa_nil))) (fun _ _=>rfl)))) pss_nil)
      (pss_cons (ps_if (pt_cmpR (op_eqD hr.u100) (pv 7) pe_int (nomark _)) (pss_cons (ps_set (i:=8) sc_l_bent.nd rfl (Or.inr rfl) (pe_ix (ix_seqK K rfl) (pe_call G_l_list (hr.mono (by omega)) (by rfl) T.m_l_list T.k_l_list T.p_l_list .nil pass0 (pa_cons (pv 1) pa_nil)) (pe_call G_l_pull (hr.mono (by omega)) (by rfl) T.m_l_pull T.k_l_pull T.p_l_pull .nil pass0 (pa_cons (pv 0) (pa_cons (pe_op op_shl pe_int (pv 1)) pa_nil))) (fun _ _=>rfl)))
      (pss_cons (ps_setC (i:=9) sc_l_bent.nd rfl (Or.inl rfl) (N:=(["_law_one","_law_word"] : List Str)) (src:=[none,some 8]) rfl (by show blkOk _ (defScope s_l_bent) _ _ (["_law_start","_law_places","_law_talk","_law_hand","_law_says","_law_first","_law_second","_law_way","_law_word","_law_more"] : List Str) = true;decide +kernel) (by intro g' h;cases h) (pi_seq K rfl (pv 4)) (fun _ _ _ _ _ _=>(pg_name (i:=0) (show (["_law_one","_law_word"] : List Str).Nodup by decide +kernel) rfl (Or.inl rfl))) (fun _ _ _ _ _ _=>(pts_one (pt_cmpR (op_neD hr.u100) (pv 0) (pv 1) (nomark _)))) (fun _ _ _ _ _ _=>(pl_last rfl rfl (pv 0))))
      (pss_cons (ps_if (pt_cmpR (op_notInD hr.u100) (pv 8) (pv 4) (by with_unfolding_all rfl)) (pss_one (ps_set (i:=9) sc_l_bent.nd rfl (Or.inl rfl) (pe_callB call_sorted (by rfl) T.b_sorted (by kernel_rfl) (pa_cons (pe_op (op_alt op_add (op_alt op_cat3 op_cat)) (pe_callTy (call_list_ofK K rfl) (by rfl) T.b_list (by kernel_rfl) (pa_cons (pv 4) pa_nil)) (pe_lst (pa_cons (pv 8) pa_nil))) pa_nil)))) pss_nil)
      (pss_one (ps_ret (pe_tup (pa_cons (pv 3) (pa_cons (pe_callTy (call_tuple_ofK K rfl) (by rfl) T.b_tuple (by kernel_rfl) (pa_cons (pv 9) pa_nil)) (pa_cons (pv 5) (pa_cons (pv 6) pa_nil)))))))))) pss_nil)
      (pss_cons (ps_if (pt_cmpR op_lt (pv 7) pe_int (nomark _)) (pss_one (ps_ret (pe_tup (pa_cons (pv 3) (pa_cons (pv 4) (pa_cons (pe_call G_l_bent (hr.mono (by omega)) (by rfl) T.m_l_bent T.k_l_bent T.p_l_bent .nil pass0 (pa_cons (pv 0) (pa_cons (pv 1) (pa_cons (pv 5) pa_nil)))) (pa_cons (pv 6) pa_nil))))))) pss_nil)
      (pss_one (ps_ret (pe_tup (pa_cons (pv 3) (pa_cons (pv 4) (pa_cons (pv 5) (pa_cons (pe_call G_l_bent (hr.mono (by omega)) (by rfl) T.m_l_bent T.k_l_bent T.p_l_bent .nil pass0 (pa_cons (pv 0) (pa_cons (pv 1) (pa_cons (pv 6) pa_nil)))) pa_nil))))))))))))))),(s_seq (s_if (t_test (e_op o_eqD (e_op o_ix e_var e_int) e_str)) (s_ret (e_tup (a_cons e_str (a_cons (e_call (a_cons e_var (a_cons e_var a_nil))) a_nil)))) s_next)
      (s_seq (s_asg e_var (g_tup (g_cons g_name (g_cons g_name (g_cons g_name (g_cons g_name g_nil))))))
      (s_seq (s_asg (e_call (a_cons e_var (a_cons e_int a_nil))) g_name)
      (s_seq (s_if (t_test (e_op o_eqD e_var e_int)) (s_ret (e_tup (a_cons e_var (a_cons e_var (a_cons e_var (a_cons e_var a_nil)))))) s_next)
      (s_seq (s_if (t_test (e_op o_eqD e_var e_int)) (s_ret (e_tup (a_cons (e_dget (e_disp (RefPs.cons e_str (RefPs.cons e_str RefPs.nil))) e_var) (a_cons e_var (a_cons e_var (a_cons e_var a_nil)))))) s_next)
      (s_seq (s_if (t_test (e_op o_eqD e_var e_int)) (s_ret (e_op o_ix (e_lst (a_cons e_var (a_cons e_var a_nil))) (e_call (a_cons e_var (a_cons e_int a_nil))))) s_next)
      (s_seq (s_if (t_test (e_op o_eqD e_var e_int)) (s_seq (s_asg (e_op o_ix (e_call (a_cons e_var a_nil)) (e_call (a_cons e_var (a_cons (e_op o_Ii e_int e_var) a_nil)))) g_name)
      (s_seq (s_asg (e_comp (i_seq e_var) g_name (t_test (e_op o_eqD e_var e_var)) (l_last e_var)) g_name)
      (s_seq (s_if (t_test (e_op o_in e_var e_var)) (s_asg (e_cb c_sorted (a_cons (e_op o_add (e_cb c_list (a_cons e_var a_nil)) (e_lst (a_cons e_var a_nil))) a_nil)) g_name) s_next)
      (s_ret (e_tup (a_cons e_var (a_cons (e_cb c_tuple (a_cons e_var a_nil)) (a_cons e_var (a_cons e_var a_nil))))))))) s_next)
      (s_seq (s_if (t_test (e_op o_I0b e_var e_int)) (s_ret (e_tup (a_cons e_var (a_cons e_var (a_cons (e_call (a_cons e_var (a_cons e_var (a_cons e_var a_nil)))) (a_cons e_var a_nil)))))) s_next)
      (s_ret (e_tup (a_cons e_var (a_cons e_var (a_cons e_var (a_cons (e_call (a_cons e_var (a_cons e_var (a_cons e_var a_nil)))) a_nil)))))))))))))),fun xs ω Q h=>?_⟩)
  obtain ⟨p,n,u,rfl,hp,hn1,hn,hu,hd,k⟩:=h
  cases u with
  | en i =>
    simp only [Ta.d]
    walk_at "s1"
    refine ⟨p,n,rfl,hp,by omega,by omega,fun j c j0 j1=>⟨_,rfl,?_⟩⟩
    rw [only_pd hp]
    exact k (.en j) c ⟨j0,j1⟩ (Nat.zero_le _) (Nat.le_refl _)
  | nd h ws l rr =>
    obtain ⟨hws,hl,hr⟩:=hu
    have hle:=hws.le hn
    simp only [Ta.dp] at hd
    obtain ⟨r',rfl⟩ : ∃ r',r = r' + 1:=⟨r - 1,by omega⟩
    cases hs r' rfl
    have hE2 : ¬ (if h then ("yes" : Str) else ("no" : Str)) = "end":=by cases h<;>decide +kernel
    simp only [Ta.d]
    walk_at "s1"
    rw [if_neg hE2]
    walk_at "s1"
    walk_at "s1"
    refine ⟨p,9,rfl,hp,by decide,by decide,fun wy c w0 w1=>?_⟩
    have hp1 : PdAt K (ω.put p (pdO K c)) p:=pdAt_put
    have o1 : ∀ c',((ω.put p (pdO K c)).put p (pdO K c')).only ω = ω.put p (pdO K c'):=fun c'=>by rw [Om.put_put];exact only_pd hp
    walk_at "s1"
    refine ite2 (fun h1=>?_) (fun h1=>?_)
    · rw [only_pd hp]
      exact k (.nd h ws rr l) c ⟨hws,hr,hl⟩ (by simp only [Ta.dp];omega) (by simp only [Ta.size];omega)
    walk_at "s1"
    refine ite2 (fun h2=>?_) (fun h2=>?_)
    · refine ⟨yn_nd,fun pd hpd=>⟨_,rfl,.d (.str (if !h then "yes" else "no")),by cases h;exact yn_val.2;exact yn_val.1,_,rfl,?_⟩⟩
      rw [only_put ((Ex.refl _).new hpd) hp.some]
      exact k (.nd (!h) ws l rr) c ⟨hws,hl,hr⟩ (by simp only [Ta.dp];omega) (by simp only [Ta.size];omega)
    walk_at "s1"
    refine ite2 (fun h3=>?_) (fun h3=>?_)
    · refine ⟨p,2,rfl,hp1,by decide,by decide,fun j c2 j0 j1=>⟨_,rfl,?_⟩⟩
      rw [o1]
      rcases (by omega : j = 0∨j = 1) with rfl | rfl
      · exact ⟨_,rfl,_,rfl,k l c2 hl (by simp only [Ta.dp];omega) (by simp only [Ta.size];omega)⟩
      · exact ⟨_,rfl,_,rfl,k rr c2 hr (by simp only [Ta.dp];omega) (by simp only [Ta.size];omega)⟩
    walk_at "s1"
    refine ite2 (fun h4=>?_) (fun h4=>?_)
    · walk_at "s1"
      refine ⟨n,rfl,hn,fun lw hlw=>?_⟩
      have hpl : p≠lw:=fun e=>by rw [← e,Om.put_same] at hlw;cases hlw
      have hwl:=wl_le hn
      have e2 : (1 : Int) * 2 ^ n = (((wl n).length : Nat) : Int):=by rw [wl_len];simp
      dsimp only
      rw [e2]
      have hwp:=wl_pos n
      refine ⟨⟨by omega,by omega,by decide⟩,p,_,rfl,⟨c,by rw [Om.put_ne hpl,Om.put_same]⟩,by omega,by omega,fun j c2 j0 j1=>?_⟩
      obtain ⟨j,rfl⟩:=Int.eq_ofNat_of_zero_le j0
      have hj : j < (wl n).length:=by omega
      have hwm:=List.getElem_mem hj
      have eo : (((ω.put p (pdO K c)).put lw (OC.own (((wl n).map wdD).map AV.d))).put p (pdO K c2)) = (ω.put p (pdO K c2)).put lw (OC.own (((wl n).map wdD).map AV.d)):=by rw [Om.put_comm hpl,Om.put_put]
      rw [eo]
      refine ⟨((wl n).map wdD).map AV.d,.inl (by simp only [lstA,Om.put_same]),_,rfl,.d (wdD (wl n)[j]),atI_of j rfl (by simp [hj]),?_⟩
      generalize (wl n)[j] = wd at *
      walk_at "s1"
      refine comp_ft wdD (fun v=>!decide (v = wd)) wdD (Nat.le_of_lt (small1000 (by omega))) (fun v hv Q q=>?_) (fun v hv _ Q q=>?_) (fun ρ=>⟨_,und_map _,?_⟩)
      · walk_at "a1"
        exact q
      · walk_at "a1"
        exact q
      have hlw0 : ω lw = none:=by rw [Om.put_ne hpl.symm] at hlw;exact hlw
      refine seq_cut (fun ρ' ω'=>∃ W : List (List Int),Wds n W∧ω' = (ω.put p (pdO K c2)).put lw (OC.own (((wl n).map wdD).map AV.d))∧ρ' = [some (AV.r (V.ref p)),some (AV.d (D.int n)),some (AV.d (D.tup [D.str (if h = true then Str.ofString "yes" else Str.ofString "no"),D.tup (ws.map wdD),l.d,rr.d])),some (AV.d (D.str (if h = true then Str.ofString "yes" else Str.ofString "no"))),some (AV.d (D.tup (ws.map wdD))),some (AV.d l.d),some (AV.d rr.d),some (AV.d (D.int wy)),some (AV.d (wdD wd)),some (AV.d (D.lst (W.map wdD)))]) (fun M kM=>?_) ?_
      · walk_at "a1"
        refine ⟨by have:=deps_wds ws;omega,?_⟩
        rw [inD_wd]
        refine ite2 (fun h6=>?_) (fun h6=>kM _ _ ⟨_,⟨List.filter_sublist.nodup hws.1,fun v hv=>hws.2 v (List.mem_filter.mp hv).1⟩,rfl,rfl⟩)
        have hnm : wd ∉ ws:=by simpa using h6
        have hz : ∀ y∈ws ++ [wd],y∈wl n:=fun y hy=>by
          rcases List.mem_append.mp hy with h | h
          · exact hws.2 y h
          · rw [List.mem_singleton.mp h];exact hwm
        refine ⟨by simp [sizeLine];omega,ws ++ [wd],by simp,fun y hy e=>?_,by simp;omega,?_⟩
        · have:=(wl_mem (hz y hy)).1
          rw [e] at this
          simp at this
          omega
        · refine kM _ _ ⟨srtW (ws ++ [wd]),Wds.perm ⟨?_,hz⟩ (srtW_perm _),rfl,rfl⟩
          rw [List.nodup_append]
          exact ⟨hws.1,by simp,fun a ha b hb e=>hnm (by rw [← List.mem_singleton.mp hb,← e];exact ha)⟩
      rintro ρ ω' ⟨W,wW,rfl,rfl⟩
      walk_at "a1"
      rw [only_put ((Ex.refl _).new (by rw [Om.put_ne hpl.symm];exact hlw0)) hp.some]
      exact k (.nd h W l rr) c2 ⟨wW,hl,hr⟩ (by simp only [Ta.dp];omega) (by simp only [Ta.size];omega)
    walk_at "s1"
    refine ite2 (fun h5=>?_) (fun h5=>?_)
    · refine ⟨p,n,l,rfl,hp1,hn1,hn,hl,by omega,fun v c2 v1 v2 v3=>⟨_,rfl,?_⟩⟩
      rw [o1]
      exact k (.nd h ws v rr) c2 ⟨hws,v1,hr⟩ (by simp only [Ta.dp];omega) (by simp only [Ta.size];omega)
    · refine ⟨p,n,rr,rfl,hp1,hn1,hn,hr,by omega,fun v c2 v1 v2 v3=>⟨_,rfl,?_⟩⟩
      rw [o1]
      exact k (.nd h ws l v) c2 ⟨hws,hl,v1⟩ (by simp only [Ta.dp];omega) (by simp only [Ta.size];omega)
theorem ok_bent (T : Txt K mg t) : ∀ r,FnOk P w K mg base CX0 (r + 2) t.a_l_bent t.d_l_bent ["_law_start","_law_places","_law_talk"] (lift (sp_bent K r))
  | 0=>bent_step T 0 1 noSp (Nat.le_refl _) fn_no (fun r' h=>by omega)
  | r + 1=>bent_step T (r + 1) (r + 2) _ (by omega) (ok_bent T r) (fun r' h=>by cases h;rfl)
end
section
variable {P : Program} {w : World} {K : PySem.W.Frag} {mg : Str→Option Value} {base : Heap} {t : Adr}
abbrev oW (ws : List (List Int)) : OC:=.own ((ws.map wdD).map AV.d)
structure Two (n : Nat) (ys zs : List (List Int)) : Prop where
  y : Wds n ys
  z : Wds n zs
  y1 : ys≠[]
  z1 : zs≠[]
  dj : ∀ v∈ys,v ∉ zs
def sp_two (K : PySem.W.Frag) : ASp:=fun xs ω Q=>∃ (p : Addr) (n : Nat),xs = [.r (.ref p),.d (.int n)]∧PdAt K ω p∧1≤n∧n≤5∧∀ (ys zs : List (List Int)) (c : Pq),Two n ys zs→ys.length + zs.length≤9→Q (.d (.lst [.lst (ys.map wdD),.lst (zs.map wdD)])) (ω.put p (pdO K c))
theorem er_map {α β : Type} (f : α→β) : ∀ (xs : List α) (i : Nat),(xs.map f).eraseIdx i = (xs.eraseIdx i).map f
  | [],_=>rfl
  | x :: xs,0=>rfl
  | x :: xs,i + 1=>by simp [er_map f xs i]
theorem er_perm {α : Type} : ∀ (l : List α) (i : Nat) (h : i < l.length),(l[i] :: l.eraseIdx i).Perm l
  | [],i,h=>by simp at h
  | x :: l,0,h=>List.Perm.refl _
  | x :: l,i + 1,h=>by
    simp only [List.getElem_cons_succ,List.eraseIdx_cons_succ]
    exact (List.Perm.swap ..).trans ((er_perm l i (by simpa using h)).cons x)
theorem om4_base {ω : Om} {p a b l q : Addr} {c X Y Z A F : OC} (h1 : q≠p) (h2 : q≠a) (h3 : q≠b) (h4 : q≠l) : (om4 (ω.put q A) p a b l c X Y Z).put q F = om4 (ω.put q F) p a b l c X Y Z:=by
  unfold om4
  rw [Om.put_comm h4,Om.put_comm h3,Om.put_comm h2,Om.put_comm h1,Om.put_put]
theorem ok_two (T : Txt K mg t) : FnOk P w K mg base CX0 2 t.a_l_two_sorts t.d_l_two_sorts ["_law_start","_law_places"] (lift (sp_two K)):=by
  have G_l_pull : FnOk P w K mg base CX0 1 t.a_l_pull t.d_l_pull ["_law_start","_law_below"] (lift (sp_draw K)):=ok_draw T
  have G_l_list : FnOk P w K mg base CX0 1 t.a_l_list t.d_l_list ["_law_places"] (lift sp_list):=ok_list T
  refine T.f_l_two_sorts.okD sc_l_two_sorts (fun xs ω Q h=>by obtain ⟨p,n,rfl,_⟩:=h;rfl) (fun cdv A outer s H E hr=>⟨_,_,(pss_cons (ps_set (i:=2) sc_l_two_sorts.nd rfl (Or.inl rfl) (pe_call G_l_list (hr.mono (by omega)) (by rfl) T.m_l_list T.k_l_list T.p_l_list .nil pass0 (pa_cons (pv 1) pa_nil)))
      (pss_cons (ps_while PassesOwn.never (pt_cmpR op_gt (pe_callB (call_lenK K rfl) (by rfl) T.b_len (by kernel_rfl) (pa_cons (pv 2) pa_nil)) (pe_op (op_alt op_add (op_alt op_cat3 op_cat)) pe_int (pe_call G_l_pull (hr.mono (by omega)) (by rfl) T.m_l_pull T.k_l_pull T.p_l_pull .nil pass0 (pa_cons (pv 0) (pa_consC pe_int pa_nil)))) (nomark _)) (pss_one (ps_expr (pe_bm PySem.F.plainAttrs_list PySem.F.slot_list_pop PySem.F.type_list_pop mt_popAt (pv 2) (pa_cons (pe_call G_l_pull (hr.mono (by omega)) (by rfl) T.m_l_pull T.k_l_pull T.p_l_pull .nil pass0 (pa_cons (pv 0) (pa_cons (pe_callB (call_lenK K rfl) (by rfl) T.b_len (by kernel_rfl) (pa_cons (pv 2) pa_nil)) pa_nil))) pa_nil)))))
      (pss_cons (ps_set (i:=3) sc_l_two_sorts.nd rfl (Or.inl rfl) (pe_lst (pa_consL (pe_lst pa_nil) (pa_consL (pe_lst pa_nil) pa_nil))))
      (pss_cons (ps_for PassesOwn.never rfl (pi_seq K rfl (pv 2)) (pg_name (i:=4) sc_l_two_sorts.nd rfl (Or.inl rfl)) (pss_one (ps_expr (pe_bm PySem.F.plainAttrs_list PySem.F.slot_list_append PySem.F.type_list_append mt_append (pe_ix (ix_seqK K rfl) (pv 3) (pe_call G_l_pull (hr.mono (by omega)) (by rfl) T.m_l_pull T.k_l_pull T.p_l_pull .nil pass0 (pa_cons (pv 0) (pa_consC pe_int pa_nil))) (fun _ _=>rfl)) (pa_cons (pv 4) pa_nil)))))
      (pss_cons (ps_for PassesOwn.never rfl (pi_range1 rfl T.b_range (pa_consC pe_int pa_nil)) (pg_name (i:=5) sc_l_two_sorts.nd rfl (Or.inl rfl)) (pss_one (ps_if (pt_cmpR (op_eqD hr.u100) (pe_ix (ix_seqK K rfl) (pv 3) (pv 5) (fun _ _=>rfl)) (pe_lst pa_nil) (nomark _)) (pss_one (ps_expr (pe_bm PySem.F.plainAttrs_list PySem.F.slot_list_append PySem.F.type_list_append mt_append (pe_ix (ix_seqK K rfl) (pv 3) (pv 5) (fun _ _=>rfl)) (pa_cons (pe_bm PySem.F.plainAttrs_list PySem.F.slot_list_pop PySem.F.type_list_pop mt_popAt (pe_ix (ix_seqK K rfl) (pv 3) (pe_op op_sub pe_int (pv 5)) (fun _ _=>rfl)) (pa_cons (pe_call G_l_pull (hr.mono (by omega)) (by rfl) T.m_l_pull T.k_l_pull T.p_l_pull .nil pass0 (pa_cons (pv 0) (pa_cons (pe_callB (call_lenK K rfl) (by rfl) T.b_len (by kernel_rfl) (pa_cons (pe_ix (ix_seqK K rfl) (pv 3) (pe_op op_sub pe_int (pv 5)) (fun _ _=>rfl)) pa_nil)) pa_nil))) pa_nil)) pa_nil)))) pss_nil)))
      (pss_one (ps_ret (pv 3)))))))),(s_seq (s_asg (e_call (a_cons e_var a_nil)) g_name)
      (s_seq (s_while (t_test (e_op o_I0b (e_cb c_len (a_cons e_var a_nil)) (e_op o_add e_int (e_call (a_cons e_var (a_cons e_int a_nil)))))) (s_drop (e_popAt e_var (a_cons (e_call (a_cons e_var (a_cons (e_cb c_len (a_cons e_var a_nil)) a_nil))) a_nil))))
      (s_seq (s_asg (e_lstO (a_cons (e_lstO a_nil) (a_cons (e_lstO a_nil) a_nil))) g_name)
      (s_seq (s_for (i_seq e_var) g_name (s_drop (e_append (e_op o_ix e_var (e_call (a_cons e_var (a_cons e_int a_nil)))) (a_cons e_var a_nil))))
      (s_seq (s_for (i_rng1 (a_cons e_int a_nil)) g_name (s_if (t_test (e_op o_eqD (e_op o_ix e_var e_var) (e_lst a_nil))) (s_drop (e_append (e_op o_ix e_var e_var) (a_cons (e_popAt (e_op o_ix e_var (e_op o_I0i e_int e_var)) (a_cons (e_call (a_cons e_var (a_cons (e_cb c_len (a_cons (e_op o_ix e_var (e_op o_I0i e_int e_var)) a_nil)) a_nil))) a_nil)) a_nil))) s_next))
      (s_ret e_varFF)))))),fun xs ω Q h=>?_⟩)
  obtain ⟨p,n,rfl,⟨c0,hp⟩,hn1,hn,k⟩:=h
  have hwl:=wl_le hn
  have hw2:=wl_two hn1
  have e0 : ω.put p (pdO K c0) = ω:=by funext b;by_cases hb : b = p<;>simp [Om.put,hb,hp]
  have hps : (ω p).isSome = true:=by rw [hp];rfl
  rw [← e0]
  walk_at "s1"
  refine ⟨n,rfl,hn,fun q hq=>?_⟩
  obtain ⟨nqp,hq⟩:=put_free hq
  show aSeq _ _ _ _ (om2 ω p q (pdO K c0) (oW (wl n)))
  refine seq_cut (fun ρ' ω'=>∃ (L : List (List Int)) (c : Pq),Wds n L∧2≤L.length∧L.length≤9∧ω' = om2 ω p q (pdO K c) (oW L)∧ρ' = [some (AV.r (V.ref p)),some (AV.d (D.int n)),some (AV.r (V.ref q)),none,none,none]) (fun M kM=>?_) ?_
  · obtain ⟨Pv,iP⟩:=invA fun m ρ ω'=>∃ (L : List (List Int)) (c : Pq),Wds n L∧2≤L.length∧ω' = om2 ω p q (pdO K c) (oW L)∧ρ = [some (AV.r (V.ref p)),some (AV.d (D.int n)),some (AV.r (V.ref q)),none,none,none]∧m = L.length
    refine ⟨Pv,⟨_,(iP _ _ _).mpr ⟨wl n,c0,Wds.sub (List.Sublist.refl _) hn,hw2,rfl,rfl,rfl⟩⟩,fun m ρ ω3 h=>?_⟩
    obtain ⟨L,c,wL,hL,rfl,rfl,rfl⟩:=(iP _ _ _).mp h
    clear h
    walk_at "a1"
    have len : ∀ (ω' : Om) (A : List (List Int)),ω' q = some (oW A)→Option.map List.length (match ω' q with | some (OC.own xs)=>some xs | some (OC.frz ds)=>some (List.map AV.d ds) | x=>none) = some A.length:=fun ω' A h=>by rw [h];simp
    have hLl:=wL.le hn
    refine ⟨L.length,len _ L om2_l,p,8,rfl,⟨c,om2_p nqp.symm⟩,by decide,by decide,fun j c2 j0 j1=>⟨j,rfl,?_⟩⟩
    rw [om2_pp nqp.symm]
    refine ite2 (fun h1=>?_) (fun h1=>kM _ _ ⟨L,c2,wL,hL,by omega,rfl,rfl⟩)
    refine ⟨fun ρ' ω'=>∃ m',m' < L.length∧Pv m' ρ' ω',fun ρ' ω' h=>h,⟨_,om2_l⟩,L.length,len _ L om2_l,p,_,rfl,⟨c2,om2_p nqp.symm⟩,by omega,by omega,fun i c3 i0 i1=>?_⟩
    rw [om2_pp nqp.symm]
    obtain ⟨i,rfl⟩:=Int.eq_ofNat_of_zero_le i0
    have hi : i < L.length:=by omega
    refine ⟨_,i,rfl,om2_l,by simp;omega,⟨.d (wdD L[i]),by simp [hi]⟩,(L.eraseIdx i).length,by rw [List.length_eraseIdx];rw [if_pos hi];omega,(iP _ _ _).mpr ⟨L.eraseIdx i,c3,⟨wL.1.sublist (List.eraseIdx_sublist ..),fun v hv=>wL.2 v ((List.eraseIdx_sublist ..).mem hv)⟩,by rw [List.length_eraseIdx,if_pos hi];omega,?_,rfl,rfl⟩⟩
    rw [om2_pl,er_map,er_map]
  rintro ρ ω' ⟨L,c,wL,hL2,hL9,rfl,rfl⟩
  walk_at "s1"
  intro a ha b hb l hl
  obtain ⟨naq,ha⟩:=put_free ha
  obtain ⟨nap,ha⟩:=put_free ha
  obtain ⟨nba,hb⟩:=put_free hb
  obtain ⟨nbq,hb⟩:=put_free hb
  obtain ⟨nbp,hb⟩:=put_free hb
  obtain ⟨nlb,hl⟩:=put_free hl
  obtain ⟨nla,hl⟩:=put_free hl
  obtain ⟨nlq,hl⟩:=put_free hl
  obtain ⟨nlp,hl⟩:=put_free hl
  have h4 : Ne4 p a b l:=⟨nap.symm,nbp.symm,nlp.symm,nba.symm,nla.symm,nlb.symm⟩
  have eo : ((((om2 ω p q (pdO K c) (oW L)).put a (OC.own [])).put b (OC.own [])).put l (OC.own [AV.r (V.ref a),AV.r (V.ref b)])) = om4 (ω.put q (oW L)) p a b l (pdO K c) (oW []) (oW []) (OC.own [AV.r (V.ref a),AV.r (V.ref b)]):=by
    unfold om2 om4
    rw [Om.put_comm nqp.symm]
    rfl
  rw [eo]
  walk_at "s1"
  have eq1 : om4 (ω.put q (oW L)) p a b l (pdO K c) (oW []) (oW []) (OC.own [AV.r (V.ref a),AV.r (V.ref b)]) q = some (oW L):=by
    unfold om4
    rw [Om.put_ne nlq.symm,Om.put_ne nbq.symm,Om.put_ne naq.symm,Om.put_ne nqp,Om.put_same]
  rw [eq1]
  dsimp only
  refine ⟨L.map wdD,und_map _,?_⟩
  rw [om4_base nqp naq.symm nbq.symm nlq.symm]
  have hex : ∀ c' A B C,(om4 (ω.put q (.frz (L.map wdD))) p a b l (pdO K c') A B C).only ω = ω.put p (pdO K c'):=fun c' A B C=>by
    have e : om4 (ω.put q (.frz (L.map wdD))) p a b l (pdO K c') A B C = ((((ω.put p (pdO K c')).put q (.frz (L.map wdD))).put a A).put b B).put l C:=by
      unfold om4
      rw [Om.put_comm nqp.symm]
    rw [e]
    exact only_put ((((Ex.refl _).new (by rw [Om.put_ne nqp];exact hq)).new (by rw [Om.put_ne naq,Om.put_ne nap];exact ha)).new (by rw [Om.put_ne nba,Om.put_ne nbq,Om.put_ne nbp];exact hb)|>.new (by rw [Om.put_ne nlb,Om.put_ne nla,Om.put_ne nlq,Om.put_ne nlp];exact hl)) hps
  generalize (ω.put q (.frz (L.map wdD))) = ω1 at *
  have ap : ∀ W : List (List Int),∀ v,OC.own ((W.map wdD).map AV.d ++ [AV.d (wdD v)]) = oW (W ++ [v]):=fun W v=>by simp [oW]
  refine for_D (fun i ρ ω'=>∃ (c : Pq) (ys zs : List (List Int)) (v4 : Option AV),ω' = om4 ω1 p a b l (pdO K c) (oW ys) (oW zs) (OC.own [AV.r (V.ref a),AV.r (V.ref b)])∧ρ = [some (AV.r (V.ref p)),some (AV.d (D.int n)),some (AV.r (V.ref q)),some (AV.r (V.ref l)),v4,none]∧(ys ++ zs).Perm (L.take i)) ⟨c,[],[],_,rfl,rfl,List.Perm.refl _⟩ ?_ ?_
  · rintro i d ρ ω' N hd ⟨c,ys,zs,v4,rfl,rfl,hpm⟩ kN
    obtain ⟨x,hx,rfl⟩:=L2.map_get hd
    have hi:=(List.getElem?_eq_some_iff.mp hx).1
    have et : L.take (i + 1) = L.take i ++ [x]:=by rw [List.take_succ,hx];rfl
    have hpl:=hpm.length_eq
    rw [List.length_append,List.length_take] at hpl
    walk_at "a1"
    refine ⟨p,2,rfl,⟨c,om4_p h4⟩,by decide,by decide,fun u c2 u0 u1=>?_⟩
    rw [om4_pp h4]
    dsimp only
    rw [om4_3 h4]
    rcases (by omega : u = 0∨u = 1) with rfl | rfl
    · refine ⟨_,rfl,_,rfl,_,rfl,a,rfl,⟨_,om4_1 h4⟩,_,om4_1 h4,small1000 (by simp;omega),?_⟩
      rw [ap,om4_p1 h4]
      exact kN _ _ ⟨c2,ys ++ [x],zs,_,rfl,rfl,by rw [et,List.append_assoc];exact (List.perm_append_comm.append_left ys).trans (by rw [← List.append_assoc];exact hpm.append_right _)⟩
    · refine ⟨_,rfl,_,rfl,_,rfl,b,rfl,⟨_,om4_2 h4⟩,_,om4_2 h4,small1000 (by simp;omega),?_⟩
      rw [ap,om4_p2 h4]
      exact kN _ _ ⟨c2,ys,zs ++ [x],_,rfl,rfl,by rw [et,← List.append_assoc];exact hpm.append_right _⟩
  rintro ρ ω' ⟨c,ys,zs,v4,rfl,rfl,hpm⟩
  rw [List.length_map,List.take_length] at hpm
  dsimp only
  walk_at "s1"
  have dw : ∀ ws : List (List Int),dep (D.lst (ws.map wdD))≤100:=fun ws=>by simp only [dep];have:=deps_wds ws;omega
  have eqnil : ∀ ws : List (List Int),eqD (D.lst (ws.map wdD)) (D.lst []) = ws.isEmpty:=fun ws=>by cases ws<;>rfl
  refine ⟨by decide,by decide,for_rng (fun i ρ ω'=>∃ (c : Pq) (ys zs : List (List Int)) (v4 v5 : Option AV),ω' = om4 ω1 p a b l (pdO K c) (oW ys) (oW zs) (OC.own [AV.r (V.ref a),AV.r (V.ref b)])∧ρ = [some (AV.r (V.ref p)),some (AV.d (D.int n)),some (AV.r (V.ref q)),some (AV.r (V.ref l)),v4,v5]∧(ys ++ zs).Perm L∧(1≤i→ys≠[])∧(2≤i→zs≠[])) ⟨c,ys,zs,_,_,rfl,rfl,hpm,fun h=>absurd h (by decide),fun h=>absurd h (by decide)⟩ ?_ ?_⟩
  · rintro i ρ ω' N hi ⟨c,ys,zs,v4,v5,rfl,rfl,hpm,hy1,hz2⟩ kN
    have hpl:=hpm.length_eq
    rw [List.length_append] at hpl
    have hi2 : i < 2:=hi
    rcases (by omega : i = 0∨i = 1) with rfl | rfl
    · walk_at "a1"
      rw [om4_3 h4]
      refine ⟨_,rfl,_,rfl,_,by rw [datA,om4_1 h4];simp only [und_map];rfl,dw ys,?_⟩
      rw [eqnil]
      refine ite2 (fun h1=>?_) (fun h1=>kN _ _ ⟨c,ys,zs,_,_,rfl,rfl,hpm,fun _ e=>by rw [e] at h1;exact h1 rfl,fun h=>absurd h (by decide)⟩)
      have hys : ys = []:=by simpa using h1
      subst hys
      rw [List.length_nil] at hpl
      refine ⟨_,rfl,_,rfl,a,rfl,⟨_,om4_1 h4⟩,_,rfl,_,rfl,b,rfl,⟨_,om4_2 h4⟩,_,rfl,_,rfl,?_⟩
      have hz2 : 2≤zs.length:=by omega
      have el : lenA (om4 ω1 p a b l (pdO K c) (oW []) (oW zs) (OC.own [AV.r (V.ref a),AV.r (V.ref b)])) (AV.r (V.ref b)) = some zs.length:=by
        unfold lenA
        simp only [lstA]
        rw [om4_2 h4]
        simp
        rfl
      refine ⟨_,el,p,_,rfl,⟨c,om4_p h4⟩,by omega,by omega,fun u c2 u0 u1=>?_⟩
      obtain ⟨j,rfl⟩:=Int.eq_ofNat_of_zero_le u0
      have hj : j < zs.length:=by omega
      rw [om4_pp h4]
      refine ⟨_,j,rfl,om4_2 h4,by simp;omega,.d (wdD zs[j]),by simp [hj],_,by rw [om4_p2 h4,om4_1 h4],small1000 (by simp),?_⟩
      rw [er_map,er_map,om4_p2 h4,ap,om4_p1 h4]
      refine kN _ _ ⟨c2,[zs[j]],zs.eraseIdx j,_,_,rfl,rfl,(er_perm _ j hj).trans hpm,fun _=>by simp,fun h=>absurd h (by decide)⟩
    · walk_at "a1"
      rw [om4_3 h4]
      refine ⟨_,rfl,_,rfl,_,by rw [datA,om4_2 h4];simp only [und_map];rfl,dw zs,?_⟩
      rw [eqnil]
      refine ite2 (fun h1=>?_) (fun h1=>kN _ _ ⟨c,ys,zs,_,_,rfl,rfl,hpm,fun _=>hy1 (by decide),fun _ e=>by rw [e] at h1;exact h1 rfl⟩)
      have hzs : zs = []:=by simpa using h1
      subst hzs
      rw [List.length_nil] at hpl
      refine ⟨_,rfl,_,rfl,b,rfl,⟨_,om4_2 h4⟩,_,rfl,_,rfl,a,rfl,⟨_,om4_1 h4⟩,_,rfl,_,rfl,?_⟩
      have hy2 : 2≤ys.length:=by omega
      have el : lenA (om4 ω1 p a b l (pdO K c) (oW ys) (oW []) (OC.own [AV.r (V.ref a),AV.r (V.ref b)])) (AV.r (V.ref a)) = some ys.length:=by
        unfold lenA
        simp only [lstA]
        rw [om4_1 h4]
        simp
        rfl
      refine ⟨_,el,p,_,rfl,⟨c,om4_p h4⟩,by omega,by omega,fun u c2 u0 u1=>?_⟩
      obtain ⟨j,rfl⟩:=Int.eq_ofNat_of_zero_le u0
      have hj : j < ys.length:=by omega
      rw [om4_pp h4]
      refine ⟨_,j,rfl,om4_1 h4,by simp;omega,.d (wdD ys[j]),by simp [hj],_,by rw [om4_p1 h4,om4_2 h4],small1000 (by simp),?_⟩
      rw [er_map,er_map,om4_p1 h4,ap,om4_p2 h4]
      refine kN _ _ ⟨c2,ys.eraseIdx j,[ys[j]],_,_,rfl,rfl,(List.perm_append_comm.trans ((er_perm _ j hj).trans (by rw [List.append_nil] at hpm;exact hpm))),fun _ e=>?_,fun _=>by simp⟩
      have:=congrArg List.length e
      rw [List.length_eraseIdx,if_pos hj,List.length_nil] at this
      omega
  · rintro ρ ω' ⟨c,ys,zs,v4,v5,rfl,rfl,hpm,hy1,hz2⟩
    dsimp only
    walk_at "a1"
    unfold aVarFF
    refine ⟨l,_,rfl,om4_3 h4,?_⟩
    simp only [frzAs,frzA]
    rw [om4_1 h4]
    dsimp only
    refine ⟨_,und_map _,?_⟩
    rw [om4_p1 h4,om4_2 h4]
    dsimp only
    refine ⟨_,und_map _,?_⟩
    rw [om4_p2 h4]
    refine ⟨om4_3 h4,_,rfl,?_⟩
    rw [om4_p3 h4,e0,hex]
    have hpl:=hpm.length_eq
    rw [List.length_append] at hpl
    have wA:=Wds.perm wL hpm
    rw [Wds,List.nodup_append] at wA
    exact k ys zs c ⟨⟨wA.1.1,fun v hv=>wA.2 v (List.mem_append_left _ hv)⟩,⟨wA.1.2.1,fun v hv=>wA.2 v (List.mem_append_right _ hv)⟩,hy1 (by decide),hz2 (by decide),fun v hv hv2=>wA.1.2.2 v hv v hv2 rfl⟩ (by omega)
end
section
variable {P : Program} {w : World} {K : PySem.W.Frag} {mg : Str→Option Value} {base : Heap} {t : Adr}
def onB (i : Nat) (v : List Int) : Bool:=decide (v.getD i 0 = 1)
def cnd (ws : List (List Int)) (i : Nat) : Bool:=decide (0 < (ws.filter (onB i)).length) && decide ((ws.filter (onB i)).length < ws.length)
theorem cnd_no {n i : Nat} {ws : List (List Int)} (hw : Wds n ws) (h : cnd ws i = false) {u v : List Int} (hu : u∈ws) (hv : v∈ws) : u.getD i 0 = v.getD i 0:=by
  simp only [cnd,Bool.and_eq_false_iff,decide_eq_false_iff_not] at h
  have bu:=wl_bit (hw.2 u hu) i
  have bv:=wl_bit (hw.2 v hv) i
  rcases h with h | h
  · have e : ws.filter (onB i) = []:=List.length_eq_zero_iff.mp (by omega)
    have hn:=List.filter_eq_nil_iff.mp e
    have h1:=hn u hu
    have h2:=hn v hv
    simp only [onB,decide_eq_true_eq] at h1 h2
    rw [bu.resolve_right h1,bv.resolve_right h2]
  · have hle:=List.length_filter_le (onB i) ws
    have e : ws.filter (onB i) = ws:=List.filter_sublist.eq_of_length (by omega)
    have h1 : u∈ws.filter (onB i):=by rw [e];exact hu
    have h2 : v∈ws.filter (onB i):=by rw [e];exact hv
    have h1:=(List.mem_filter.mp h1).2
    have h2:=(List.mem_filter.mp h2).2
    simp only [onB,decide_eq_true_eq] at h1 h2
    rw [h1,h2]
theorem wd_ext {n : Nat} {u v : List Int} (hu : u∈wl n) (hv : v∈wl n) (h : ∀ i < n,u.getD i 0 = v.getD i 0) : u = v:=by
  have lu:=(wl_mem hu).1
  have lv:=(wl_mem hv).1
  refine List.ext_getElem (by omega) fun i h1 h2=>?_
  have:=h i (by omega)
  simpa [List.getElem?_eq_getElem h1,List.getElem?_eq_getElem h2] using this
theorem ways_some {n : Nat} {ys zs : List (List Int)} (T2 : Two n ys zs) (h : ∀ i < n,ptA i ys zs = false) : (∃ i < n,cnd ys i = true)∨∃ i < n,cnd zs i = true:=by
  by_cases h1 : ∃ i < n,cnd ys i = true
  · exact .inl h1
  by_cases h2 : ∃ i < n,cnd zs i = true
  · exact .inr h2
  exfalso
  have c1 : ∀ i < n,cnd ys i = false:=fun i hi=>by simpa using fun e=>h1 ⟨i,hi,e⟩
  have c2 : ∀ i < n,cnd zs i = false:=fun i hi=>by simpa using fun e=>h2 ⟨i,hi,e⟩
  obtain ⟨y0,yr,ey⟩:=List.exists_cons_of_ne_nil T2.y1
  obtain ⟨z0,zr,ez⟩:=List.exists_cons_of_ne_nil T2.z1
  have my : y0∈ys:=by rw [ey];exact List.mem_cons_self ..
  have mz : z0∈zs:=by rw [ez];exact List.mem_cons_self ..
  refine T2.dj y0 my ?_
  have : y0 = z0:=wd_ext (T2.y.2 _ my) (T2.z.2 _ mz) fun i hi=>by
    have hp:=h i hi
    simp only [ptA,Bool.and_eq_false_iff,List.all_eq_false,ey,List.headD_cons] at hp
    rcases hp with ⟨v,hv,hne⟩ | ⟨v,hv,hne⟩
    · rw [← ey] at hv
      exact absurd (decide_eq_true (cnd_no T2.y (c1 i hi) hv my)) hne
    · have e1:=cnd_no T2.z (c2 i hi) hv mz
      simp only [Bool.not_eq_true,Bool.not_eq_false',decide_eq_true_eq] at hne
      rw [← hne,e1]
  rw [this]
  exact mz
def hdS (h : Bool) : Str:=if h then "yes" else "no"
def wyD (h : Bool) (S : List (List Int)) : D:=.tup [.str (hdS h),.tup (S.map wdD)]
def waysL (h : Bool) (ws : List (List Int)) (m : Nat) : List D:=((List.range m).filter (cnd ws)).map fun i=>wyD h (ws.filter (onB i))
theorem waysL_succ {h : Bool} {ws : List (List Int)} {m : Nat} : waysL h ws (m + 1) = waysL h ws m ++ if cnd ws m then [wyD h (ws.filter (onB m))] else []:=by
  simp only [waysL,List.range_succ,List.filter_append,List.map_append]
  congr 1
  cases e : cnd ws m<;>simp [e]
theorem split_sum {n : Nat} {ws S : List (List Int)} (hw : Wds n ws) (hs : S.Sublist ws) : (ws.filter fun v=>decide (v∈S) == true).length = S.length∧(ws.filter fun v=>decide (v∈S) == false).length + S.length = ws.length:=by
  have h1 : (ws.filter fun v=>decide (v∈S) == true).length = S.length:=by
    have p : (ws.filter fun v=>decide (v∈S) == true).Perm S:=by
      refine (List.perm_ext_iff_of_nodup (hw.1.sublist List.filter_sublist) (hw.1.sublist hs)).mpr fun v=>?_
      simp only [List.mem_filter,beq_true,decide_eq_true_eq]
      exact ⟨fun h=>h.2,fun h=>⟨hs.mem h,h⟩⟩
    exact p.length_eq
  refine ⟨h1,?_⟩
  have key : ∀ ws : List (List Int),(ws.filter fun v=>decide (v∈S) == false).length + (ws.filter fun v=>decide (v∈S) == true).length = ws.length:=fun ws=>by
    induction ws with
    | nil=>rfl
    | cons v ws ih =>
      simp only [List.filter_cons]
      cases decide (v∈S)<;>simp<;>simp at ih<;>omega
  have:=key ws
  omega
def sp_by (K : PySem.W.Frag) (r : Nat) : ASp:=fun xs ω Q=>∃ (p : Addr) (n : Nat) (ys zs : List (List Int)),xs = [.r (.ref p),.d (.int n),.d (.lst (ys.map wdD)),.d (.lst (zs.map wdD))]∧PdAt K ω p∧1≤n∧n≤5∧Two n ys zs∧ys.length + zs.length≤r + 2∧∀ (v : Ta) (c : Pq),v.ok n→v.dp≤r→v.lvs≤ys.length * zs.length→Q (.d v.d) (ω.put p (pdO K c))
theorem by_step (T : Txt K mg t) (r : Nat) (kk : Nat) (sp : ASp) (hk : 1≤kk) (G_l_by_places : FnOk P w K mg base CX0 kk t.a_l_by_places t.d_l_by_places ["_law_start","_law_places","_law_yes","_law_no"] (lift sp))
    (hs : ∀ r',r = r' + 1→sp = sp_by K r') : FnOk P w K mg base CX0 (kk + 1) t.a_l_by_places t.d_l_by_places ["_law_start","_law_places","_law_yes","_law_no"] (lift (sp_by K r)):=by
  have G_l_pull : FnOk P w K mg base CX0 1 t.a_l_pull t.d_l_pull ["_law_start","_law_below"] (lift (sp_draw K)):=ok_draw T
  have G_l_parts_all : FnOk P w K mg base CX0 1 t.a_l_parts_all t.d_l_parts_all ["_law_at","_law_yes","_law_no"] (lift sp_pta):=ok_pta T
  refine T.f_l_by_places.okD sc_l_by_places (fun xs ω Q h=>by obtain ⟨p,n,ys,zs,rfl,_⟩:=h;rfl) (fun cdv A outer s H E hr=>⟨_,_,(pss_cons (ps_setC (i:=4) sc_l_by_places.nd rfl (Or.inl rfl) (N:=(["_law_at","_law_yes","_law_no"] : List Str)) (src:=[none,some 2,some 3]) rfl (by show blkOk _ (defScope s_l_by_places) _ _ (["_law_start","_law_places","_law_yes","_law_no","_law_ends","_law_ways","_law_hand","_law_words","_law_at","_law_says","_law_both","_law_told_here"] : List Str) = true;decide +kernel) (by intro g' h;cases h) (pi_range1 rfl T.b_range (pa_cons (pv 1) pa_nil)) (fun _ _ _ _ _ _=>(pg_name (i:=0) (show (["_law_at","_law_yes","_law_no"] : List Str).Nodup by decide +kernel) rfl (Or.inl rfl))) (fun _ _ _ _ _ _=>(pts_one (pt_truthK K rfl (pe_call G_l_parts_all (hr.mono (by omega)) (by rfl) T.m_l_parts_all T.k_l_parts_all T.p_l_parts_all .nil pass0 (pa_cons (pv 0) (pa_cons (pv 1) (pa_cons (pv 2) pa_nil)))) (fun _=>rfl)))) (fun _ _ _ _ _ _=>(pl_last rfl rfl (pv 0))))
      (pss_cons (ps_if (pt_cmpR (op_neD hr.u100) (pv 4) (pe_lst pa_nil) (nomark _)) (pss_one (ps_ret (pe_tup (pa_consC pe_str (pa_cons (pe_ix (ix_seqK K rfl) (pv 4) (pe_call G_l_pull (hr.mono (by omega)) (by rfl) T.m_l_pull T.k_l_pull T.p_l_pull .nil pass0 (pa_cons (pv 0) (pa_cons (pe_callB (call_lenK K rfl) (by rfl) T.b_len (by kernel_rfl) (pa_cons (pv 4) pa_nil)) pa_nil))) (fun _ _=>rfl)) pa_nil))))) pss_nil)
      (pss_cons (ps_set (i:=5) sc_l_by_places.nd rfl (Or.inl rfl) (pe_lst pa_nil))
      (pss_cons (ps_for PassesOwn.never rfl (pi_seq K rfl (pe_lst (pa_consT (pe_tup (pa_consC pe_str (pa_cons (pv 2) pa_nil))) (pa_consT (pe_tup (pa_consC pe_str (pa_cons (pv 3) pa_nil))) pa_nil)))) (pg_tupK K rfl (n:=2) rfl (pgs_cons (pg_name (i:=6) sc_l_by_places.nd rfl (Or.inl rfl)) (pgs_cons (pg_name (i:=7) sc_l_by_places.nd rfl (Or.inl rfl)) pgs_nil))) (pss_one (ps_for PassesOwn.never rfl (pi_range1 rfl T.b_range (pa_cons (pv 1) pa_nil)) (pg_name (i:=8) sc_l_by_places.nd rfl (Or.inr rfl)) (pss_cons (ps_set (i:=9) sc_l_by_places.nd rfl (Or.inr rfl) (pe_callTy (call_tuple_ofK K rfl) (by rfl) T.b_tuple (by kernel_rfl) (pa_cons (pe_comp (N:=(["_law_word","_law_at"] : List Str)) (src:=[none,some 8]) rfl (by show blkOk _ (defScope s_l_by_places) _ _ (["_law_start","_law_places","_law_yes","_law_no","_law_ends","_law_ways","_law_hand","_law_words","_law_at","_law_says","_law_both","_law_told_here"] : List Str) = true;decide +kernel) (by intro g' h;cases h) (pi_seq K rfl (pv 7)) (fun _ _ _ _ _ _=>(pg_name (i:=0) (show (["_law_word","_law_at"] : List Str).Nodup by decide +kernel) rfl (Or.inl rfl))) (fun _ _ _ _ _ _=>(pts_one (pt_cmpR (op_eqD hr.u100) (pe_ix (ix_seqK K rfl) (pv 0) (pv 1) (fun _ _=>rfl)) pe_int (nomark _)))) (fun _ _ _ _ _ _=>(pl_last rfl rfl (pv 0)))) pa_nil)))
      (pss_one (ps_if (pt_chain op_lt op_lt pe_int (pe_callB (call_lenK K rfl) (by rfl) T.b_len (by kernel_rfl) (pa_cons (pv 9) pa_nil)) (pe_callB (call_lenK K rfl) (by rfl) T.b_len (by kernel_rfl) (pa_cons (pv 7) pa_nil))) (pss_one (ps_expr (pe_bm PySem.F.plainAttrs_list PySem.F.slot_list_append PySem.F.type_list_append mt_append (pv 5) (pa_consT (pe_tup (pa_cons (pv 6) (pa_cons (pv 9) pa_nil))) pa_nil)))) pss_nil))))))
      (pss_cons (ps_asg (pe_ix (ix_seqK K rfl) (pv 5) (pe_call G_l_pull (hr.mono (by omega)) (by rfl) T.m_l_pull T.k_l_pull T.p_l_pull .nil pass0 (pa_cons (pv 0) (pa_cons (pe_callB (call_lenK K rfl) (by rfl) T.b_len (by kernel_rfl) (pa_cons (pv 5) pa_nil)) pa_nil))) (fun _ _=>rfl)) (pg_tupK K rfl (n:=2) rfl (pgs_cons (pg_name (i:=6) sc_l_by_places.nd rfl (Or.inl rfl)) (pgs_cons (pg_name (i:=9) sc_l_by_places.nd rfl (Or.inr rfl)) pgs_nil))))
      (pss_cons (ps_set (i:=10) sc_l_by_places.nd rfl (Or.inl rfl) (pe_lst pa_nil))
      (pss_cons (ps_for PassesOwn.never rfl (pi_seq K rfl (pe_tup (pa_consC pe_bl (pa_consC pe_bl pa_nil)))) (pg_name (i:=11) sc_l_by_places.nd rfl (Or.inr rfl)) (pss_one (ps_if (pt_cmpR (op_eqD hr.u100) (pv 6) pe_str (nomark _)) (pss_one (ps_expr (pe_bm PySem.F.plainAttrs_list PySem.F.slot_list_append PySem.F.type_list_append mt_append (pv 10) (pa_cons (pe_call G_l_by_places (hr.mono (by omega)) (by rfl) T.m_l_by_places T.k_l_by_places T.p_l_by_places .nil pass0 (pa_cons (pv 0) (pa_cons (pv 1) (pa_cons (pe_comp (N:=(["_law_word","_law_says","_law_told_here"] : List Str)) (src:=[none,some 9,some 11]) rfl (by show blkOk _ (defScope s_l_by_places) _ _ (["_law_start","_law_places","_law_yes","_law_no","_law_ends","_law_ways","_law_hand","_law_words","_law_at","_law_says","_law_both","_law_told_here"] : List Str) = true;decide +kernel) (by intro g' h;cases h) (pi_seq K rfl (pv 2)) (fun _ _ _ _ _ _=>(pg_name (i:=0) (show (["_law_word","_law_says","_law_told_here"] : List Str).Nodup by decide +kernel) rfl (Or.inl rfl))) (fun _ _ _ _ _ _=>(pts_one (pt_cmpR (op_eqD hr.u100) (pe_cmpR (op_inD hr.u100) (pv 0) (pv 1) (by with_unfolding_all rfl)) (pv 2) (nomark _)))) (fun _ _ _ _ _ _=>(pl_last rfl rfl (pv 0)))) (pa_cons (pv 3) pa_nil))))) pa_nil)))) (pss_one (ps_expr (pe_bm PySem.F.plainAttrs_list PySem.F.slot_list_append PySem.F.type_list_append mt_append (pv 10) (pa_cons (pe_call G_l_by_places (hr.mono (by omega)) (by rfl) T.m_l_by_places T.k_l_by_places T.p_l_by_places .nil pass0 (pa_cons (pv 0) (pa_cons (pv 1) (pa_cons (pv 2) (pa_cons (pe_comp (N:=(["_law_word","_law_says","_law_told_here"] : List Str)) (src:=[none,some 9,some 11]) rfl (by show blkOk _ (defScope s_l_by_places) _ _ (["_law_start","_law_places","_law_yes","_law_no","_law_ends","_law_ways","_law_hand","_law_words","_law_at","_law_says","_law_both","_law_told_here"] : List Str) = true;decide +kernel) (by intro g' h;cases h) (pi_seq K rfl (pv 3)) (fun _ _ _ _ _ _=>(pg_name (i:=0) (show (["_law_word","_law_says","_law_told_here"] : List Str).Nodup by decide +kernel) rfl (Or.inl rfl))) (fun _ _ _ _ _ _=>(pts_one (pt_cmpR (op_eqD hr.u100) (pe_cmpR (op_inD hr.u100) (pv 0) (pv 1) (by with_unfolding_all rfl)) (pv 2) (nomark _)))) (fun _ _ _ _ _ _=>(pl_last rfl rfl (pv 0)))) pa_nil))))) pa_nil)))))))
      (pss_one (ps_ret (pe_tup (pa_cons (pv 6) (pa_cons (pv 9) (pa_cons (pe_ix (ix_seqK K rfl) (pv 10) pe_int (fun _ _=>rfl)) (pa_cons (pe_ix (ix_seqK K rfl) (pv 10) pe_int (fun _ _=>rfl)) pa_nil)))))))))))))),(s_seq (s_asg (e_comp (i_rng1 (a_cons e_var a_nil)) g_name (t_tru (e_call (a_cons e_var (a_cons e_var (a_cons e_var a_nil))))) (l_last e_var)) g_name)
      (s_seq (s_if (t_test (e_op o_eqD e_var (e_lst a_nil))) (s_ret (e_tup (a_cons e_str (a_cons (e_op o_ix e_var (e_call (a_cons e_var (a_cons (e_cb c_len (a_cons e_var a_nil)) a_nil)))) a_nil)))) s_next)
      (s_seq (s_asg (e_lstO a_nil) g_name)
      (s_seq (s_for (i_seq (e_lst (a_cons (e_tup (a_cons e_str (a_cons e_var a_nil))) (a_cons (e_tup (a_cons e_str (a_cons e_var a_nil))) a_nil)))) (g_tup (g_cons g_name (g_cons g_name g_nil))) (s_for (i_rng1 (a_cons e_var a_nil)) g_name (s_seq (s_asg (e_cb c_tuple (a_cons (e_comp (i_seq e_var) g_name (t_test (e_op o_eqD (e_op o_ix e_var e_var) e_int)) (l_last e_var)) a_nil)) g_name)
      (s_if (t_test (e_chain o_I0b o_I0b e_int (e_cb c_len (a_cons e_var a_nil)) (e_cb c_len (a_cons e_var a_nil)))) (s_drop (e_append e_var (a_cons (e_tup (a_cons e_var (a_cons e_var a_nil))) a_nil))) s_next))))
      (s_seq (s_asg (e_op o_ix e_var (e_call (a_cons e_var (a_cons (e_cb c_len (a_cons e_var a_nil)) a_nil)))) (g_tup (g_cons g_name (g_cons g_name g_nil))))
      (s_seq (s_asg (e_lstO a_nil) g_name)
      (s_seq (s_for (i_seq (e_tup (a_cons e_bl (a_cons e_bl a_nil)))) g_name (s_if (t_test (e_op o_eqD e_var e_str)) (s_drop (e_append e_var (a_cons (e_call (a_cons e_var (a_cons e_var (a_cons (e_comp (i_seq e_var) g_name (t_test (e_op o_eqD (e_op o_in e_var e_var) e_var)) (l_last e_var)) (a_cons e_var a_nil))))) a_nil))) (s_drop (e_append e_var (a_cons (e_call (a_cons e_var (a_cons e_var (a_cons e_var (a_cons (e_comp (i_seq e_var) g_name (t_test (e_op o_eqD (e_op o_in e_var e_var) e_var)) (l_last e_var)) a_nil))))) a_nil)))))
      (s_ret (e_tup (a_cons e_var (a_cons e_var (a_cons (e_op o_ix e_var e_int) (a_cons (e_op o_ix e_var e_int) a_nil))))))))))))),fun xs ω Q h=>?_⟩)
  obtain ⟨p,n,ys,zs,rfl,hp,hn1,hn,T2,hsum,k⟩:=h
  have hyl:=T2.y.le hn
  have hzl:=T2.z.le hn
  walk_at "s1"
  have ptD : ∀ i : Nat,i < n→∀ {v0 v1 : AV} (Q' : Bool→Om→Prop),Q' (ptA i ys zs) ω→aTru (aCall sp_pta (aCons (aVar 0) (aCons (aVar 1) (aCons (aVar 2) aNil)))) [some (.d (.int (0 + (i : Nat)))),some (AV.d (D.lst (ys.map wdD))),some (AV.d (D.lst (zs.map wdD)))] ω Q':=fun i hi v0 v1 Q' q=>by
    walk_at "a1"
    exact ⟨n,i,ys,zs,by simp,hn,hi,T2.y,T2.z,T2.y1,_,rfl,q⟩
  refine ⟨by omega,by omega,comp_gf (xs:=List.range n) (fun ρ=>∃ v,ρ = [v,some (AV.d (D.lst (ys.map wdD))),some (AV.d (D.lst (zs.map wdD)))]) ⟨_,rfl⟩ (fun i=>.d (.int (0 + (i : Nat)))) (fun i=>ptA i ys zs) (fun i=>.int (i : Nat)) rfl (Nat.le_of_lt (small1000 (by simp;omega))) (fun i ρ N hi ⟨v,e⟩ kN=>?_) (fun ρ _=>⟨_,und_map _,?_⟩)⟩
  · subst e
    rw [agName_eq,List.set_cons_zero]
    refine kN _ ⟨_,rfl⟩ (fun Q' q=>ptD i (List.mem_range.mp hi) (v0:=.d .non) (v1:=.d .non) Q' q) (fun _ Q' q=>?_)
    walk_at "a1"
    simpa using q
  generalize hE : (List.range n).filter (fun i=>ptA i ys zs) = Es
  have hEl : Es.length≤n:=by
    have:=List.length_filter_le (fun i=>ptA i ys zs) (List.range n)
    rw [hE,List.length_range] at this
    exact this
  have hEm : ∀ i∈Es,i < n:=fun i hi=>by
    rw [← hE] at hi
    exact List.mem_range.mp (List.mem_filter.mp hi).1
  walk_at "s1"
  refine ⟨by simp only [dep];have : deps (Es.map fun (i : Nat)=>D.int (i : Int))≤0:=deps_le (fun d hd=>by obtain ⟨i,_,rfl⟩:=List.mem_map.mp hd;simp [dep]);omega,?_⟩
  have hy1:=List.length_pos_iff.mpr T2.y1
  have hz1:=List.length_pos_iff.mpr T2.z1
  have hmul:=Nat.mul_pos hy1 hz1
  by_cases hEe : Es≠[]
  · obtain ⟨e0,er,rfl⟩:=List.exists_cons_of_ne_nil hEe
    rw [if_pos (show (!eqD (D.lst (List.map (fun (i : Nat)=>D.int (i : Int)) (e0 :: er))) (D.lst [])) = true from rfl)]
    refine ⟨p,_,rfl,hp,by simp,by omega,fun j c j0 j1=>⟨j,rfl,?_⟩⟩
    obtain ⟨j,rfl⟩:=Int.eq_ofNat_of_zero_le j0
    have hj : j < (e0 :: er).length:=by omega
    refine ⟨.d (.int ((e0 :: er)[j] : Nat)),atI_of j rfl (by rw [List.getElem?_map,List.getElem?_map,List.getElem?_eq_getElem hj];rfl),_,rfl,?_⟩
    rw [only_pd hp]
    have hm:=hEm _ (List.getElem_mem hj)
    exact k (.en ((e0 :: er)[j] : Nat)) c ⟨by omega,by omega⟩ (Nat.zero_le _) (by simp only [Ta.lvs];omega)
  have hEe : Es = []:=Classical.not_not.mp hEe
  subst hEe
  rw [if_neg (by decide)]
  have hno : ∀ i < n,ptA i ys zs = false:=fun i hi=>by
    have:=List.filter_eq_nil_iff.mp hE i (List.mem_range.mpr hi)
    simpa using this
  walk_at "s1"
  intro lw hlw
  have hpl:=hp.ne hlw
  walk_at "s1"
  let wU : Nat→List D:=fun i=>(if 1≤i then waysL true ys n else []) ++ if 2≤i then waysL false zs n else []
  have wlen : ∀ h ws m,(waysL h ws m).length≤m:=fun h ws m=>by
    rw [waysL,List.length_map]
    have:=List.length_filter_le (cnd ws) (List.range m)
    rw [List.length_range] at this
    exact this
  have wUl : ∀ i,(wU i).length≤2 * n:=fun i=>by
    have a1:=wlen true ys n
    have a2:=wlen false zs n
    show ((if 1≤i then waysL true ys n else []) ++ if 2≤i then waysL false zs n else []).length≤_
    rw [List.length_append]
    split<;>split<;>(try simp only [List.length_nil])<;>omega
  show aForL _ _ _ (List.map AV.d [D.tup [.str (Str.ofString "yes"),.lst (ys.map wdD)],D.tup [.str (Str.ofString "no"),.lst (zs.map wdD)]]) _ _
  refine for_D (fun i ρ ω'=>∃ v6 v7 v8 v9 : Option AV,ω' = ω.put lw (.own ((wU i).map AV.d))∧ρ = [some (.r (.ref p)),some (.d (.int n)),some (.d (.lst (ys.map wdD))),some (.d (.lst (zs.map wdD))),some (.d (.lst [])),some (.r (.ref lw)),v6,v7,v8,v9,none,none]) ⟨_,_,_,_,rfl,rfl⟩ ?_ ?_
  · rintro i d ρ ω' N hd ⟨v6,v7,v8,v9,rfl,rfl⟩ kN
    obtain ⟨h,ws,hw,rfl,eW⟩ : ∃ (h : Bool) (ws : List (List Int)),Wds n ws∧d = .tup [.str (hdS h),.lst (ws.map wdD)]∧wU (i + 1) = wU i ++ waysL h ws n:=by
      rcases i with _ | _ | i
      · cases hd
        exact ⟨true,ys,T2.y,rfl,by show (waysL true ys n ++ []) = ([] ++ []) ++ _;simp⟩
      · cases hd
        exact ⟨false,zs,T2.z,rfl,by show (waysL true ys n ++ waysL false zs n) = (waysL true ys n ++ []) ++ _;simp⟩
      · simp at hd
    have hwl:=hw.le hn
    have hWl:=wUl i
    generalize wU i = W at *
    walk_at "a1"
    refine ⟨by omega,by omega,for_rng (fun m ρ ω'=>∃ v8 v9 : Option AV,ω' = ω.put lw (.own ((W ++ waysL h ws m).map AV.d))∧ρ = [some (.r (.ref p)),some (.d (.int n)),some (.d (.lst (ys.map wdD))),some (.d (.lst (zs.map wdD))),some (.d (.lst [])),some (.r (.ref lw)),some (.d (.str (hdS h))),some (.d (.lst (ws.map wdD))),v8,v9,none,none]) ⟨_,_,by simp [waysL],rfl⟩ ?_ ?_⟩
    · rintro m ρ ω' N2 hm ⟨v8,v9,rfl,rfl⟩ kN2
      walk_at "s1"
      have hm' : m < n:=hm
      have hwm:=wlen h ws m
      refine comp_ft wdD (onB m) wdD (Nat.le_of_lt (small1000 (by omega))) (fun v hv Q q=>?_) (fun v hv _ Q q=>?_) (fun ρ=>⟨_,und_map _,?_⟩)
      · have hvn : v.length = n:=(wl_mem (hw.2 v hv)).1
        obtain ⟨z,mz,hz',ez⟩:=map_nth (f:=AV.d ∘ D.int) (xs:=v) (i:=(m : Int)) (by omega) (by omega)
        rw [← List.map_map] at ez
        have ev : v.getD m 0 = z:=by rw [List.getD_eq_getElem?_getD,show v[m]? = some z from hz'];rfl
        walk_at "a1"
        rw [Int.zero_add]
        refine ⟨_,ez,_,rfl,by simp [dep],?_⟩
        rw [eqD_int,show (z == 1) = onB m v from by unfold onB;rw [ev];rfl]
        exact q
      · walk_at "a1"
        exact q
      rw [List.length_map]
      have cut : cnd ws m = false→waysL h ws (m + 1) = waysL h ws m:=fun e=>by rw [waysL_succ,e];simp
      refine ite2 (fun a1=>ite2 (fun a2=>?_) (fun a2=>kN2 _ _ ⟨_,_,by rw [cut (by simp only [cnd,Bool.and_eq_false_iff,decide_eq_false_iff_not];right;omega)],rfl⟩)) (fun a1=>kN2 _ _ ⟨_,_,by rw [cut (by simp only [cnd,Bool.and_eq_false_iff,decide_eq_false_iff_not];left;omega)],rfl⟩)
      have hc : cnd ws m = true:=by simp only [cnd,Bool.and_eq_true,decide_eq_true_eq];omega
      refine ⟨⟨_,Om.put_same⟩,_,Om.put_same,small1000 (by simp;omega),?_⟩
      rw [Om.put_put]
      refine kN2 _ _ ⟨_,_,?_,rfl⟩
      rw [waysL_succ,hc,if_pos rfl]
      simp [wyD]
    · rintro ρ ω' ⟨v8,v9,rfl,rfl⟩
      exact kN _ _ ⟨_,_,_,_,by rw [eW],rfl⟩
  rintro ρ ω' ⟨v6,v7,v8,v9,rfl,rfl⟩
  have eU : wU 2 = waysL true ys n ++ waysL false zs n:=rfl
  dsimp only
  walk_at "s1"
  have hU : ∀ d∈wU 2,∃ (h : Bool) (i : Nat),i < n∧cnd (if h then ys else zs) i = true∧d = wyD h ((if h then ys else zs).filter (onB i)):=fun d hd=>by
    rw [eU] at hd
    rcases List.mem_append.mp hd with hd | hd
    · obtain ⟨i,hi,rfl⟩:=List.mem_map.mp hd
      obtain ⟨h1,h2⟩:=List.mem_filter.mp hi
      exact ⟨true,i,List.mem_range.mp h1,h2,rfl⟩
    · obtain ⟨i,hi,rfl⟩:=List.mem_map.mp hd
      obtain ⟨h1,h2⟩:=List.mem_filter.mp hi
      exact ⟨false,i,List.mem_range.mp h1,h2,rfl⟩
  have hU0 : wU 2≠[]:=by
    rw [eU]
    rcases ways_some T2 hno with ⟨i,hi,hc⟩ | ⟨i,hi,hc⟩
    · exact List.ne_nil_of_mem (List.mem_append_left _ (List.mem_map.mpr ⟨i,List.mem_filter.mpr ⟨List.mem_range.mpr hi,hc⟩,rfl⟩))
    · exact List.ne_nil_of_mem (List.mem_append_right _ (List.mem_map.mpr ⟨i,List.mem_filter.mpr ⟨List.mem_range.mpr hi,hc⟩,rfl⟩))
  have hUl:=wUl 2
  have hUp:=List.length_pos_iff.mpr hU0
  generalize wU 2 = U at *
  refine ⟨p,_,rfl,by obtain ⟨c,e⟩:=hp;exact ⟨c,by rw [Om.put_ne hpl];exact e⟩,by omega,by omega,fun j c j0 j1=>?_⟩
  obtain ⟨j,rfl⟩:=Int.eq_ofNat_of_zero_le j0
  have hj : j < U.length:=by omega
  obtain ⟨h,i,hi,hc,ed⟩:=hU _ (List.getElem_mem hj)
  rw [Om.put_comm hpl]
  have ex1 : ∀ (c' : Pq) (A : OC),PdAt K ((ω.put p (pdO K c')).put lw A) p:=fun c' A=>⟨c',by rw [Om.put_ne hpl,Om.put_same]⟩
  refine ⟨U.map AV.d,by rw [Om.put_same],_,rfl,.d U[j],atI_of j rfl (by simp [hj]),_,by rw [ed];rfl,rfl,_,_,rfl,_,_,rfl,rfl,?_⟩
  have hWt : Wds n (if h then ys else zs):=by cases h;exact T2.z;exact T2.y
  simp only [cnd,Bool.and_eq_true,decide_eq_true_eq] at hc
  have hS : ((if h then ys else zs).filter (onB i)).Sublist (if h then ys else zs):=List.filter_sublist
  generalize (if h then ys else zs).filter (onB i) = S at *
  obtain ⟨s1,s2⟩:=split_sum hWt hS
  walk_at "s1"
  intro lb hlb
  obtain ⟨nbl,hlb⟩:=put_free hlb
  obtain ⟨nbp,hlb⟩:=put_free hlb
  have hlen : (if h then ys else zs).length≤ys.length + zs.length:=by cases h<;>simp
  obtain ⟨r',rfl⟩ : ∃ r',r = r' + 1:=⟨r - 1,by
    have : (if h then ys else zs).length + 1≤ys.length + zs.length:=by cases h<;>simp<;>omega
    omega⟩
  cases hs r' rfl
  have hWl:=hWt.le hn
  have hSl : S.length≤32:=by omega
  have cmpr : ∀ (ws : List (List Int)) (b : Bool) (ω' : Om) {v0 : Option AV} {KK : List AV→SA→Om→Prop},ws.length≤32→(∀ ρ,KK (((ws.filter fun v=>decide (v∈S) == b).map wdD).map AV.d) ρ ω')→aLoop (agName 0) (aTest (aOp (aEqD false) (aOp (aIn false) (aVar 0) (aVar 1)) (aVar 2))) (aLast (aVar 0)) ((ws.map wdD).map AV.d) [] [v0,some (.d (.tup (S.map wdD))),some (.d (.bl b))] ω' KK:=fun ws b ω' v0 KK hl hk=>by
    refine comp_ft wdD (fun v=>decide (v∈S) == b) wdD (Nat.le_of_lt (small1000 (by omega))) (fun v hv Q q=>?_) (fun v hv _ Q q=>?_) hk
    · walk_at "a1"
      refine ⟨by have:=deps_wds S;omega,?_⟩
      rw [inD_wd]
      exact q
    · walk_at "a1"
      exact q
  show aSeq _ _ _ _ (om3 ω p lw lb (pdO K c) (.own (U.map AV.d)) (.own []))
  walk_at "s1"
  show aForL _ _ _ (List.map AV.d [D.bl false,D.bl true]) _ _
  have two : ∀ b,Two n (if h then ys.filter (fun v=>decide (v∈S) == b) else ys) (if h then zs else zs.filter (fun v=>decide (v∈S) == b)):=fun b=>by
    have hf : ∀ ws : List (List Int),Wds n ws→Wds n (ws.filter fun v=>decide (v∈S) == b):=fun ws hw=>⟨hw.1.sublist List.filter_sublist,fun v hv=>hw.2 v (List.mem_filter.mp hv).1⟩
    have hne : ((if h then ys else zs).filter fun v=>decide (v∈S) == b)≠[]:=fun e=>by
      cases b
      · rw [e] at s2;simp at s2;omega
      · rw [e] at s1;simp at s1;omega
    cases h
    · exact ⟨T2.y,hf _ T2.z,T2.y1,hne,fun v hv hv2=>T2.dj v hv (List.mem_filter.mp hv2).1⟩
    · exact ⟨hf _ T2.y,T2.z,hne,T2.z1,fun v hv=>T2.dj v (List.mem_filter.mp hv).1⟩
  have n1 : p≠lb:=nbp.symm
  have n2 : lw≠lb:=nbl.symm
  have fin : ∀ (c' : Pq) (A B : OC),(om3 ω p lw lb (pdO K c') A B).only ω = ω.put p (pdO K c'):=fun c' A B=>by
    unfold om3
    exact only_put (((Ex.refl _).new (by rw [Om.put_ne hpl.symm];exact hlw)).new (by rw [Om.put_ne nbl,Om.put_ne nbp];exact hlb)) hp.some
  cases h
  · simp only [hdS,Bool.false_eq_true,if_false] at *
    rw [List.map_cons,aForL_cons]
    walk_at "a1"
    refine ⟨⟨_,om3_2⟩,cmpr zs false _ hzl fun ρ=>⟨_,und_map _,?_⟩⟩
    refine ⟨p,n,ys,(zs.filter (fun v=>decide (v∈S) == false)),rfl,⟨c,om3_p hpl n1⟩,hn1,hn,two false,by omega,fun v0 c0 a1 a2 a3=>?_⟩
    rw [om3_pp hpl n1]
    refine ⟨_,om3_2,small1000 (by simp),?_⟩
    rw [om3_p2,aForL_cons]
    walk_at "a1"
    refine ⟨⟨_,om3_2⟩,cmpr zs true _ hzl fun ρ=>⟨_,und_map _,?_⟩⟩
    refine ⟨p,n,ys,(zs.filter (fun v=>decide (v∈S) == true)),rfl,⟨c0,om3_p hpl n1⟩,hn1,hn,two true,by omega,fun v1 c1 b1 b2 b3=>?_⟩
    rw [om3_pp hpl n1]
    refine ⟨_,om3_2,small1000 (by simp),?_⟩
    rw [om3_p2]
    refine ⟨_,rfl,_,rfl,_,rfl,?_⟩
    rw [fin]
    refine k (.nd false S v0 v1) c1 ⟨⟨hWt.1.sublist hS,fun v hv=>hWt.2 v (hS.mem hv)⟩,a1,b1⟩ (by simp only [Ta.dp];omega) ?_
    simp only [Ta.lvs]
    rw [show zs.length = (zs.filter (fun v=>decide (v∈S) == false)).length + (zs.filter (fun v=>decide (v∈S) == true)).length from by omega,Nat.mul_add]
    omega
  · simp only [hdS,if_true] at *
    rw [List.map_cons,aForL_cons]
    walk_at "a1"
    refine ⟨⟨_,om3_2⟩,cmpr ys false _ hyl fun ρ=>⟨_,und_map _,?_⟩⟩
    refine ⟨p,n,(ys.filter (fun v=>decide (v∈S) == false)),zs,rfl,⟨c,om3_p hpl n1⟩,hn1,hn,two false,by omega,fun v0 c0 a1 a2 a3=>?_⟩
    rw [om3_pp hpl n1]
    refine ⟨_,om3_2,small1000 (by simp),?_⟩
    rw [om3_p2,aForL_cons]
    walk_at "a1"
    refine ⟨⟨_,om3_2⟩,cmpr ys true _ hyl fun ρ=>⟨_,und_map _,?_⟩⟩
    refine ⟨p,n,(ys.filter (fun v=>decide (v∈S) == true)),zs,rfl,⟨c0,om3_p hpl n1⟩,hn1,hn,two true,by omega,fun v1 c1 b1 b2 b3=>?_⟩
    rw [om3_pp hpl n1]
    refine ⟨_,om3_2,small1000 (by simp),?_⟩
    rw [om3_p2]
    refine ⟨_,rfl,_,rfl,_,rfl,?_⟩
    rw [fin]
    refine k (.nd true S v0 v1) c1 ⟨⟨hWt.1.sublist hS,fun v hv=>hWt.2 v (hS.mem hv)⟩,a1,b1⟩ (by simp only [Ta.dp];omega) ?_
    simp only [Ta.lvs]
    rw [show ys.length = (ys.filter (fun v=>decide (v∈S) == false)).length + (ys.filter (fun v=>decide (v∈S) == true)).length from by omega,Nat.add_mul]
    omega
theorem ok_by (T : Txt K mg t) : ∀ r,FnOk P w K mg base CX0 (r + 2) t.a_l_by_places t.d_l_by_places ["_law_start","_law_places","_law_yes","_law_no"] (lift (sp_by K r))
  | 0=>by_step T 0 1 noSp (Nat.le_refl _) fn_no (fun r' h=>by omega)
  | r + 1=>by_step T (r + 1) (r + 2) _ (by omega) (ok_by T r) (fun r' h=>by cases h;rfl)
end
section
variable {P : Program} {w : World} {K : PySem.W.Frag} {mg : Str→Option Value} {base : Heap} {t : Adr}
def lfB : Tr→Bool
  | .lf _=>true
  | .nd _ _ _=>false
theorem tr_head {u : Tr} {lw : Str} (ho : u.ok lw) : ∃ (ds : List D) (z : Str),u.d = .tup ds∧atI (ds.map AV.d) 0 = some (.d (.str z))∧(z = lw↔lfB u = true):=by
  cases u with
  | lf x =>
    refine ⟨x,lw,rfl,atI_of 0 rfl (by rw [List.getElem?_map,ho.1];rfl),by simp [lfB]⟩
  | nd x l r =>
    obtain ⟨⟨w0,hw0,hw0n⟩,_⟩:=ho
    refine ⟨x ++ [l.d,r.d],w0,rfl,atI_of 0 rfl ?_,by simp [lfB,hw0n]⟩
    rw [List.getElem?_map,List.getElem?_append_left (List.getElem?_eq_some_iff.mp hw0).1,hw0];rfl
theorem atI_m1 {α : Type} {xs : List α} {a b : α} : atI (xs ++ [a,b]) (-1) = some b∧atI (xs ++ [a,b]) (-2) = some a:=by
  constructor
  · have e : xs ++ [a,b] = (xs ++ [a]) ++ [b]:=by simp
    rw [e];exact atI_lastS
  · unfold atI ixN
    rw [if_neg (by decide),if_pos (by simp;omega)]
    show (xs ++ [a,b])[((-2 : Int) + ((xs ++ [a,b]).length : Nat)).toNat]? = some a
    have : ((-2 : Int) + ((xs ++ [a,b]).length : Nat)).toNat = xs.length:=by simp;omega
    rw [this];simp
def trs : List Tr→Nat
  | []=>0
  | e :: r=>e.size + trs r
theorem trs_append : ∀ a b : List Tr,trs (a ++ b) = trs a + trs b
  | [],b=>by simp [trs]
  | e :: a,b=>by simp only [List.cons_append,trs,trs_append a b];omega
theorem trs_len : ∀ a : List Tr,a.length≤trs a
  | []=>by simp [trs]
  | e :: a=>by
    have:=trs_len a
    have:=Tr.size_pos e
    simp only [trs,List.length_cons];omega
theorem lt_big {n : Nat} (h : n≤200000) : n < sizeLine:=Nat.lt_of_le_of_lt h (by decide)
theorem iteT {a b : Prop} (h : a) : if true = true then a else b:=by rw [if_pos rfl];exact h
theorem iteF {a b : Prop} (h : b) : if false = true then a else b:=by rw [if_neg (by decide)];exact h
theorem q_tru {i : Nat} {ρ : SA} {ω : Om} {Q : Bool→Om→Prop} {l : Addr} {xs : List AV} (h1 : ρ[i]? = some (some (.r (.ref l)))) (h2 : ω l = some (.own xs)) (q : Q (!xs.isEmpty) ω) : aTru (aVar i) ρ ω Q :=
  ⟨_,h1,_,by rw [truA_r,lstA_r,h2];rfl,q⟩
theorem q_pop {i j : Nat} {R : AS} {D : AEnds} {ρ : SA} {ω : Om} {l : Addr} {xs : List AV} {y : AV} (h1 : ρ[i]? = some (some (.r (.ref l)))) (h2 : ω l = some (.own (xs ++ [y]))) (q : R D (ρ.set j (some y)) (ω.put l (.own xs))) : aSeq (aAsg (aPop (aVar i)) (agName j)) R D ρ ω :=
  ⟨_,h1,l,xs ++ [y],y,rfl,h2,by simp,by rw [dropl_concat];exact q⟩
theorem q_appV {i j : Nat} {D : AEnds} {ρ : SA} {ω : Om} {l : Addr} {xs : List AV} {y : AV} (h1 : ρ[i]? = some (some (.r (.ref l)))) (h2 : ω l = some (.own xs)) (h3 : xs.length < sizeLine) (h4 : ρ[j]? = some (some y)) (q : D.nx ρ (ω.put l (.own (xs ++ [y])))) : aDrop (aAppend (aVar i) (aCons (aVar j) aNil)) D ρ ω :=
  ⟨_,h1,l,rfl,⟨_,h2⟩,_,h4,xs,y,rfl,h2,h3,q⟩
theorem q_appN {i j : Nat} {m : Int} {D : AEnds} {ρ : SA} {ω : Om} {l : Addr} {xs ys : List AV} {x y : AV} (h1 : ρ[i]? = some (some (.r (.ref l)))) (h2 : ω l = some (.own xs)) (h3 : xs.length < sizeLine) (h4 : ρ[j]? = some (some x)) (h5 : tupA x = some ys) (h6 : atI ys (-m) = some y) (q : D.nx ρ (ω.put l (.own (xs ++ [y])))) : aDrop (aAppend (aVar i) (aCons (aOp aIx (aVar j) (aUn (aU fun i=>L2.D.int (-i)) (aC (L2.D.int m)))) aNil)) D ρ ω :=
  ⟨_,h1,l,rfl,⟨_,h2⟩,_,h4,m,rfl,ys,-m,y,.inr h5,rfl,h6,xs,y,rfl,h2,h3,q⟩
theorem q_word {i j : Nat} {T U : AS} {D : AEnds} {ρ : SA} {ω : Om} {x : AV} {ys : List AV} {z lw : Str} (h1 : ρ[j]? = some (some x)) (h2 : tupA x = some ys) (h3 : atI ys 0 = some (.d (.str z))) (h4 : ρ[i]? = some (some (.d (.str lw)))) (q : if z = lw then U D ρ ω else T D ρ ω) : aIfS (aTest (aOp (aEqD true) (aOp aIx (aVar j) (aC (L2.D.int 0))) (aVar i))) T U D ρ ω :=
  ⟨_,h1,ys,0,_,.inr h2,rfl,h3,_,h4,_,_,rfl,rfl,by rw [dep_str];omega,_,rfl,by
    rw [eqD_str]
    by_cases h : z = lw
    · rw [if_pos h] at q;rw [if_neg (by simp [h])];exact q
    · rw [if_neg h] at q;rw [if_pos (by simp [h])];exact q⟩
def sp_upwardA : ASp:=fun xs ω Q=>∃ (u : Tr) (lw : Str),xs = [.d u.d,.d (.str lw)]∧u.ok lw∧u.size≤100000∧Q (.d (.lst (u.post.map Tr.d))) ω
theorem ok_upwardA (T : Txt K mg t) : FnOk P w K mg base CX0 1 t.a_upward t.d_upward ["tree","leaf"] (lift sp_upwardA):=by
  refine T.f_upward.okD sc_upward (fun xs ω Q h=>by obtain ⟨u,lw,rfl,_⟩:=h;rfl) (fun cdv A outer s H E hr=>⟨_,_,(pss_cons (ps_set (i:=2) sc_upward.nd rfl (Or.inl rfl) (pe_lst (pa_cons (pv 0) pa_nil)))
      (pss_cons (ps_set (i:=3) sc_upward.nd rfl (Or.inl rfl) (pe_lst pa_nil))
      (pss_cons (ps_while PassesOwn.never (pt_truthK K rfl (pv 2) (fun _=>rfl)) (pss_cons (ps_set (i:=4) sc_upward.nd rfl (Or.inl rfl) (pe_bm0 PySem.F.plainAttrs_list PySem.F.slot_list_pop PySem.F.type_list_pop mt_pop (pv 2)))
      (pss_cons (ps_expr (pe_bm PySem.F.plainAttrs_list PySem.F.slot_list_append PySem.F.type_list_append mt_append (pv 3) (pa_cons (pv 4) pa_nil)))
      (pss_one (ps_if (pt_cmpR (op_neD hr.u100) (pe_ix (ix_seqK K rfl) (pv 4) pe_int (fun _ _=>rfl)) (pv 1) (nomark _)) (pss_cons (ps_expr (pe_bm PySem.F.plainAttrs_list PySem.F.slot_list_append PySem.F.type_list_append mt_append (pv 2) (pa_cons (pe_ix (ix_seqK K rfl) (pv 4) (pe_un un_neg pe_int) (fun _ _=>rfl)) pa_nil)))
      (pss_one (ps_expr (pe_bm PySem.F.plainAttrs_list PySem.F.slot_list_append PySem.F.type_list_append mt_append (pv 2) (pa_cons (pe_ix (ix_seqK K rfl) (pv 4) (pe_un un_neg pe_int) (fun _ _=>rfl)) pa_nil))))) pss_nil)))))
      (pss_one (ps_ret (pe_rev K rfl (pv 3) (pe_un un_neg pe_int))))))),(s_seq (s_asg (e_lstO (a_cons e_var a_nil)) g_name)
      (s_seq (s_asg (e_lstO a_nil) g_name)
      (s_seq (s_while (t_tru e_var) (s_seq (s_asg (e_pop e_var) g_name)
      (s_seq (s_drop (e_append e_var (a_cons e_var a_nil)))
      (s_if (t_test (e_op o_eqD (e_op o_ix e_var e_int) e_var)) (s_seq (s_drop (e_append e_var (a_cons (e_op o_ix e_var (e_un u_i e_int)) a_nil)))
      (s_drop (e_append e_var (a_cons (e_op o_ix e_var (e_un u_i e_int)) a_nil)))) s_next))))
      (s_ret (e_rev e_var))))),fun xs ω Q h=>?_⟩)
  obtain ⟨u,lw,rfl,hok,hsz,k⟩:=h
  walk_at "s1"
  intro l1 hl1
  walk_at "s1"
  intro l2 hl2
  obtain ⟨n21,hl2⟩:=put_free hl2
  have n12:=Ne.symm n21
  rw [aSeq_eq]
  obtain ⟨Pv,iP⟩:=invA fun j ρ ω'=>∃ (W es : List Tr) (v4 : Option AV),ρ = [some (.d u.d),some (.d (.str lw)),some (.r (.ref l1)),some (.r (.ref l2)),v4]∧ω' = om2 ω l1 l2 (.own ((W.map Tr.d).map AV.d)) (.own ((es.map Tr.d).map AV.d))∧(∀ e∈W,e.ok lw)∧es ++ (W.reverse.flatMap Tr.pre) = u.pre∧es.length + trs W≤u.size∧j = trs W
  refine ⟨Pv,⟨_,(iP _ _ _).mpr ⟨[u],[],_,rfl,rfl,by simpa using hok,by simp,by simp [trs],rfl⟩⟩,fun j ρ ω' h=>?_⟩
  obtain ⟨W,es,v4,rfl,rfl,hW,hE,hS,rfl⟩:=(iP _ _ _).mp h
  clear h
  have eo : ∀ A B,(om2 ω l1 l2 A B).only ω = ω:=fun A B=>only_ex (((Ex.refl ω).over hl1).over hl2)
  refine q_tru rfl (om2_p n12) ?_
  rcases List.eq_nil_or_concat W with rfl | ⟨W',e,rfl⟩
  · simp only [List.reverse_nil,List.flatMap_nil,List.append_nil] at hE
    subst hE
    refine iteF ⟨_,rfl,_,datA_own om2_l,_,rfl,?_⟩
    rw [eo,← List.map_reverse,Tr.pre_rev]
    exact k
  · rw [List.concat_eq_append] at hW hE hS ⊢
    have hWl:=trs_len W'
    rw [trs_append] at hS
    simp only [trs,Nat.add_zero] at hS
    have hoe:=hW e (List.mem_append_right _ (List.mem_singleton.mpr rfl))
    have hW' : ∀ e∈W',e.ok lw:=fun e he=>hW e (List.mem_append_left _ he)
    simp only [List.reverse_append,List.reverse_cons,List.reverse_nil,List.nil_append,List.flatMap_append,List.flatMap_cons,List.flatMap_nil,List.append_nil,List.cons_append] at hE
    simp only [List.map_append,List.map_cons,List.map_nil]
    obtain ⟨ds,z,ed,ez,hz⟩:=tr_head hoe
    have se:=Tr.size_pos e
    have hs1 : es.length < sizeLine:=lt_big (by omega)
    have elt : ∀ W2 : List Tr,trs W2 < e.size→trs (W' ++ W2) < trs (W' ++ [e]):=fun W2 h=>by rw [trs_append,trs_append];simp only [trs];omega
    have pq : ∀ (W2 : List Tr) v4,trs W2 < e.size→(∀ x∈W2,x.ok lw)→W2.reverse.flatMap Tr.pre = e.pre.tail→e.pre = e :: e.pre.tail→∃ m',m' < trs (W' ++ [e])∧Pv m' [some (.d u.d),some (.d (.str lw)),some (.r (.ref l1)),some (.r (.ref l2)),v4] (om2 ω l1 l2 (.own (((W' ++ W2).map Tr.d).map AV.d)) (.own ((es.map Tr.d).map AV.d ++ [.d e.d]))):=fun W2 v4 h1 h2 h3 h4 =>
      ⟨_,elt W2 h1,(iP _ _ _).mpr ⟨W' ++ W2,es ++ [e],_,rfl,by simp,fun x hx=>(List.mem_append.mp hx).elim (hW' x) (h2 x),by rw [← hE,h4];simp [h3],by rw [trs_append];simp;omega,rfl⟩⟩
    rw [emp_concat]
    refine iteT ⟨fun ρ' ω'=>∃ m',m' < trs (W' ++ [e])∧Pv m' ρ' ω',fun ρ' ω' h=>h,q_pop rfl (om2_p n12) ?_⟩
    rw [om2_pp n12,aSeq_eq]
    refine q_appV rfl om2_l (by simpa using hs1) rfl (q_word rfl (by rw [ed];rfl) ez rfl ?_)
    rw [om2_pl]
    cases e with
    | lf x =>
      rw [if_pos (hz.mpr rfl),aNext_eq]
      have p0:=pq [] (some (.d (Tr.lf x).d)) (by simp [trs,Tr.size]) (by simp) rfl rfl
      simpa using p0
    | nd x a b =>
      obtain ⟨_,_,oa,ob⟩:=hoe
      have hz' : ¬ z = lw:=fun h=>by have:=hz.mp h;simp [lfB] at this
      have p0:=pq [a,b] (some (.d (Tr.nd x a b).d)) (by simp only [trs,Tr.size];omega) (by simp [oa,ob]) (by simp [Tr.pre]) rfl
      obtain ⟨q1,q2⟩:=atI_m1 (xs:=x.map AV.d) (a:=AV.d a.d) (b:=AV.d b.d)
      have eds : ds = x ++ [a.d,b.d]:=by cases ed;rfl
      have l2' : W'.length + 1 < sizeLine:=lt_big (by omega)
      have tup : tupA (.d (Tr.nd x a b).d) = some (x.map AV.d ++ [AV.d a.d,AV.d b.d]):=by rw [ed,eds,tupA_t];simp
      rw [if_neg hz',aSeq_eq]
      refine q_appN rfl (om2_p n12) (lt_big (by simp;omega)) rfl tup q2 ?_
      rw [om2_pp n12]
      refine q_appN rfl (om2_p n12) (by simpa using l2') rfl tup q1 ?_
      rw [om2_pp n12]
      simpa using p0
end
section
def taTr : Ta→Tr
  | .en i=>.lf [.str "end",.int i]
  | .nd h ws a b=>.nd [.str (if h then "yes" else "no"),.tup (ws.map wdD)] (taTr a) (taTr b)
theorem taTr_d : ∀ u : Ta,(taTr u).d = u.d
  | .en i=>rfl
  | .nd h ws a b=>by simp [taTr,Tr.d,Ta.d,taTr_d a,taTr_d b]
theorem taTr_ok : ∀ u : Ta,(taTr u).ok "end"
  | .en i=>⟨rfl,by simp [noLs,noL]⟩
  | .nd h ws a b=>⟨⟨_,rfl,by cases h<;>decide +kernel⟩,by simp [noLs,noL,noLs_wds],taTr_ok a,taTr_ok b⟩
theorem taTr_n : ∀ u : Ta,(taTr u).size = u.size∧(taTr u).dp = u.dp∧(taTr u).lvs = u.lvs
  | .en i=>⟨rfl,rfl,rfl⟩
  | .nd h ws a b=>by
    obtain ⟨a1,a2,a3⟩:=taTr_n a
    obtain ⟨b1,b2,b3⟩:=taTr_n b
    simp only [taTr,Tr.size,Tr.dp,Tr.lvs,Ta.size,Ta.dp,Ta.lvs,a1,a2,a3,b1,b2,b3,and_self]
end
section
variable {P : Program} {w : World} {K : PySem.W.Frag} {mg : Str→Option Value} {base : Heap} {t : Adr}
structure Parted (n : Nat) (x : Sy) (ys zs : List (List Int)) : Prop where
  y : Wds n ys
  z : Wds n zs
  vy : ∀ v∈ys,x.val v = true
  vz : ∀ v∈zs,x.val v = false
  y1 : ys≠[]
  z1 : zs≠[]
end
section
variable {P : Program} {w : World} {K : PySem.W.Frag} {mg : Str→Option Value} {base : Heap} {t : Adr}
def outD (y n : List Int) (u : Ta) : D:=.tup [.lst ((Ta.way y n u).map D.int),.int (Ta.fin y n u)]
def sp_spoken : ASp:=fun xs ω Q=>∃ (u : Ta) (y n : List Int) (m : Nat),xs = [.d u.d,.d (wdD y),.d (wdD n)]∧u.ok m∧u.dp≤900∧Q (.d (outD y n u)) ω
theorem ok_spoken (T : Txt K mg t) : FnOk P w K mg base CX0 1 t.a_spoken t.d_spoken ["talk","yes","no"] (lift sp_spoken):=by
  refine T.f_spoken.okD sc_spoken (fun xs ω Q h=>by obtain ⟨u,y,n,m,rfl,_⟩:=h;rfl) (fun cdv A outer s H E hr=>⟨_,_,(pss_cons (ps_set (i:=3) sc_spoken.nd rfl (Or.inl rfl) (pe_lst pa_nil))
      (pss_cons (ps_set (i:=4) sc_spoken.nd rfl (Or.inl rfl) (pv 0))
      (pss_cons (ps_while PassesOwn.never (pt_cmpR (op_neD hr.u100) (pe_ix (ix_seqK K rfl) (pv 4) pe_int (fun _ _=>rfl)) pe_str (nomark _)) (pss_cons (ps_set (i:=5) sc_spoken.nd rfl (Or.inl rfl) (pe_ifExp (pt_cmpR (op_eqD hr.u100) (pe_ix (ix_seqK K rfl) (pv 4) pe_int (fun _ _=>rfl)) pe_str (nomark _)) (pv 1) (pv 2)))
      (pss_cons (ps_set (i:=6) sc_spoken.nd rfl (Or.inl rfl) (pe_ifExp (pt_cmpR (op_inD hr.u100) (pv 5) (pe_ix (ix_seqK K rfl) (pv 4) pe_int (fun _ _=>rfl)) (by with_unfolding_all rfl)) pe_int pe_int))
      (pss_cons (ps_expr (pe_bm PySem.F.plainAttrs_list PySem.F.slot_list_append PySem.F.type_list_append mt_append (pv 3) (pa_cons (pv 6) pa_nil)))
      (pss_one (ps_set (i:=4) sc_spoken.nd rfl (Or.inl rfl) (pe_ix (ix_seqK K rfl) (pv 4) (pe_op (op_alt op_add (op_alt op_cat3 op_cat)) pe_int (pv 6)) (fun _ _=>rfl))))))))
      (pss_one (ps_ret (pe_tup (pa_cons (pv 3) (pa_cons (pe_ix (ix_seqK K rfl) (pv 4) pe_int (fun _ _=>rfl)) pa_nil)))))))),(s_seq (s_asg (e_lstO a_nil) g_name)
      (s_seq (s_asg e_var g_name)
      (s_seq (s_while (t_test (e_op o_eqD (e_op o_ix e_var e_int) e_str)) (s_seq (s_asg (e_if (t_test (e_op o_eqD (e_op o_ix e_var e_int) e_str)) e_var e_var) g_name)
      (s_seq (s_asg (e_if (t_test (e_op o_in e_var (e_op o_ix e_var e_int))) e_int e_int) g_name)
      (s_seq (s_drop (e_append e_var (a_cons e_var a_nil)))
      (s_asg (e_op o_ix e_var (e_op o_add e_int e_var)) g_name)))))
      (s_ret (e_tup (a_cons e_varF (a_cons (e_op o_ix e_var e_int) a_nil))))))),fun xs ω Q h=>?_⟩)
  obtain ⟨u,y,n,m,rfl,hu,hd,k⟩:=h
  walk_at "ab"
  intro l hl
  obtain ⟨Pv,iP⟩:=invA fun j ρ ω'=>∃ (u2 : Ta) (bs : List Int) (v5 v6 : Option AV),ρ = [some (.d u.d),some (.d (wdD y)),some (.d (wdD n)),some (.r (.ref l)),some (.d u2.d),v5,v6]∧ω' = ω.put l (.own ((bs.map D.int).map AV.d))∧u2.ok m∧bs ++ Ta.way y n u2 = Ta.way y n u∧Ta.fin y n u2 = Ta.fin y n u∧j = u2.dp
  refine ⟨Pv,⟨_,(iP _ _ _).mpr ⟨u,[],_,_,rfl,rfl,hu,rfl,rfl,rfl⟩⟩,fun j ρ ω' h=>?_⟩
  obtain ⟨u2,bs,v5,v6,rfl,rfl,hu2,hw,hf,rfl⟩:=(iP _ _ _).mp h
  clear h
  have hbl : bs.length≤900:=by
    have:=Ta.way_len y n u
    rw [← hw,List.length_append] at this
    omega
  cases u2 with
  | en i =>
    simp only [Ta.d]
    walk_at "ab"
    rw [only_ex ((Ex.refl ω).new hl)]
    simp only [Ta.fin,Ta.way,List.append_nil] at hf hw
    unfold outD at k
    rw [← hf,← hw] at k
    exact k
  | nd b ws a c =>
    obtain ⟨hws,ha,hc⟩:=hu2
    have hwd:=deps_wds ws
    have next : ∀ (v : Bool),Ta.bit y n b ws = v→∀ v5 v6,Pv (if v then c else a).dp [some (.d u.d),some (.d (wdD y)),some (.d (wdD n)),some (.r (.ref l)),some (.d (if v then c else a).d),v5,v6] (ω.put l (.own ((bs.map D.int).map AV.d ++ [.d (.int (if v then 1 else 0))]))):=fun v hv v5 v6=>by
      refine (iP _ _ _).mpr ⟨if v then c else a,bs ++ [if v then 1 else 0],_,_,rfl,by simp,by cases v<;>assumption,?_,?_,rfl⟩
      · rw [← hw];simp only [Ta.way,hv];cases v<;>simp
      · rw [← hf];simp only [Ta.fin,hv];cases v<;>simp
    have lt : ∀ v : Bool,(if v then c else a).dp < (Ta.nd b ws a c).dp:=fun v=>by cases v<;>simp only [Ta.dp]<;>simp<;>omega
    have hsz : bs.length < sizeLine:=lt_dec (m:=0) (by omega)
    cases b<;>simp only [Ta.d]<;>walk_at "ab"
    · refine ⟨fun ρ' ω'=>∃ m',m' < (Ta.nd false ws a c).dp∧Pv m' ρ' ω',fun ρ' ω' h=>h,by omega,?_⟩
      rw [inD_wd]
      refine ite2 (fun hb=>⟨hsz,_,lt true,next true (by simpa [Ta.bit] using hb) _ _⟩) (fun hb=>⟨hsz,_,lt false,next false (by simpa [Ta.bit] using hb) _ _⟩)
    · refine ⟨fun ρ' ω'=>∃ m',m' < (Ta.nd true ws a c).dp∧Pv m' ρ' ω',fun ρ' ω' h=>h,by omega,?_⟩
      rw [inD_wd]
      refine ite2 (fun hb=>⟨hsz,_,lt true,next true (by simpa [Ta.bit] using hb) _ _⟩) (fun hb=>⟨hsz,_,lt false,next false (by simpa [Ta.bit] using hb) _ _⟩)
end
section
variable {P : Program} {w : World} {K : PySem.W.Frag} {mg : Str→Option Value} {base : Heap} {t : Adr}
def rl (b : Bool) : Str:=if b then "rising" else "any"
def ppB (b : Bool) (y n : List Int) (i : Nat) : Bool:=if b then decide (y.getD i 0 = 1) && decide (n.getD i 0 = 0) else !decide (y.getD i 0 = n.getD i 0)
def sp_pp : ASp:=fun xs ω Q=>∃ (b : Bool) (i : Int) (y n : List Int),xs = [.d (.str (rl b)),.d (.int i),.d (wdD y),.d (wdD n)]∧0≤i∧i < y.length∧i < n.length∧Q (.d (.bl (ppB b y n i.toNat))) ω
theorem ok_pp (T : Txt K mg t) : FnOk P w K mg base CX0 1 t.a_parts_pair t.d_parts_pair ["rule","place","yes","no"] (lift sp_pp):=by
  refine T.f_parts_pair.okD sc_parts_pair (fun xs ω Q h=>by obtain ⟨b,i,y,n,rfl,_⟩:=h;rfl) (fun cdv A outer s H E hr=>⟨_,_,(pss_cons (ps_if (pt_cmpR (op_eqD hr.u100) (pv 0) pe_str (nomark _)) (pss_one (ps_ret (pe_andG K rfl (pe_cmpR (op_eqD hr.u100) (pe_ix (ix_seqK K rfl) (pv 2) (pv 1) (fun _ _=>rfl)) pe_int (nomark _)) (pe_one (pe_cmpR (op_eqD hr.u100) (pe_ix (ix_seqK K rfl) (pv 3) (pv 1) (fun _ _=>rfl)) pe_int (nomark _)))))) pss_nil)
      (pss_one (ps_ret (pe_cmpR (op_neD hr.u100) (pe_ix (ix_seqK K rfl) (pv 2) (pv 1) (fun _ _=>rfl)) (pe_ix (ix_seqK K rfl) (pv 3) (pv 1) (fun _ _=>rfl)) (nomark _))))),(s_seq (s_if (t_test (e_op o_eqD e_var e_str)) (s_ret (e_andG (e_op o_eqD (e_op o_ix e_var e_var) e_int) (e_op o_eqD (e_op o_ix e_var e_var) e_int))) s_next)
      (s_ret (e_op o_eqD (e_op o_ix e_var e_var) (e_op o_ix e_var e_var)))),fun xs ω Q h=>?_⟩)
  obtain ⟨b,i,y,n,rfl,h0,h1,h2,k⟩:=h
  have e1:=wd_at h0 h1
  have e2:=wd_at h0 h2
  cases b<;>simp only [rl,ppB,if_true,if_false,Bool.false_eq_true] at k ⊢<;>walk_at "ab"<;>simp only [e1,e2]<;>walk_at "ab"
  · rw [only_self];exact k
  · rw [only_self]
    by_cases hy : y.getD i.toNat 0 = 1
    · rw [if_pos hy];rw [decide_eq_true hy,Bool.true_and] at k;exact k
    · rw [if_neg hy];rw [decide_eq_false hy,Bool.false_and] at k;rw [beq_eq_false_iff_ne.mpr hy];exact k
end
section
variable {P : Program} {w : World} {K : PySem.W.Frag} {mg : Str→Option Value} {base : Heap} {t : Adr}
def prl (ys zs : List (List Int)) : List (List Int × List Int):=ys.flatMap fun y=>zs.map fun z=>(y,z)
def prD (p : List Int × List Int) : D:=.tup [wdD p.1,wdD p.2]
theorem prl_len (ys zs : List (List Int)) : (prl ys zs).length = ys.length * zs.length:=by
  induction ys with
  | nil=>simp [prl]
  | cons y ys ih =>
    simp only [prl,List.flatMap_cons,List.length_append,List.length_map] at ih ⊢
    rw [ih,List.length_cons,Nat.succ_mul]
    omega
theorem prl_take {ys zs : List (List Int)} {i : Nat} {y : List Int} (h : ys[i]? = some y) : prl (ys.take (i + 1)) zs = prl (ys.take i) zs ++ zs.map fun z=>(y,z):=by
  unfold prl
  rw [List.take_succ,h]
  simp
theorem prl_mem {ys zs : List (List Int)} {p : List Int × List Int} (h : p∈prl ys zs) : p.1∈ys∧p.2∈zs:=by
  unfold prl at h
  simp only [List.mem_flatMap,List.mem_map] at h
  obtain ⟨y,hy,z,hz,rfl⟩:=h
  exact ⟨hy,hz⟩
def sp_pairs : ASp:=fun xs ω Q=>∃ (pl : Nat) (ys zs : List (List Int)),xs = [.d (csD pl ys zs)]∧ys.length≤32∧zs.length≤32∧Q (.d (.lst ((prl ys zs).map prD))) ω
theorem ok_pairs (T : Txt K mg t) : FnOk P w K mg base CX0 1 t.a_pairs_in t.d_pairs_in ["case"] (lift sp_pairs):=by
  refine T.f_pairs_in.okD sc_pairs_in (fun xs ω Q h=>by obtain ⟨pl,ys,zs,rfl,_⟩:=h;rfl) (fun cdv A outer s H E hr=>⟨_,_,(pss_one (ps_ret (pe_comp (N:=(["yes","no","case"] : List Str)) (src:=[none,none,some 0]) rfl (by show blkOk _ (defScope s_pairs_in) _ _ (["case"] : List Str) = true;decide +kernel) (by intro g' h;cases h;rfl) (pi_seq K rfl (pe_ix (ix_seqK K rfl) (pv 0) pe_int (fun _ _=>rfl))) (fun _ _ _ _ _ _=>(pg_name (i:=0) (show (["yes","no","case"] : List Str).Nodup by decide +kernel) rfl (Or.inl rfl))) (fun _ _ _ _ _ _=>pts_nil) (fun _ _ _ _ _ _=>(pl_for rfl rfl rfl (by intro g' h;cases h) (pi_seq K rfl (pe_ix (ix_seqK K rfl) (pv 2) pe_int (fun _ _=>rfl))) (pg_name (i:=1) (show (["yes","no","case"] : List Str).Nodup by decide +kernel) rfl (Or.inl rfl)) pts_nil (pl_last rfl rfl (pe_tup (pa_cons (pv 0) (pa_cons (pv 1) pa_nil))))))))),(s_ret (e_comp (i_seq (e_op o_ix e_var e_int)) g_name t_no (l_for (i_seq (e_op o_ix e_var e_int)) g_name t_no (l_last (e_tup (a_cons e_var (a_cons e_var a_nil))))))),fun xs ω Q h=>?_⟩)
  obtain ⟨pl,ys,zs,rfl,hy,hz,k⟩:=h
  simp only [csD]
  walk_at "ab"
  refine loop_D (fun i xs ρ ω'=>ω' = ω∧(∃ v0 v1,ρ = [v0,v1,some (.d (csD pl ys zs))])∧xs = ((prl (ys.take i) zs).map prD).map AV.d) ⟨rfl,⟨_,_,rfl⟩,rfl⟩ ?_ ?_
  · rintro i d xs ρ ω' N hd ⟨rfl,⟨v0,v1,rfl⟩,rfl⟩ kN
    obtain ⟨y,hyi,rfl⟩:=map_get hd
    have hil:=(List.getElem?_eq_some_iff.mp hyi).1
    simp only [csD]
    walk_at "ab"
    refine loop_D (fun j xs ρ ω''=>ω'' = ω'∧(∃ v1,ρ = [some (.d (wdD y)),v1,some (.d (csD pl ys zs))])∧xs = ((prl (ys.take i) zs ++ (zs.take j).map fun z=>(y,z)).map prD).map AV.d) ⟨rfl,⟨_,rfl⟩,by simp⟩ ?_ ?_
    · rintro j d2 xs ρ ω'' M hd2 ⟨rfl,⟨v1,rfl⟩,rfl⟩ kM
      obtain ⟨z,hzj,rfl⟩:=map_get hd2
      have hjl:=(List.getElem?_eq_some_iff.mp hzj).1
      have hlen : (prl (ys.take i) zs).length≤32 * 32:=by
        rw [prl_len,List.length_take]
        exact Nat.mul_le_mul (by omega) hz
      walk_at "ab"
      refine ⟨Nat.lt_of_le_of_lt (m:=2000) (by rw [List.length_take];omega) (by decide),kM _ _ _ ⟨rfl,⟨_,rfl⟩,?_⟩⟩
      rw [List.take_succ,hzj]
      simp [prD]
    · rintro xs ρ ω'' ⟨rfl,⟨v1,rfl⟩,rfl⟩
      rw [List.length_map,List.take_length]
      exact kN _ _ _ ⟨rfl,⟨_,_,rfl⟩,by rw [prl_take hyi]⟩
  · rintro xs ρ ω' ⟨rfl,⟨v0,v1,rfl⟩,rfl⟩
    rw [List.length_map,List.take_length,und_map]
    refine ⟨_,rfl,?_⟩
    rw [only_self]
    exact k
def fau (b : Bool) (u : Ta) (p : List Int × List Int) : Bool:=!ppB b p.1 p.2 (Ta.fin p.1 p.2 u).toNat
def fauD (u : Ta) : Option (List Int × List Int)→D
  | some p=>.tup [wdD p.1,wdD p.2,.int (Ta.fin p.1 p.2 u)]
  | none=>.non
def faultD (b : Bool) (ys zs : List (List Int)) (u : Ta) : D:=fauD u ((prl ys zs).find? (fau b u))
def preF (pl : Nat) (ys zs : List (List Int)) (u : Ta) : Prop:=pl≤5∧u.ok pl∧u.dp≤900∧Wds pl ys∧Wds pl zs
def sp_fault : ASp:=fun xs ω Q=>∃ (b : Bool) (pl : Nat) (ys zs : List (List Int)) (u : Ta),xs = [.d (csD pl ys zs),.d (.str (rl b)),.d u.d]∧preF pl ys zs u∧Q (.d (faultD b ys zs u)) ω
theorem ok_fault (T : Txt K mg t) : FnOk P w K mg base CX0 2 t.a_fault t.d_fault ["case","rule","talk"] (lift sp_fault):=by
  have G_pairs_in : FnOk P w K mg base CX0 1 t.a_pairs_in t.d_pairs_in ["case"] (lift sp_pairs):=ok_pairs T
  have G_spoken : FnOk P w K mg base CX0 1 t.a_spoken t.d_spoken ["talk","yes","no"] (lift sp_spoken):=ok_spoken T
  have G_parts_pair : FnOk P w K mg base CX0 1 t.a_parts_pair t.d_parts_pair ["rule","place","yes","no"] (lift sp_pp):=ok_pp T
  refine T.f_fault.okD sc_fault (fun xs ω Q h=>by obtain ⟨b,pl,ys,zs,u,rfl,_⟩:=h;rfl) (fun cdv A outer s H E hr=>⟨_,_,(pss_cons (ps_for PassesOwn.never rfl (pi_seq K rfl (pe_call G_pairs_in (hr.mono (by omega)) (by rfl) T.m_pairs_in T.k_pairs_in T.p_pairs_in .nil pass0 (pa_cons (pv 0) pa_nil))) (pg_tupK K rfl (n:=2) rfl (pgs_cons (pg_name (i:=3) sc_fault.nd rfl (Or.inl rfl)) (pgs_cons (pg_name (i:=4) sc_fault.nd rfl (Or.inl rfl)) pgs_nil))) (pss_cons (ps_set (i:=5) sc_fault.nd rfl (Or.inl rfl) (pe_ix (ix_seqK K rfl) (pe_call G_spoken (hr.mono (by omega)) (by rfl) T.m_spoken T.k_spoken T.p_spoken .nil pass0 (pa_cons (pv 2) (pa_cons (pv 3) (pa_cons (pv 4) pa_nil)))) pe_int (fun _ _=>rfl)))
      (pss_one (ps_if (pt_not (pt_truthK K rfl (pe_call G_parts_pair (hr.mono (by omega)) (by rfl) T.m_parts_pair T.k_parts_pair T.p_parts_pair .nil pass0 (pa_cons (pv 1) (pa_cons (pv 5) (pa_cons (pv 3) (pa_cons (pv 4) pa_nil))))) (fun _=>rfl))) (pss_one (ps_ret (pe_tup (pa_cons (pv 3) (pa_cons (pv 4) (pa_cons (pv 5) pa_nil)))))) pss_nil))))
      (pss_one (ps_ret pe_non))),(s_seq (s_for (i_seq (e_call (a_cons e_var a_nil))) (g_tup (g_cons g_name (g_cons g_name g_nil))) (s_seq (s_asg (e_op o_ix (e_call (a_cons e_var (a_cons e_var (a_cons e_var a_nil)))) e_int) g_name)
      (s_if (t_not (t_tru (e_call (a_cons e_var (a_cons e_var (a_cons e_var (a_cons e_var a_nil))))))) (s_ret (e_tup (a_cons e_var (a_cons e_var (a_cons e_var a_nil))))) s_next)))
      (s_ret e_non)),fun xs ω Q h=>?_⟩)
  obtain ⟨b,pl,ys,zs,u,rfl,⟨hpl,hu,hd,hy,hz⟩,k⟩:=h
  walk_at "ab"
  refine ⟨pl,ys,zs,rfl,hy.le hpl,hz.le hpl,?_⟩
  walk_at "ab"
  refine for_D (fun i ρ ω'=>ω' = ω∧(∃ v3 v4 v5,ρ = [some (.d (csD pl ys zs)),some (.d (.str (rl b))),some (.d u.d),v3,v4,v5])∧∀ p∈(prl ys zs).take i,fau b u p = false) ⟨rfl,⟨_,_,_,rfl⟩,by simp⟩ ?_ ?_
  · rintro i d ρ ω' N hd' ⟨rfl,⟨v3,v4,v5,rfl⟩,hf⟩ kN
    obtain ⟨⟨y,z⟩,hp,rfl⟩:=map_get hd'
    obtain ⟨my,mz⟩:=prl_mem (List.mem_of_getElem? hp)
    have ly:=(wl_mem (hy.2 y my)).1
    have lz:=(wl_mem (hz.2 z mz)).1
    obtain ⟨f0,f1⟩:=Ta.fin_ok (y:=y) (n:=z) hu
    simp only [prD]
    walk_at "ab"
    refine ⟨u,y,z,pl,rfl,hu,hd,?_⟩
    simp only [outD]
    walk_at "ab"
    refine ⟨b,_,y,z,rfl,f0,by omega,by omega,?_⟩
    walk_at "ab"
    cases hb : ppB b y z (Ta.fin y z u).toNat with
    | true =>
      walk_at "ab"
      refine kN _ _ ⟨rfl,⟨_,_,_,rfl⟩,fun p hp'=>?_⟩
      rw [List.take_succ,hp] at hp'
      rcases List.mem_append.mp hp' with h | h
      · exact hf p h
      · simp at h;subst h;simp [fau,hb]
    | false =>
      walk_at "ab"
      have : (prl ys zs).find? (fau b u) = some (y,z):=by
        rw [List.find?_eq_some_iff_append]
        obtain ⟨hi,e⟩:=List.getElem?_eq_some_iff.mp hp
        refine ⟨by simp [fau,hb],(prl ys zs).take i,(prl ys zs).drop (i + 1),?_,fun p h=>by simp [hf p h]⟩
        rw [← e,← List.drop_eq_getElem_cons hi,List.take_append_drop]
      rw [only_self]
      unfold faultD at k
      rw [this] at k
      exact k
  · rintro ρ ω' ⟨rfl,⟨v3,v4,v5,rfl⟩,hf⟩
    rw [List.length_map,List.take_length] at hf
    have : (prl ys zs).find? (fau b u) = none:=by
      rw [List.find?_eq_none]
      intro p h
      simp [hf p h]
    walk_at "ab"
    rw [only_self]
    unfold faultD at k
    rw [this] at k
    exact k
def sp_lets : ASp:=fun xs ω Q=>∃ (b : Bool) (pl : Nat) (ys zs : List (List Int)) (u : Ta),xs = [.d (csD pl ys zs),.d (.str (rl b)),.d u.d]∧preF pl ys zs u∧Q (.d (.bl ((prl ys zs).find? (fau b u)).isNone)) ω
theorem ok_lets (T : Txt K mg t) : FnOk P w K mg base CX0 3 t.a_lets_by t.d_lets_by ["case","rule","talk"] (lift sp_lets):=by
  have G_fault : FnOk P w K mg base CX0 2 t.a_fault t.d_fault ["case","rule","talk"] (lift sp_fault):=ok_fault T
  refine T.f_lets_by.okD sc_lets_by (fun xs ω Q h=>by obtain ⟨b,pl,ys,zs,u,rfl,_⟩:=h;rfl) (fun cdv A outer s H E hr=>⟨_,_,(pss_one (ps_ret (pe_cmpR op_isN (pe_call G_fault (hr.mono (by omega)) (by rfl) T.m_fault T.k_fault T.p_fault .nil pass0 (pa_cons (pv 0) (pa_cons (pv 1) (pa_cons (pv 2) pa_nil)))) pe_non (nomark _)))),(s_ret (e_op o_isNX (e_call (a_cons e_var (a_cons e_var (a_cons e_var a_nil)))) e_non)),fun xs ω Q h=>?_⟩)
  obtain ⟨b,pl,ys,zs,u,rfl,hp,k⟩:=h
  walk_at "ab"
  refine ⟨b,pl,ys,zs,u,rfl,hp,?_⟩
  unfold faultD
  cases e : (prl ys zs).find? (fau b u) with
  | none=>simp only [fauD];walk_at "ab";rw [only_self];rw [e] at k;exact k
  | some p=>simp only [fauD];walk_at "ab";rw [only_self];rw [e] at k;exact k
end
section
variable {P : Program} {w : World} {K : PySem.W.Frag} {mg : Str→Option Value} {base : Heap} {t : Adr}
abbrev WW:=List (List Int) × List (List Int)
def goF (h : Bool) (ws : List (List Int)) (q : WW) : WW:=if h then (q.1.filter fun v=>!decide (v∈ws),q.2) else (q.1,q.2.filter fun v=>!decide (v∈ws))
def goS (h : Bool) (ws : List (List Int)) (q : WW) : WW:=if h then (q.1.filter fun v=>decide (v∈ws),q.2) else (q.1,q.2.filter fun v=>decide (v∈ws))
def wwD (q : WW) : D:=.tup [.tup (q.1.map wdD),.tup (q.2.map wdD)]
def Ww (n : Nat) (q : WW) : Prop:=Wds n q.1∧Wds n q.2
theorem Ww.f {n : Nat} {q : WW} {h : Bool} {ws : List (List Int)} (x : Ww n q) : Ww n (goF h ws q):=by
  unfold goF
  cases h<;>simp only [if_true,if_false,Bool.false_eq_true]
  · exact ⟨x.1,wds_filter x.2 _⟩
  · exact ⟨wds_filter x.1 _,x.2⟩
theorem Ww.s {n : Nat} {q : WW} {h : Bool} {ws : List (List Int)} (x : Ww n q) : Ww n (goS h ws q):=by
  unfold goS
  cases h<;>simp only [if_true,if_false,Bool.false_eq_true]
  · exact ⟨x.1,wds_filter x.2 _⟩
  · exact ⟨wds_filter x.1 _,x.2⟩
def sp_went : ASp:=fun xs ω Q=>∃ (h : Bool) (ws : List (List Int)) (a b : D) (q : WW) (n : Nat),xs = [.d (.tup [.str (if h then "yes" else "no"),.tup (ws.map wdD),a,b]),.d (.tup (q.1.map wdD)),.d (.tup (q.2.map wdD))]∧n≤5∧Ww n q∧Q (.d (.tup [wwD (goF h ws q),wwD (goS h ws q)])) ω
theorem ok_went (T : Txt K mg t) : FnOk P w K mg base CX0 1 t.a_went_on t.d_went_on ["turn","yes","no"] (lift sp_went):=by
  refine T.f_went_on.okD sc_went_on (fun xs ω Q h=>by obtain ⟨h,ws,a,b,q,n,rfl,_⟩:=h;rfl) (fun cdv A outer s H E hr=>⟨_,_,(pss_cons (ps_set (i:=3) sc_went_on.nd rfl (Or.inl rfl) (pe_ifExp (pt_cmpR (op_eqD hr.u100) (pe_ix (ix_seqK K rfl) (pv 0) pe_int (fun _ _=>rfl)) pe_str (nomark _)) (pv 1) (pv 2)))
      (pss_cons (ps_set (i:=4) sc_went_on.nd rfl (Or.inl rfl) (pe_callTy (call_tuple_ofK K rfl) (by rfl) T.b_tuple (by kernel_rfl) (pa_cons (pe_comp (N:=(["word","turn"] : List Str)) (src:=[none,some 0]) rfl (by show blkOk _ (defScope s_went_on) _ _ (["turn","yes","no","own","silent","loud"] : List Str) = true;decide +kernel) (by intro g' h;cases h) (pi_seq K rfl (pv 3)) (fun _ _ _ _ _ _=>(pg_name (i:=0) (show (["word","turn"] : List Str).Nodup by decide +kernel) rfl (Or.inl rfl))) (fun _ _ _ _ _ _=>(pts_one (pt_cmpR (op_notInD hr.u100) (pv 0) (pe_ix (ix_seqK K rfl) (pv 1) pe_int (fun _ _=>rfl)) (by with_unfolding_all rfl)))) (fun _ _ _ _ _ _=>(pl_last rfl rfl (pv 0)))) pa_nil)))
      (pss_cons (ps_set (i:=5) sc_went_on.nd rfl (Or.inl rfl) (pe_callTy (call_tuple_ofK K rfl) (by rfl) T.b_tuple (by kernel_rfl) (pa_cons (pe_comp (N:=(["word","turn"] : List Str)) (src:=[none,some 0]) rfl (by show blkOk _ (defScope s_went_on) _ _ (["turn","yes","no","own","silent","loud"] : List Str) = true;decide +kernel) (by intro g' h;cases h) (pi_seq K rfl (pv 3)) (fun _ _ _ _ _ _=>(pg_name (i:=0) (show (["word","turn"] : List Str).Nodup by decide +kernel) rfl (Or.inl rfl))) (fun _ _ _ _ _ _=>(pts_one (pt_cmpR (op_inD hr.u100) (pv 0) (pe_ix (ix_seqK K rfl) (pv 1) pe_int (fun _ _=>rfl)) (by with_unfolding_all rfl)))) (fun _ _ _ _ _ _=>(pl_last rfl rfl (pv 0)))) pa_nil)))
      (pss_cons (ps_if (pt_cmpR (op_eqD hr.u100) (pe_ix (ix_seqK K rfl) (pv 0) pe_int (fun _ _=>rfl)) pe_str (nomark _)) (pss_one (ps_ret (pe_tup (pa_consT (pe_tup (pa_cons (pv 4) (pa_cons (pv 2) pa_nil))) (pa_consT (pe_tup (pa_cons (pv 5) (pa_cons (pv 2) pa_nil))) pa_nil))))) pss_nil)
      (pss_one (ps_ret (pe_tup (pa_consT (pe_tup (pa_cons (pv 1) (pa_cons (pv 4) pa_nil))) (pa_consT (pe_tup (pa_cons (pv 1) (pa_cons (pv 5) pa_nil))) pa_nil))))))))),(s_seq (s_asg (e_if (t_test (e_op o_eqD (e_op o_ix e_var e_int) e_str)) e_var e_var) g_name)
      (s_seq (s_asg (e_cb c_tuple (a_cons (e_comp (i_seq e_var) g_name (t_test (e_op o_in e_var (e_op o_ix e_var e_int))) (l_last e_var)) a_nil)) g_name)
      (s_seq (s_asg (e_cb c_tuple (a_cons (e_comp (i_seq e_var) g_name (t_test (e_op o_in e_var (e_op o_ix e_var e_int))) (l_last e_var)) a_nil)) g_name)
      (s_seq (s_if (t_test (e_op o_eqD (e_op o_ix e_var e_int) e_str)) (s_ret (e_tup (a_cons (e_tup (a_cons e_var (a_cons e_var a_nil))) (a_cons (e_tup (a_cons e_var (a_cons e_var a_nil))) a_nil)))) s_next)
      (s_ret (e_tup (a_cons (e_tup (a_cons e_var (a_cons e_var a_nil))) (a_cons (e_tup (a_cons e_var (a_cons e_var a_nil))) a_nil)))))))),fun xs ω Q h=>?_⟩)
  obtain ⟨h,ws,a,b,q,n,rfl,hn,hq,k⟩:=h
  have h1:=hq.1.le hn
  have h2:=hq.2.le hn
  have hd:=deps_wds ws
  have cmp : ∀ (ys : List (List Int)) (neg : Bool) (K' : List AV→SA→Om→Prop) (v0 : Option AV) (sd : D),ys.length≤32→(∀ ρ,K' (((ys.filter fun v=>if neg then !decide (v∈ws) else decide (v∈ws)).map wdD).map AV.d) ρ ω) →
      aLoop (agName 0) (aTest (aOp (aIn neg) (aVar 0) (aOp aIx (aVar 1) (aC (D.int 1))))) (aLast (aVar 0)) ((ys.map wdD).map AV.d) [] [v0,some (.d (.tup [sd,.tup (ws.map wdD),a,b]))] ω K':=fun ys neg K' v0 sd hl hk=>by
    refine comp_fm (fun d=>if neg then !inD d (ws.map wdD) else inD d (ws.map wdD)) id (fun d hd' Q q=>?_) (fun d hd' _ Q q=>?_) (le_dec (m:=0) (by rw [List.length_map];omega)) (fun ρ=>?_)
    · walk_at "ab"
      exact ⟨by omega,q⟩
    · walk_at "ab"
      exact q
    · have : ((ys.map wdD).filter fun d=>if neg then !inD d (ws.map wdD) else inD d (ws.map wdD)).map id = (ys.filter fun v=>if neg then !decide (v∈ws) else decide (v∈ws)).map wdD:=by
        rw [List.map_id,List.filter_map]
        congr 2
        funext v
        simp [inD_wd]
      rw [this]
      exact hk ρ
  cases h<;>simp only [goF,goS,if_true,if_false,Bool.false_eq_true,wwD] at k ⊢<;>walk_at "ab"
  · refine cmp q.2 true _ _ _ h2 fun ρ=>⟨_,und_map _,?_⟩
    walk_at "ab"
    refine cmp q.2 false _ _ _ h2 fun ρ=>⟨_,und_map _,?_⟩
    walk_at "ab"
    rw [only_self]
    exact k
  · refine cmp q.1 true _ _ _ h1 fun ρ=>⟨_,und_map _,?_⟩
    walk_at "ab"
    refine cmp q.1 false _ _ _ h1 fun ρ=>⟨_,und_map _,?_⟩
    walk_at "ab"
    rw [only_self]
    exact k
structure En where
  bits : List Int
  at_ : Int
  q : WW
def En.d (e : En) : D:=.tup [.lst (e.bits.map D.int),.int e.at_,.tup (e.q.1.map wdD),.tup (e.q.2.map wdD)]
def endsL (bs : List Int) (q : WW) : Ta→List En
  | .en i=>[⟨bs,i,q⟩]
  | .nd h ws a b=>endsL (bs ++ [0]) (goF h ws q) a ++ endsL (bs ++ [1]) (goS h ws q) b
structure Wt where
  bits : List Int
  u : Ta
  q : WW
def Wt.d (e : Wt) : D:=.tup [.lst (e.bits.map D.int),e.u.d,.tup (e.q.1.map wdD),.tup (e.q.2.map wdD)]
def Wt.ends (e : Wt) : List En:=endsL e.bits e.q e.u
def wsz : List Wt→Nat
  | []=>0
  | e :: r=>e.u.size + wsz r
theorem wsz_append : ∀ a b : List Wt,wsz (a ++ b) = wsz a + wsz b
  | [],b=>by simp [wsz]
  | e :: a,b=>by simp only [List.cons_append,wsz,wsz_append a b];omega
theorem wsz_len : ∀ a : List Wt,a.length≤wsz a
  | []=>by simp [wsz]
  | e :: a=>by
    have:=wsz_len a
    have : 1≤e.u.size:=by cases e.u<;>simp only [Ta.size]<;>omega
    simp only [wsz,List.length_cons];omega
theorem endsL_len : ∀ (u : Ta) (bs : List Int) (q : WW),(endsL bs q u).length = u.lvs
  | .en i,_,_=>rfl
  | .nd h ws a b,bs,q=>by simp only [endsL,List.length_append,endsL_len a,endsL_len b,Ta.lvs]
def okW (n : Nat) (m : Nat) (e : Wt) : Prop:=e.u.ok n∧Ww n e.q∧e.bits.length + e.u.dp≤m
def sp_ends : ASp:=fun xs ω Q=>∃ (n : Nat) (q : WW) (u : Ta),xs = [.d (csD n q.1 q.2),.d u.d]∧n≤5∧Ww n q∧u.ok n∧u.dp≤400∧u.size≤400∧Q (.d (.lst ((endsL [] q u).map En.d))) ω
theorem ok_ends (T : Txt K mg t) : FnOk P w K mg base CX0 2 t.a_ends_of t.d_ends_of ["case","talk"] (lift sp_ends):=by
  have G_went_on : FnOk P w K mg base CX0 1 t.a_went_on t.d_went_on ["turn","yes","no"] (lift sp_went):=ok_went T
  refine T.f_ends_of.okD sc_ends_of (fun xs ω Q h=>by obtain ⟨n,q,u,rfl,_⟩:=h;rfl) (fun cdv A outer s H E hr=>⟨_,_,(pss_cons (ps_set (i:=2) sc_ends_of.nd rfl (Or.inl rfl) (pe_lst pa_nil))
      (pss_cons (ps_set (i:=3) sc_ends_of.nd rfl (Or.inl rfl) (pe_lst (pa_consT (pe_tup (pa_consL (pe_lst pa_nil) (pa_cons (pv 1) (pa_cons (pe_ix (ix_seqK K rfl) (pv 0) pe_int (fun _ _=>rfl)) (pa_cons (pe_ix (ix_seqK K rfl) (pv 0) pe_int (fun _ _=>rfl)) pa_nil))))) pa_nil)))
      (pss_cons (ps_while PassesOwn.never (pt_truthK K rfl (pv 3) (fun _=>rfl)) (pss_cons (ps_asg (pe_bm0 PySem.F.plainAttrs_list PySem.F.slot_list_pop PySem.F.type_list_pop mt_pop (pv 3)) (pg_tupK K rfl (n:=4) rfl (pgs_cons (pg_name (i:=4) sc_ends_of.nd rfl (Or.inl rfl)) (pgs_cons (pg_name (i:=5) sc_ends_of.nd rfl (Or.inl rfl)) (pgs_cons (pg_name (i:=6) sc_ends_of.nd rfl (Or.inl rfl)) (pgs_cons (pg_name (i:=7) sc_ends_of.nd rfl (Or.inl rfl)) pgs_nil))))))
      (pss_one (ps_if (pt_cmpR (op_eqD hr.u100) (pe_ix (ix_seqK K rfl) (pv 5) pe_int (fun _ _=>rfl)) pe_str (nomark _)) (pss_one (ps_expr (pe_bm PySem.F.plainAttrs_list PySem.F.slot_list_append PySem.F.type_list_append mt_append (pv 2) (pa_consT (pe_tup (pa_cons (pv 4) (pa_cons (pe_ix (ix_seqK K rfl) (pv 5) pe_int (fun _ _=>rfl)) (pa_cons (pv 6) (pa_cons (pv 7) pa_nil))))) pa_nil)))) (pss_cons (ps_asg (pe_call G_went_on (hr.mono (by omega)) (by rfl) T.m_went_on T.k_went_on T.p_went_on .nil pass0 (pa_cons (pv 5) (pa_cons (pv 6) (pa_cons (pv 7) pa_nil)))) (pg_tupK K rfl (n:=2) rfl (pgs_cons (pg_name (i:=8) sc_ends_of.nd rfl (Or.inl rfl)) (pgs_cons (pg_name (i:=9) sc_ends_of.nd rfl (Or.inl rfl)) pgs_nil))))
      (pss_cons (ps_expr (pe_bm PySem.F.plainAttrs_list PySem.F.slot_list_append PySem.F.type_list_append mt_append (pv 3) (pa_consT (pe_tup (pa_cons (pe_op (op_alt op_add (op_alt op_cat3 op_cat)) (pv 4) (pe_lst (pa_consC pe_int pa_nil))) (pa_cons (pe_ix (ix_seqK K rfl) (pv 5) pe_int (fun _ _=>rfl)) (pa_cons (pe_ix (ix_seqK K rfl) (pv 9) pe_int (fun _ _=>rfl)) (pa_cons (pe_ix (ix_seqK K rfl) (pv 9) pe_int (fun _ _=>rfl)) pa_nil))))) pa_nil)))
      (pss_one (ps_expr (pe_bm PySem.F.plainAttrs_list PySem.F.slot_list_append PySem.F.type_list_append mt_append (pv 3) (pa_consT (pe_tup (pa_cons (pe_op (op_alt op_add (op_alt op_cat3 op_cat)) (pv 4) (pe_lst (pa_consC pe_int pa_nil))) (pa_cons (pe_ix (ix_seqK K rfl) (pv 5) pe_int (fun _ _=>rfl)) (pa_cons (pe_ix (ix_seqK K rfl) (pv 8) pe_int (fun _ _=>rfl)) (pa_cons (pe_ix (ix_seqK K rfl) (pv 8) pe_int (fun _ _=>rfl)) pa_nil))))) pa_nil))))))))))
      (pss_one (ps_ret (pv 2)))))),(s_seq (s_asg (e_lstO a_nil) g_name)
      (s_seq (s_asg (e_lstO (a_cons (e_tup (a_cons (e_lst a_nil) (a_cons e_var (a_cons (e_op o_ix e_var e_int) (a_cons (e_op o_ix e_var e_int) a_nil))))) a_nil)) g_name)
      (s_seq (s_while (t_tru e_var) (s_seq (s_asg (e_pop e_var) (g_tup (g_cons g_name (g_cons g_name (g_cons g_name (g_cons g_name g_nil))))))
      (s_if (t_test (e_op o_eqD (e_op o_ix e_var e_int) e_str)) (s_drop (e_append e_var (a_cons (e_tup (a_cons e_var (a_cons (e_op o_ix e_var e_int) (a_cons e_var (a_cons e_var a_nil))))) a_nil))) (s_seq (s_asg (e_call (a_cons e_var (a_cons e_var (a_cons e_var a_nil)))) (g_tup (g_cons g_name (g_cons g_name g_nil))))
      (s_seq (s_drop (e_append e_var (a_cons (e_tup (a_cons (e_op o_add e_var (e_lst (a_cons e_int a_nil))) (a_cons (e_op o_ix e_var e_int) (a_cons (e_op o_ix e_var e_int) (a_cons (e_op o_ix e_var e_int) a_nil))))) a_nil)))
      (s_drop (e_append e_var (a_cons (e_tup (a_cons (e_op o_add e_var (e_lst (a_cons e_int a_nil))) (a_cons (e_op o_ix e_var e_int) (a_cons (e_op o_ix e_var e_int) (a_cons (e_op o_ix e_var e_int) a_nil))))) a_nil))))))))
      (s_ret e_varF)))),fun xs ω Q h=>?_⟩)
  obtain ⟨n,q,u,rfl,hn,hq,hu,hdp,hsz,k⟩:=h
  simp only [csD]
  walk_at "ab"
  intro l1 hl1 l2 hl2
  obtain ⟨n21,hl2⟩:=put_free hl2
  have n12:=Ne.symm n21
  obtain ⟨Pv,iP⟩:=invA fun j ρ ω'=>∃ (W : List Wt) (es : List En) (v4 v5 v6 v7 v8 v9 : Option AV),ρ = [some (.d (csD n q.1 q.2)),some (.d u.d),some (.r (.ref l1)),some (.r (.ref l2)),v4,v5,v6,v7,v8,v9]∧ω' = om2 ω l1 l2 (.own ((es.map En.d).map AV.d)) (.own ((W.map Wt.d).map AV.d))∧(∀ e∈W,okW n u.dp e) ∧
    es ++ (W.reverse.flatMap Wt.ends) = endsL [] q u∧es.length + wsz W≤u.size∧j = wsz W
  refine ⟨Pv,⟨_,(iP _ _ _).mpr ⟨[⟨[],u,q⟩],[],_,_,_,_,_,_,rfl,rfl,by simpa [okW] using ⟨hu,hq⟩,by simp [Wt.ends],by simp [wsz],rfl⟩⟩,fun j ρ ω' h=>?_⟩
  obtain ⟨W,es,v4,v5,v6,v7,v8,v9,rfl,rfl,hW,hE,hS,rfl⟩:=(iP _ _ _).mp h
  clear h
  rcases List.eq_nil_or_concat W with rfl | ⟨W',e,rfl⟩
  · simp only [List.map_nil]
    walk_at "ab"
    simp only [om2_l]
    walk_at "ab"
    simp only [List.isEmpty_nil]
    walk_at "ab"
    simp only [om2_p n12]
    walk_at "ab"
    simp only [List.reverse_nil,List.flatMap_nil,List.append_nil] at hE
    subst hE
    rw [only_ex]
    · exact k
    · exact ((Ex.refl ω).over hl1).over hl2 |>.over hl1
  · rw [List.concat_eq_append] at hW hE hS ⊢
    have hWl:=wsz_len W'
    rw [wsz_append] at hS
    simp only [List.map_append,List.map_cons,List.map_nil]
    obtain ⟨bs,u2,q2⟩:=e
    obtain ⟨hu2,hq2,hb2⟩:=hW _ (List.mem_append_right _ (List.mem_singleton.mpr rfl))
    have hW' : ∀ e∈W',okW n u.dp e:=fun e he=>hW e (List.mem_append_left _ he)
    simp only [List.reverse_append,List.reverse_cons,List.reverse_nil,List.nil_append,List.flatMap_append,List.flatMap_cons,List.flatMap_nil,List.append_nil,Wt.ends,List.cons_append] at hE
    simp only [Wt.d]
    cases u2 with
    | en i =>
      simp only [Ta.d]
      walk_at "ab"
      simp only [om2_l,om2_pl]
      walk_at "ab"
      simp only [om2_p n12,om2_pp n12]
      walk_at "ab"
      refine ⟨Pv (wsz W'),fun ρ' ω' h=>⟨_,by rw [wsz_append];simp [wsz,Ta.size],h⟩,lt_dec (m:=0) (by omega),?_⟩
      refine (iP _ _ _).mpr ⟨W',es ++ [⟨bs,i,q2⟩],_,_,_,_,_,_,rfl,by simp [En.d],hW',?_,?_,rfl⟩
      · rw [← hE];simp [endsL]
      · simp [wsz,Ta.size] at hS ⊢;omega
    | nd hh ws a b =>
      simp only [Ta.d]
      have hE2 : ¬ (if hh then ("yes" : Str) else ("no" : Str)) = "end":=by cases hh<;>decide +kernel
      walk_at "ab"
      simp only [om2_l,om2_pl]
      walk_at "ab"
      simp only [hE2,if_false]
      refine ⟨Pv (wsz (W' ++ [⟨bs ++ [1],b,goS hh ws q2⟩,⟨bs ++ [0],a,goF hh ws q2⟩])),fun ρ' ω' h=>⟨_,by rw [wsz_append,wsz_append];simp only [wsz,Ta.size];omega,h⟩,hh,ws,a.d,b.d,q2,n,rfl,hn,hq2,?_⟩
      have hb3 : bs.length + (Ta.nd hh ws a b).dp≤u.dp:=hb2
      simp only [Ta.dp] at hb3
      have hbl : bs.length≤400:=by omega
      simp only [wwD]
      walk_at "ab"
      simp only [om2_l,om2_pl]
      walk_at "ab"
      have hsz2 : W'.length + 1 < sizeLine:=lt_dec (m:=0) (by omega)
      refine ⟨le_dec (m:=0) (by omega),lt_dec (m:=0) (by omega),le_dec (m:=0) (by omega),?_⟩
      refine ⟨hsz2,?_⟩
      refine (iP _ _ _).mpr ⟨W' ++ [⟨bs ++ [1],b,goS hh ws q2⟩,⟨bs ++ [0],a,goF hh ws q2⟩],es,_,_,_,_,_,_,rfl,by simp [Wt.d],?_,?_,?_,rfl⟩
      · intro e he
        rcases List.mem_append.mp he with h | h
        · exact hW' e h
        · rcases List.mem_cons.mp h with rfl | h
          · exact ⟨hu2.2.2,hq2.s,by simp only [List.length_append,List.length_cons,List.length_nil];omega⟩
          · rw [List.mem_singleton.mp h]
            exact ⟨hu2.2.1,hq2.f,by simp only [List.length_append,List.length_cons,List.length_nil];omega⟩
      · rw [← hE];simp [endsL,Wt.ends]
      · rw [wsz_append];simp only [wsz,Ta.size] at hS ⊢;omega
end
section
variable {P : Program} {w : World} {K : PySem.W.Frag} {mg : Str→Option Value} {base : Heap} {t : Adr}
def has (q : WW) : Bool:=!q.1.isEmpty && !q.2.isEmpty
def sp_has : ASp:=fun xs ω Q=>∃ q : WW,xs = [.d (wwD q)]∧Q (.d (.bl (has q))) ω
theorem ok_has (T : Txt K mg t) : FnOk P w K mg base CX0 1 t.a_has_pairs t.d_has_pairs ["words"] (lift sp_has):=by
  refine T.f_has_pairs.okD sc_has_pairs (fun xs ω Q h=>by obtain ⟨q,rfl,_⟩:=h;rfl) (fun cdv A outer s H E hr=>⟨_,_,(pss_one (ps_ret (pe_andG K rfl (pe_cmpR op_gt (pe_callB (call_lenK K rfl) (by rfl) T.b_len (by kernel_rfl) (pa_cons (pe_ix (ix_seqK K rfl) (pv 0) pe_int (fun _ _=>rfl)) pa_nil)) pe_int (nomark _)) (pe_one (pe_cmpR op_gt (pe_callB (call_lenK K rfl) (by rfl) T.b_len (by kernel_rfl) (pa_cons (pe_ix (ix_seqK K rfl) (pv 0) pe_int (fun _ _=>rfl)) pa_nil)) pe_int (nomark _)))))),(s_ret (e_andG (e_op o_I0b (e_cb c_len (a_cons (e_op o_ix e_var e_int) a_nil)) e_int) (e_op o_I0b (e_cb c_len (a_cons (e_op o_ix e_var e_int) a_nil)) e_int))),fun xs ω Q h=>?_⟩)
  obtain ⟨q,rfl,k⟩:=h
  simp only [wwD]
  walk_at "ab"
  rw [only_self]
  have e1 : ∀ ws : List (List Int),(decide (0 < (ws.length : Int))) = !ws.isEmpty:=fun ws=>by cases ws<;>simp<;>omega
  by_cases h : 0 < (q.1.length : Int)
  · rw [if_pos h]
    have e : (!q.1.isEmpty) = true:=by rw [← e1];exact decide_eq_true h
    unfold has at k
    rw [e,Bool.true_and,← e1] at k
    exact k
  · rw [if_neg h]
    have e : (!q.1.isEmpty) = false:=by rw [← e1];exact decide_eq_false h
    unfold has at k
    rw [e,Bool.false_and] at k
    rw [decide_eq_false h]
    exact k
def cutT : Ta→WW→Ta
  | .en i,_=>.en i
  | .nd h ws a b,q=>if has (goF h ws q) then (if has (goS h ws q) then .nd h ws (cutT a (goF h ws q)) (cutT b (goS h ws q)) else cutT a q) else cutT b q
def keptL : Ta→WW→List Ta
  | .en i,_=>[.en i]
  | .nd h ws a b,q=>if has (goF h ws q) then (if has (goS h ws q) then .nd h ws a b :: (keptL b (goS h ws q) ++ keptL a (goF h ws q)) else keptL a q) else keptL b q
theorem keptL_len : ∀ (u : Ta) (q : WW),(keptL u q).length≤u.size
  | .en i,_=>Nat.le_refl _
  | .nd h ws a b,q=>by
    have h1:=keptL_len a q
    have h2:=keptL_len b q
    have h3:=keptL_len a (goF h ws q)
    have h4:=keptL_len b (goS h ws q)
    simp only [keptL,Ta.size]
    split
    · split
      · simp;omega
      · omega
    · omega
theorem cutT_ok {n : Nat} : ∀ {u : Ta} (q : WW),u.ok n→(cutT u q).ok n∧(cutT u q).dp≤u.dp∧(cutT u q).size≤u.size
  | .en i,_,h=>⟨h,Nat.le_refl _,Nat.le_refl _⟩
  | .nd hh ws a b,q,h=>by
    obtain ⟨a1,a2,a3⟩:=cutT_ok (goF hh ws q) h.2.1
    obtain ⟨b1,b2,b3⟩:=cutT_ok (goS hh ws q) h.2.2
    obtain ⟨c1,c2,c3⟩:=cutT_ok q h.2.1
    obtain ⟨d1,d2,d3⟩:=cutT_ok q h.2.2
    simp only [cutT,Ta.dp,Ta.size]
    split
    · split
      · exact ⟨⟨h.1,a1,b1⟩,by simp only [Ta.dp];omega,by simp only [Ta.size];omega⟩
      · exact ⟨c1,by omega,by omega⟩
    · exact ⟨d1,by omega,by omega⟩
def work : List Ta→List Ta→List Ta
  | [],st=>st
  | .en i :: r,st=>work r (st ++ [.en i])
  | .nd h ws _ _ :: r,st=>match st.reverse with
    | y :: x :: rest=>work r (rest.reverse ++ [.nd h ws x y])
    | _=>[]
theorem work_kept : ∀ (u : Ta) (q : WW) (r st : List Ta),work ((keptL u q).reverse ++ r) st = work r (st ++ [cutT u q])
  | .en i,_,r,st=>by simp [keptL,work,cutT]
  | .nd h ws a b,q,r,st=>by
    simp only [keptL,cutT]
    split
    · split
      · simp only [List.reverse_cons,List.reverse_append,List.append_assoc,List.singleton_append,List.cons_append,List.nil_append]
        rw [work_kept a,work_kept b]
        simp [work]
      · exact work_kept a q r st
    · exact work_kept b q r st
structure Wc where
  u : Ta
  q : WW
def Wc.d (e : Wc) : D:=.tup [e.u.d,.tup (e.q.1.map wdD),.tup (e.q.2.map wdD)]
def wcs : List Wc→Nat
  | []=>0
  | e :: r=>e.u.size + wcs r
theorem wcs_append : ∀ a b : List Wc,wcs (a ++ b) = wcs a + wcs b
  | [],b=>by simp [wcs]
  | e :: a,b=>by simp only [List.cons_append,wcs,wcs_append a b];omega
theorem wcs_len : ∀ a : List Wc,a.length≤wcs a
  | []=>by simp [wcs]
  | e :: a=>by
    have:=wcs_len a
    have : 1≤e.u.size:=by cases e.u<;>simp only [Ta.size]<;>omega
    simp only [wcs,List.length_cons];omega
def sp_kept : ASp:=fun xs ω Q=>∃ (n : Nat) (q : WW) (u : Ta),xs = [.d (csD n q.1 q.2),.d u.d]∧n≤5∧Ww n q∧u.ok n∧u.size≤400∧Q (.d (.lst ((keptL u q).reverse.map Ta.d))) ω
theorem ok_kept (T : Txt K mg t) : FnOk P w K mg base CX0 2 t.a_kept_upward t.d_kept_upward ["case","talk"] (lift sp_kept):=by
  have G_went_on : FnOk P w K mg base CX0 1 t.a_went_on t.d_went_on ["turn","yes","no"] (lift sp_went):=ok_went T
  have G_has_pairs : FnOk P w K mg base CX0 1 t.a_has_pairs t.d_has_pairs ["words"] (lift sp_has):=ok_has T
  refine T.f_kept_upward.okD sc_kept_upward (fun xs ω Q h=>by obtain ⟨n,q,u,rfl,_⟩:=h;rfl) (fun cdv A outer s H E hr=>⟨_,_,(pss_cons (ps_set (i:=2) sc_kept_upward.nd rfl (Or.inl rfl) (pe_lst pa_nil))
      (pss_cons (ps_set (i:=3) sc_kept_upward.nd rfl (Or.inl rfl) (pe_lst (pa_consT (pe_tup (pa_cons (pv 1) (pa_cons (pe_ix (ix_seqK K rfl) (pv 0) pe_int (fun _ _=>rfl)) (pa_cons (pe_ix (ix_seqK K rfl) (pv 0) pe_int (fun _ _=>rfl)) pa_nil)))) pa_nil)))
      (pss_cons (ps_while PassesOwn.never (pt_truthK K rfl (pv 3) (fun _=>rfl)) (pss_cons (ps_asg (pe_bm0 PySem.F.plainAttrs_list PySem.F.slot_list_pop PySem.F.type_list_pop mt_pop (pv 3)) (pg_tupK K rfl (n:=3) rfl (pgs_cons (pg_name (i:=4) sc_kept_upward.nd rfl (Or.inl rfl)) (pgs_cons (pg_name (i:=5) sc_kept_upward.nd rfl (Or.inl rfl)) (pgs_cons (pg_name (i:=6) sc_kept_upward.nd rfl (Or.inl rfl)) pgs_nil)))))
      (pss_cons (ps_if (pt_cmpR (op_eqD hr.u100) (pe_ix (ix_seqK K rfl) (pv 4) pe_int (fun _ _=>rfl)) pe_str (nomark _)) (pss_cons (ps_expr (pe_bm PySem.F.plainAttrs_list PySem.F.slot_list_append PySem.F.type_list_append mt_append (pv 2) (pa_cons (pv 4) pa_nil)))
      (pss_one ps_continue)) pss_nil)
      (pss_cons (ps_asg (pe_call G_went_on (hr.mono (by omega)) (by rfl) T.m_went_on T.k_went_on T.p_went_on .nil pass0 (pa_cons (pv 4) (pa_cons (pv 5) (pa_cons (pv 6) pa_nil)))) (pg_tupK K rfl (n:=2) rfl (pgs_cons (pg_name (i:=7) sc_kept_upward.nd rfl (Or.inl rfl)) (pgs_cons (pg_name (i:=8) sc_kept_upward.nd rfl (Or.inl rfl)) pgs_nil))))
      (pss_one (ps_if (pt_not (pt_truthK K rfl (pe_call G_has_pairs (hr.mono (by omega)) (by rfl) T.m_has_pairs T.k_has_pairs T.p_has_pairs .nil pass0 (pa_cons (pv 7) pa_nil)) (fun _=>rfl))) (pss_one (ps_expr (pe_bm PySem.F.plainAttrs_list PySem.F.slot_list_append PySem.F.type_list_append mt_append (pv 3) (pa_consT (pe_tup (pa_cons (pe_ix (ix_seqK K rfl) (pv 4) pe_int (fun _ _=>rfl)) (pa_cons (pv 5) (pa_cons (pv 6) pa_nil)))) pa_nil)))) (pss_one (ps_if (pt_not (pt_truthK K rfl (pe_call G_has_pairs (hr.mono (by omega)) (by rfl) T.m_has_pairs T.k_has_pairs T.p_has_pairs .nil pass0 (pa_cons (pv 8) pa_nil)) (fun _=>rfl))) (pss_one (ps_expr (pe_bm PySem.F.plainAttrs_list PySem.F.slot_list_append PySem.F.type_list_append mt_append (pv 3) (pa_consT (pe_tup (pa_cons (pe_ix (ix_seqK K rfl) (pv 4) pe_int (fun _ _=>rfl)) (pa_cons (pv 5) (pa_cons (pv 6) pa_nil)))) pa_nil)))) (pss_cons (ps_expr (pe_bm PySem.F.plainAttrs_list PySem.F.slot_list_append PySem.F.type_list_append mt_append (pv 2) (pa_cons (pv 4) pa_nil)))
      (pss_cons (ps_expr (pe_bm PySem.F.plainAttrs_list PySem.F.slot_list_append PySem.F.type_list_append mt_append (pv 3) (pa_consT (pe_tup (pa_cons (pe_ix (ix_seqK K rfl) (pv 4) pe_int (fun _ _=>rfl)) (pa_cons (pe_ix (ix_seqK K rfl) (pv 7) pe_int (fun _ _=>rfl)) (pa_cons (pe_ix (ix_seqK K rfl) (pv 7) pe_int (fun _ _=>rfl)) pa_nil)))) pa_nil)))
      (pss_one (ps_expr (pe_bm PySem.F.plainAttrs_list PySem.F.slot_list_append PySem.F.type_list_append mt_append (pv 3) (pa_consT (pe_tup (pa_cons (pe_ix (ix_seqK K rfl) (pv 4) pe_int (fun _ _=>rfl)) (pa_cons (pe_ix (ix_seqK K rfl) (pv 8) pe_int (fun _ _=>rfl)) (pa_cons (pe_ix (ix_seqK K rfl) (pv 8) pe_int (fun _ _=>rfl)) pa_nil)))) pa_nil))))))))))))))
      (pss_one (ps_ret (pe_rev K rfl (pv 2) (pe_un un_neg pe_int))))))),(s_seq (s_asg (e_lstO a_nil) g_name)
      (s_seq (s_asg (e_lstO (a_cons (e_tup (a_cons e_var (a_cons (e_op o_ix e_var e_int) (a_cons (e_op o_ix e_var e_int) a_nil)))) a_nil)) g_name)
      (s_seq (s_while (t_tru e_var) (s_seq (s_asg (e_pop e_var) (g_tup (g_cons g_name (g_cons g_name (g_cons g_name g_nil)))))
      (s_seq (s_if (t_test (e_op o_eqD (e_op o_ix e_var e_int) e_str)) (s_seq (s_drop (e_append e_var (a_cons e_var a_nil)))
      s_cont) s_next)
      (s_seq (s_asg (e_call (a_cons e_var (a_cons e_var (a_cons e_var a_nil)))) (g_tup (g_cons g_name (g_cons g_name g_nil))))
      (s_if (t_not (t_tru (e_call (a_cons e_var a_nil)))) (s_drop (e_append e_var (a_cons (e_tup (a_cons (e_op o_ix e_var e_int) (a_cons e_var (a_cons e_var a_nil)))) a_nil))) (s_if (t_not (t_tru (e_call (a_cons e_var a_nil)))) (s_drop (e_append e_var (a_cons (e_tup (a_cons (e_op o_ix e_var e_int) (a_cons e_var (a_cons e_var a_nil)))) a_nil))) (s_seq (s_drop (e_append e_var (a_cons e_var a_nil)))
      (s_seq (s_drop (e_append e_var (a_cons (e_tup (a_cons (e_op o_ix e_var e_int) (a_cons (e_op o_ix e_var e_int) (a_cons (e_op o_ix e_var e_int) a_nil)))) a_nil)))
      (s_drop (e_append e_var (a_cons (e_tup (a_cons (e_op o_ix e_var e_int) (a_cons (e_op o_ix e_var e_int) (a_cons (e_op o_ix e_var e_int) a_nil)))) a_nil)))))))))))
      (s_ret (e_rev e_var))))),fun xs ω Q h=>?_⟩)
  obtain ⟨n,q,u,rfl,hn,hq,hu,hsz,k⟩:=h
  simp only [csD]
  walk_at "ab"
  intro l1 hl1 l2 hl2
  obtain ⟨n21,hl2⟩:=put_free hl2
  have n12:=Ne.symm n21
  obtain ⟨Pv,iP⟩:=invA fun j ρ ω'=>∃ (W : List Wc) (es : List Ta) (v4 v5 v6 v7 v8 : Option AV),ρ = [some (.d (csD n q.1 q.2)),some (.d u.d),some (.r (.ref l1)),some (.r (.ref l2)),v4,v5,v6,v7,v8]∧ω' = om2 ω l1 l2 (.own ((es.map Ta.d).map AV.d)) (.own ((W.map Wc.d).map AV.d))∧(∀ e∈W,e.u.ok n∧Ww n e.q) ∧
    es ++ (W.reverse.flatMap fun e=>keptL e.u e.q) = keptL u q∧es.length + wcs W≤u.size∧j = wcs W
  refine ⟨Pv,⟨_,(iP _ _ _).mpr ⟨[⟨u,q⟩],[],_,_,_,_,_,rfl,rfl,by simpa using ⟨hu,hq⟩,by simp,by simp [wcs],rfl⟩⟩,fun j ρ ω' h=>?_⟩
  obtain ⟨W,es,v4,v5,v6,v7,v8,rfl,rfl,hW,hE,hS,rfl⟩:=(iP _ _ _).mp h
  clear h
  rcases List.eq_nil_or_concat W with rfl | ⟨W',e,rfl⟩
  · simp only [List.map_nil]
    walk_at "ab"
    simp only [om2_l]
    walk_at "ab"
    simp only [List.isEmpty_nil]
    walk_at "ab"
    simp only [om2_p n12]
    walk_at "ab"
    simp only [List.reverse_nil,List.flatMap_nil,List.append_nil] at hE
    subst hE
    have eo : ∀ A B,(om2 ω l1 l2 A B).only ω = ω:=fun A B=>only_ex (((Ex.refl ω).over hl1).over hl2)
    rw [eo,← List.map_reverse]
    exact k
  · rw [List.concat_eq_append] at hW hE hS ⊢
    have hWl:=wcs_len W'
    rw [wcs_append] at hS
    simp only [List.map_append,List.map_cons,List.map_nil]
    obtain ⟨u2,q2⟩:=e
    obtain ⟨hu2,hq2⟩:=hW _ (List.mem_append_right _ (List.mem_singleton.mpr rfl))
    have hW' : ∀ e∈W',e.u.ok n∧Ww n e.q:=fun e he=>hW e (List.mem_append_left _ he)
    simp only [List.reverse_append,List.reverse_cons,List.reverse_nil,List.nil_append,List.flatMap_append,List.flatMap_cons,List.flatMap_nil,List.append_nil,List.cons_append] at hE
    simp only [Wc.d]
    cases u2 with
    | en i =>
      simp only [Ta.d]
      walk_at "ab"
      simp only [om2_l,om2_pl]
      walk_at "ab"
      simp only [om2_p n12,om2_pp n12]
      walk_at "ab"
      refine ⟨Pv (wcs W'),fun ρ' ω' h=>⟨_,by rw [wcs_append];simp [wcs,Ta.size],h⟩,lt_dec (m:=0) (by omega),?_⟩
      refine (iP _ _ _).mpr ⟨W',es ++ [.en i],_,_,_,_,_,rfl,by simp [Ta.d],hW',?_,?_,rfl⟩
      · rw [← hE];simp [keptL]
      · simp [wcs,Ta.size] at hS ⊢;omega
    | nd hh ws a b =>
      simp only [Ta.d]
      have hE2 : ¬ (if hh then ("yes" : Str) else ("no" : Str)) = "end":=by cases hh<;>decide +kernel
      walk_at "ab"
      simp only [om2_l,om2_pl]
      walk_at "ab"
      simp only [hE2,if_false]
      have lt : ∀ W2 : List Wc,wcs W2≤a.size + b.size→∀ ρ' ω',Pv (wcs (W' ++ W2)) ρ' ω'→∃ m',m' < wcs (W' ++ [⟨.nd hh ws a b,q2⟩])∧Pv m' ρ' ω':=fun W2 h2 ρ' ω' h=>⟨_,by rw [wcs_append,wcs_append];simp only [wcs,Ta.size];omega,h⟩
      refine ⟨fun ρ' ω'=>∃ m',m' < wcs (W' ++ [⟨.nd hh ws a b,q2⟩])∧Pv m' ρ' ω',fun ρ' ω' h=>h,hh,ws,a.d,b.d,q2,n,rfl,hn,hq2,?_⟩
      simp only [keptL] at hE
      walk_at "ab"
      refine ⟨_,rfl,?_⟩
      walk_at "ab"
      have up : ∀ (W2 : List Wc) (es2 : List Ta) (v4 v5 v6 v7 v8 : Option AV),wcs W2≤a.size + b.size→es2.length≤es.length + 1→(∀ e∈W2,e.u.ok n∧Ww n e.q)→es2 ++ (W2.reverse.flatMap fun e=>keptL e.u e.q) ++ (W'.reverse.flatMap fun e=>keptL e.u e.q) = keptL u q →
          ∃ m',m' < wcs (W' ++ [⟨.nd hh ws a b,q2⟩])∧Pv m' [some (.d (csD n q.1 q.2)),some (.d u.d),some (.r (.ref l1)),some (.r (.ref l2)),v4,v5,v6,v7,v8] (om2 ω l1 l2 (.own ((es2.map Ta.d).map AV.d)) (.own (((W' ++ W2).map Wc.d).map AV.d))):=fun W2 es2 v4 v5 v6 v7 v8 h1 h2 h3 h4 =>
        lt W2 h1 _ _ ((iP _ _ _).mpr ⟨W' ++ W2,es2,_,_,_,_,_,rfl,rfl,fun e he=>(List.mem_append.mp he).elim (hW' e) (h3 e),by simpa using h4,by rw [wcs_append];simp only [wcs,Ta.size] at hS;omega,rfl⟩)
      have s1 : W'.length < sizeLine:=lt_dec (m:=0) (by omega)
      have s2 : W'.length + 1 < sizeLine:=lt_dec (m:=0) (by simp only [wcs,Ta.size] at hS;have:=Ta.size_lvs a;have:=Ta.size_lvs b;omega)
      have s3 : es.length < sizeLine:=lt_dec (m:=0) (by omega)
      cases hf : has (goF hh ws q2) with
      | false =>
        simp only [hf,if_false,Bool.false_eq_true] at hE
        walk_at "ab"
        simp only [om2_l,om2_pl]
        walk_at "ab"
        refine ⟨s1,?_⟩
        have:=up [⟨b,q2⟩] es (some (AV.d (Ta.nd hh ws a b).d)) (some (.d (.tup (q2.1.map wdD)))) (some (.d (.tup (q2.2.map wdD)))) (some (.d (wwD (goF hh ws q2)))) (some (.d (wwD (goS hh ws q2)))) (by simp [wcs]) (by omega) (by simpa using ⟨hu2.2.2,hq2⟩) (by rw [← hE];simp)
        simpa [Wc.d,Ta.d] using this
      | true =>
        simp only [hf,if_true] at hE
        walk_at "ab"
        refine ⟨_,rfl,?_⟩
        walk_at "ab"
        cases hg : has (goS hh ws q2) with
        | false =>
          simp only [hg,if_false,Bool.false_eq_true] at hE
          walk_at "ab"
          simp only [om2_l,om2_pl]
          walk_at "ab"
          refine ⟨s1,?_⟩
          have:=up [⟨a,q2⟩] es (some (AV.d (Ta.nd hh ws a b).d)) (some (.d (.tup (q2.1.map wdD)))) (some (.d (.tup (q2.2.map wdD)))) (some (.d (wwD (goF hh ws q2)))) (some (.d (wwD (goS hh ws q2)))) (by simp [wcs]) (by omega) (by simpa using ⟨hu2.2.1,hq2⟩) (by rw [← hE];simp)
          simpa [Wc.d,Ta.d] using this
        | true =>
          simp only [hg,if_true] at hE
          walk_at "ab"
          simp only [om2_p n12,om2_pp n12]
          simp only [wwD]
          walk_at "ab"
          simp only [om2_l,om2_pl]
          walk_at "ab"
          refine ⟨s3,s1,s2,?_⟩
          have:=up [⟨a,goF hh ws q2⟩,⟨b,goS hh ws q2⟩] (es ++ [.nd hh ws a b]) (some (AV.d (Ta.nd hh ws a b).d)) (some (.d (.tup (q2.1.map wdD)))) (some (.d (.tup (q2.2.map wdD)))) (some (.d (wwD (goF hh ws q2)))) (some (.d (wwD (goS hh ws q2)))) (by simp [wcs]) (by simp) (by
            intro e he
            rcases List.mem_cons.mp he with rfl | h
            · exact ⟨hu2.2.1,hq2.f⟩
            · rw [List.mem_singleton.mp h];exact ⟨hu2.2.2,hq2.s⟩) (by rw [← hE];simp)
          simpa [Wc.d,Ta.d,wwD] using this
def sp_cut : ASp:=fun xs ω Q=>∃ (n : Nat) (q : WW) (u : Ta),xs = [.d (csD n q.1 q.2),.d u.d]∧n≤5∧Ww n q∧u.ok n∧u.size≤400∧Q (.d (cutT u q).d) ω
theorem ok_cut (T : Txt K mg t) : FnOk P w K mg base CX0 3 t.a_cut t.d_cut ["case","talk"] (lift sp_cut):=by
  have G_kept_upward : FnOk P w K mg base CX0 2 t.a_kept_upward t.d_kept_upward ["case","talk"] (lift sp_kept):=ok_kept T
  refine T.f_cut.okD sc_cut (fun xs ω Q h=>by obtain ⟨n,q,u,rfl,_⟩:=h;rfl) (fun cdv A outer s H E hr=>⟨_,_,(pss_cons (ps_set (i:=2) sc_cut.nd rfl (Or.inl rfl) (pe_lst pa_nil))
      (pss_cons (ps_for PassesOwn.never rfl (pi_seq K rfl (pe_call G_kept_upward (hr.mono (by omega)) (by rfl) T.m_kept_upward T.k_kept_upward T.p_kept_upward .nil pass0 (pa_cons (pv 0) (pa_cons (pv 1) pa_nil)))) (pg_name (i:=3) sc_cut.nd rfl (Or.inl rfl)) (pss_one (ps_if (pt_cmpR (op_eqD hr.u100) (pe_ix (ix_seqK K rfl) (pv 3) pe_int (fun _ _=>rfl)) pe_str (nomark _)) (pss_one (ps_expr (pe_bm PySem.F.plainAttrs_list PySem.F.slot_list_append PySem.F.type_list_append mt_append (pv 2) (pa_cons (pv 3) pa_nil)))) (pss_cons (ps_set (i:=4) sc_cut.nd rfl (Or.inl rfl) (pe_bm0 PySem.F.plainAttrs_list PySem.F.slot_list_pop PySem.F.type_list_pop mt_pop (pv 2)))
      (pss_cons (ps_set (i:=5) sc_cut.nd rfl (Or.inl rfl) (pe_bm0 PySem.F.plainAttrs_list PySem.F.slot_list_pop PySem.F.type_list_pop mt_pop (pv 2)))
      (pss_one (ps_expr (pe_bm PySem.F.plainAttrs_list PySem.F.slot_list_append PySem.F.type_list_append mt_append (pv 2) (pa_consT (pe_tup (pa_cons (pe_ix (ix_seqK K rfl) (pv 3) pe_int (fun _ _=>rfl)) (pa_cons (pe_ix (ix_seqK K rfl) (pv 3) pe_int (fun _ _=>rfl)) (pa_cons (pv 5) (pa_cons (pv 4) pa_nil))))) pa_nil)))))))))
      (pss_one (ps_ret (pe_ix (ix_seqK K rfl) (pv 2) pe_int (fun _ _=>rfl)))))),(s_seq (s_asg (e_lstO a_nil) g_name)
      (s_seq (s_for (i_seq (e_call (a_cons e_var (a_cons e_var a_nil)))) g_name (s_if (t_test (e_op o_eqD (e_op o_ix e_var e_int) e_str)) (s_drop (e_append e_var (a_cons e_var a_nil))) (s_seq (s_asg (e_pop e_var) g_name)
      (s_seq (s_asg (e_pop e_var) g_name)
      (s_drop (e_append e_var (a_cons (e_tup (a_cons (e_op o_ix e_var e_int) (a_cons (e_op o_ix e_var e_int) (a_cons e_var (a_cons e_var a_nil))))) a_nil)))))))
      (s_ret (e_op o_ix e_var e_int)))),fun xs ω Q h=>?_⟩)
  obtain ⟨n,q,u,rfl,hn,hq,hu,hsz,k⟩:=h
  have hlen:=keptL_len u q
  have hw0 : work (keptL u q).reverse [] = [cutT u q]:=by have:=work_kept u q [] [];simpa [work] using this
  generalize hR : (keptL u q).reverse = R at hw0
  have hRl : R.length≤400:=by rw [← hR,List.length_reverse];omega
  walk_at "ab"
  intro l hl
  refine ⟨n,q,u,rfl,hn,hq,hu,hsz,?_⟩
  rw [hR]
  walk_at "ab"
  refine for_D (fun i ρ ω'=>∃ (st : List Ta) (v3 v4 v5 : Option AV),ρ = [some (.d (csD n q.1 q.2)),some (.d u.d),some (.r (.ref l)),v3,v4,v5]∧ω' = ω.put l (.own ((st.map Ta.d).map AV.d))∧st.length≤i∧work (R.drop i) st = [cutT u q]) ⟨[],_,_,_,rfl,rfl,Nat.le_refl _,by simpa using hw0⟩ ?_ ?_
  · rintro i d ρ ω' N hd ⟨st,v3,v4,v5,rfl,rfl,hst,hwk⟩ kN
    obtain ⟨v,hv,rfl⟩:=map_get hd
    obtain ⟨hi,ev⟩:=List.getElem?_eq_some_iff.mp hv
    rw [List.drop_eq_getElem_cons hi,ev] at hwk
    have hs1 : st.length < sizeLine:=lt_dec (m:=0) (by omega)
    cases v with
    | en j =>
      simp only [Ta.d]
      walk_at "ab"
      exact ⟨hs1,kN _ _ ⟨st ++ [.en j],_,_,_,rfl,by simp [Ta.d],by simp;omega,by simpa [work] using hwk⟩⟩
    | nd hh ws a b =>
      have hE2 : ¬ (if hh then ("yes" : Str) else ("no" : Str)) = "end":=by cases hh<;>decide +kernel
      rcases List.eq_nil_or_concat st with rfl | ⟨st1,y,rfl⟩
      · simp [work] at hwk
      rw [List.concat_eq_append] at *
      rcases List.eq_nil_or_concat st1 with rfl | ⟨st2,x,rfl⟩
      · simp [work] at hwk
      rw [List.concat_eq_append] at *
      simp only [Ta.d,List.map_append,List.map_cons,List.map_nil]
      walk_at "ab"
      simp only [hE2,if_false]
      simp only [List.length_append,List.length_cons,List.length_nil] at hst
      refine ⟨lt_dec (m:=0) (by omega),kN _ _ ⟨st2 ++ [.nd hh ws x y],_,_,_,rfl,by simp [Ta.d],by simp;omega,by simpa [work] using hwk⟩⟩
  · rintro ρ ω' ⟨st,v3,v4,v5,rfl,rfl,hst,hwk⟩
    rw [List.length_map,List.drop_length] at hwk
    simp only [work] at hwk
    subst hwk
    walk_at "ab"
    rw [only_ex ((Ex.refl ω).new hl)]
    exact k
end
section
variable {P : Program} {w : World} {K : PySem.W.Frag} {mg : Str→Option Value} {base : Heap} {t : Adr}
theorem has_iff {q : WW} : has q = true↔q.1≠[]∧q.2≠[]:=by
  unfold has
  rw [Bool.and_eq_true]
  constructor
  · rintro ⟨a,b⟩
    exact ⟨fun e=>by rw [e] at a;simp at a,fun e=>by rw [e] at b;simp at b⟩
  · rintro ⟨a,b⟩
    exact ⟨by cases h : q.1<;>simp_all,by cases h : q.2<;>simp_all⟩
theorem cut_ends : ∀ (u : Ta) (bs : List Int) (q : WW),has q = true→∀ e∈endsL bs q (cutT u q),has e.q = true
  | .en i,bs,q,h,e,he=>by simp only [cutT,endsL,List.mem_singleton] at he;rw [he];exact h
  | .nd hh ws a b,bs,q,h,e,he=>by
    cases hF : has (goF hh ws q) with
    | false=>simp only [cutT,hF,if_false,Bool.false_eq_true] at he;exact cut_ends b bs q h e he
    | true =>
      cases hS : has (goS hh ws q) with
      | false=>simp only [cutT,hF,hS,if_true,if_false,Bool.false_eq_true] at he;exact cut_ends a bs q h e he
      | true =>
        simp only [cutT,hF,hS,if_true,endsL] at he
        rcases List.mem_append.mp he with he | he
        · exact cut_ends a _ _ hF e he
        · exact cut_ends b _ _ hS e he
theorem go_bit {h : Bool} {ws : List (List Int)} {q : WW} {y z : List Int} (hy : y∈q.1) (hz : z∈q.2) :
    (Ta.bit y z h ws = true→y∈(goS h ws q).1∧z∈(goS h ws q).2)∧(Ta.bit y z h ws = false→y∈(goF h ws q).1∧z∈(goF h ws q).2):=by
  cases h<;>simp only [Ta.bit,goF,goS,if_true,if_false,Bool.false_eq_true,decide_eq_true_eq,decide_eq_false_iff_not,List.mem_filter,hy,hz,true_and,and_true,Bool.not_eq_true',imp_self,and_self]
theorem cut_fin {y z : List Int} : ∀ (u : Ta) (q : WW),y∈q.1→z∈q.2→Ta.fin y z (cutT u q) = Ta.fin y z u
  | .en i,q,hy,hz=>by simp [cutT]
  | .nd hh ws a b,q,hy,hz=>by
    have h : has q = true:=has_iff.mpr ⟨List.ne_nil_of_mem hy,List.ne_nil_of_mem hz⟩
    obtain ⟨b1,b2⟩:=go_bit (h:=hh) (ws:=ws) hy hz
    cases hF : has (goF hh ws q) with
    | false =>
      have hb : Ta.bit y z hh ws = true:=by
        cases e : Ta.bit y z hh ws with
        | true=>rfl
        | false =>
          have:=b2 e
          have : has (goF hh ws q) = true:=has_iff.mpr ⟨List.ne_nil_of_mem this.1,List.ne_nil_of_mem this.2⟩
          rw [hF] at this;cases this
      simp only [cutT,hF,Ta.fin,hb,if_true,if_false,Bool.false_eq_true]
      exact cut_fin b q hy hz
    | true =>
      cases hS : has (goS hh ws q) with
      | false =>
        have hb : Ta.bit y z hh ws = false:=by
          cases e : Ta.bit y z hh ws with
          | false=>rfl
          | true =>
            have:=b1 e
            have : has (goS hh ws q) = true:=has_iff.mpr ⟨List.ne_nil_of_mem this.1,List.ne_nil_of_mem this.2⟩
            rw [hS] at this;cases this
        simp only [cutT,hF,hS,Ta.fin,hb,if_true,if_false,Bool.false_eq_true]
        exact cut_fin a q hy hz
      | true =>
        simp only [cutT,hF,hS,if_true,Ta.fin]
        cases e : Ta.bit y z hh ws with
        | true=>simp only [if_true];exact cut_fin b _ (b1 e).1 (b1 e).2
        | false=>simp only [if_false,Bool.false_eq_true];exact cut_fin a _ (b2 e).1 (b2 e).2
end
section
def allP (b : Bool) (q : WW) (i : Nat) : Bool:=(prl q.1 q.2).all fun p=>ppB b p.1 p.2 i
end
section
variable {P : Program} {w : World} {K : PySem.W.Frag} {mg : Str→Option Value} {base : Heap} {t : Adr}
theorem go_not {h : Bool} {ws : List (List Int)} {q : WW} {y z : List Int} :
    (Ta.bit y z h ws = true→¬ (y∈(goF h ws q).1∧z∈(goF h ws q).2))∧(Ta.bit y z h ws = false→¬ (y∈(goS h ws q).1∧z∈(goS h ws q).2)):=by
  cases h<;>simp only [Ta.bit,goF,goS,if_true,if_false,Bool.false_eq_true,decide_eq_true_eq,decide_eq_false_iff_not,List.mem_filter,Bool.not_eq_true']
  · exact ⟨fun h1 h2=>h2.2.2 h1,fun h1 h2=>h1 h2.2.2⟩
  · exact ⟨fun h1 h2=>h2.1.2 h1,fun h1 h2=>h1 h2.1.2⟩
theorem go_sub {h : Bool} {ws : List (List Int)} {q : WW} : ((∀ v∈(goF h ws q).1,v∈q.1)∧∀ v∈(goF h ws q).2,v∈q.2)∧((∀ v∈(goS h ws q).1,v∈q.1)∧∀ v∈(goS h ws q).2,v∈q.2):=by
  cases h<;>simp only [goF,goS,if_true,if_false,Bool.false_eq_true,List.mem_filter]<;>exact ⟨⟨fun v hv=>by first | exact hv | exact hv.1,fun v hv=>by first | exact hv | exact hv.1⟩,fun v hv=>by first | exact hv | exact hv.1,fun v hv=>by first | exact hv | exact hv.1⟩
theorem ends_sub : ∀ {u : Ta} {bs : List Int} {q : WW} {e : En},e∈endsL bs q u→(∀ v∈e.q.1,v∈q.1)∧∀ v∈e.q.2,v∈q.2
  | .en i,bs,q,e,h=>by simp only [endsL,List.mem_singleton] at h;subst h;exact ⟨fun _ h=>h,fun _ h=>h⟩
  | .nd hh ws a b,bs,q,e,h=>by
    obtain ⟨⟨f1,f2⟩,s1,s2⟩:=go_sub (h:=hh) (ws:=ws) (q:=q)
    rcases List.mem_append.mp h with h | h
    · obtain ⟨h1,h2⟩:=ends_sub h
      exact ⟨fun v hv=>f1 v (h1 v hv),fun v hv=>f2 v (h2 v hv)⟩
    · obtain ⟨h1,h2⟩:=ends_sub h
      exact ⟨fun v hv=>s1 v (h1 v hv),fun v hv=>s2 v (h2 v hv)⟩
theorem ends_ok {n : Nat} : ∀ {u : Ta} {bs : List Int} {q : WW} {e : En},u.ok n→Ww n q→e∈endsL bs q u→(0≤e.at_∧e.at_ < n)∧Ww n e.q
  | .en i,bs,q,e,hu,hq,h=>by simp only [endsL,List.mem_singleton] at h;subst h;exact ⟨hu,hq⟩
  | .nd hh ws a b,bs,q,e,hu,hq,h=>by
    rcases List.mem_append.mp h with h | h
    · exact ends_ok hu.2.1 hq.f h
    · exact ends_ok hu.2.2 hq.s h
def inE (y z : List Int) (e : En) : Bool:=decide (y∈e.q.1) && decide (z∈e.q.2)
theorem ends_one {y z : List Int} : ∀ (u : Ta) (bs : List Int) (q : WW),y∈q.1→z∈q.2→∃ e : En,(endsL bs q u).filter (inE y z) = [e]∧e.bits = bs ++ Ta.way y z u∧e.at_ = Ta.fin y z u∧inE y z e = true
  | .en i,bs,q,hy,hz=>by
    have : inE y z ⟨bs,i,q⟩ = true:=by simp [inE,hy,hz]
    exact ⟨⟨bs,i,q⟩,by simp [endsL,this],by simp [Ta.way],rfl,this⟩
  | .nd hh ws a b,bs,q,hy,hz=>by
    obtain ⟨b1,b2⟩:=go_bit (h:=hh) (ws:=ws) hy hz
    obtain ⟨c1,c2⟩:=go_not (h:=hh) (ws:=ws) (q:=q) (y:=y) (z:=z)
    have nil : ∀ (v : Ta) (cs : List Int) (q' : WW),¬ (y∈q'.1∧z∈q'.2)→(endsL cs q' v).filter (inE y z) = []:=fun v cs q' hn=>List.filter_eq_nil_iff.mpr fun e he=>by
      obtain ⟨h1,h2⟩:=ends_sub he
      simp only [inE,Bool.and_eq_true,decide_eq_true_eq]
      exact fun ⟨g1,g2⟩=>hn ⟨h1 y g1,h2 z g2⟩
    simp only [endsL,List.filter_append]
    cases hb : Ta.bit y z hh ws with
    | true =>
      obtain ⟨m1,m2⟩:=b1 hb
      obtain ⟨e,h1,h2,h3,h4⟩:=ends_one b (bs ++ [1]) _ m1 m2
      refine ⟨e,by rw [nil a _ _ (c1 hb),h1];rfl,?_,?_,h4⟩
      · rw [h2];simp [Ta.way,hb]
      · rw [h3];simp [Ta.fin,hb]
    | false =>
      obtain ⟨m1,m2⟩:=b2 hb
      obtain ⟨e,h1,h2,h3,h4⟩:=ends_one a (bs ++ [0]) _ m1 m2
      refine ⟨e,by rw [nil b _ _ (c2 hb),h1];rfl,?_,?_,h4⟩
      · rw [h2];simp [Ta.way,hb]
      · rw [h3];simp [Ta.fin,hb]
theorem mem_prl {ys zs : List (List Int)} {y z : List Int} : (y,z)∈prl ys zs↔y∈ys∧z∈zs:=by
  constructor
  · intro h;exact prl_mem h
  · rintro ⟨hy,hz⟩
    unfold prl
    exact List.mem_flatMap.mpr ⟨y,hy,List.mem_map.mpr ⟨z,hz,rfl⟩⟩
theorem lets_ends (b : Bool) (u : Ta) (q : WW) : ((prl q.1 q.2).find? (fau b u)).isNone = ((endsL [] q u).filter fun e=>has e.q).all fun e=>allP b e.q e.at_.toNat:=by
  rw [Bool.eq_iff_iff,Option.isNone_iff_eq_none,List.find?_eq_none,List.all_eq_true]
  constructor
  · intro h e he
    obtain ⟨he,hh⟩:=List.mem_filter.mp he
    unfold allP
    rw [List.all_eq_true]
    rintro ⟨y,z⟩ hp
    obtain ⟨hy,hz⟩:=mem_prl.mp hp
    obtain ⟨s1,s2⟩:=ends_sub he
    obtain ⟨e',h1,_,h3,_⟩:=ends_one u [] q (s1 y hy) (s2 z hz)
    have : e∈(endsL [] q u).filter (inE y z):=List.mem_filter.mpr ⟨he,by simp [inE,hy,hz]⟩
    rw [h1,List.mem_singleton] at this
    subst this
    have:=h (y,z) (mem_prl.mpr ⟨s1 y hy,s2 z hz⟩)
    rw [h3]
    simpa [fau] using this
  · rintro h ⟨y,z⟩ hp
    obtain ⟨hy,hz⟩:=mem_prl.mp hp
    obtain ⟨e,h1,_,h3,h4⟩:=ends_one u [] q hy hz
    have he : e∈(endsL [] q u).filter (inE y z):=by rw [h1];simp
    simp only [inE,Bool.and_eq_true,decide_eq_true_eq] at h4
    have:=h e (List.mem_filter.mpr ⟨(List.mem_filter.mp he).1,has_iff.mpr ⟨List.ne_nil_of_mem h4.1,List.ne_nil_of_mem h4.2⟩⟩)
    unfold allP at this
    rw [List.all_eq_true] at this
    have:=this (y,z) (mem_prl.mpr h4)
    rw [h3] at this
    simp [fau,this]
theorem cut_find (b : Bool) (u : Ta) (q : WW) : ((prl q.1 q.2).find? (fau b (cutT u q))).isNone = ((prl q.1 q.2).find? (fau b u)).isNone:=by
  rw [Bool.eq_iff_iff,Option.isNone_iff_eq_none,Option.isNone_iff_eq_none,List.find?_eq_none,List.find?_eq_none]
  have : ∀ p∈prl q.1 q.2,fau b (cutT u q) p = fau b u p:=fun p hp=>by
    obtain ⟨hy,hz⟩:=prl_mem hp
    simp only [fau,cut_fin u q hy hz]
  exact ⟨fun h p hp=>by rw [← this p hp];exact h p hp,fun h p hp=>by rw [this p hp];exact h p hp⟩
end
section
variable {P : Program} {w : World} {K : PySem.W.Frag} {mg : Str→Option Value} {base : Heap} {t : Adr}
def meanT : WW→Ta→Sy
  | q,.en i=>.is i ((q.1.headD []).getD i.toNat 0)
  | q,.nd h ws l r=>.jn (!h) (meanT (goF h ws q) l) (meanT (goS h ws q) r)
def leafE (e : En) : Sy:=.is e.at_ ((e.q.1.headD []).getD e.at_.toNat 0)
def runS : List Ta→List Sy→List Sy→Option (List Sy)
  | [],st,_=>some st
  | .en _ :: r,st,x :: W=>runS r (x :: st) W
  | .nd h _ _ _ :: r,b :: a :: st,W=>runS r (.jn (!h) a b :: st) W
  | _,_,_=>none
def Ta.post : Ta→List Ta
  | .en i=>[.en i]
  | .nd h ws l r=>Ta.post l ++ Ta.post r ++ [.nd h ws l r]
theorem ta_post : ∀ u : Ta,(taTr u).post.map Tr.d = (Ta.post u).map Ta.d
  | .en i=>rfl
  | .nd h ws l r=>by
    have e : (taTr (.nd h ws l r)).d = (Ta.nd h ws l r).d:=taTr_d _
    simp only [taTr,Tr.post,Ta.post,List.map_append,ta_post l,ta_post r,List.map_cons,List.map_nil]
    simp only [taTr] at e
    rw [e]
theorem ta_post_len : ∀ u : Ta,(Ta.post u).length = u.size
  | .en i=>rfl
  | .nd h ws l r=>by simp [Ta.post,Ta.size,ta_post_len l,ta_post_len r];omega
theorem run_mean : ∀ (u : Ta) (bs : List Int) (q : WW) (r : List Ta) (st W : List Sy),runS (Ta.post u ++ r) st ((endsL bs q u).map leafE ++ W) = runS r (meanT q u :: st) W
  | .en i,bs,q,r,st,W=>rfl
  | .nd h ws a b,bs,q,r,st,W=>by
    simp only [Ta.post,endsL,List.map_append,List.append_assoc]
    rw [run_mean a,run_mean b]
    rfl
theorem ta_dp : ∀ u : Ta,u.dp≤u.size
  | .en i=>Nat.zero_le _
  | .nd h ws l r=>by
    have:=ta_dp l
    have:=ta_dp r
    simp only [Ta.dp,Ta.size]
    omega
theorem leaf_at {n : Nat} {e : En} (hw : Ww n e.q) (h0 : 0≤e.at_) (h1 : e.at_ < n) (hh : has e.q = true) : ∃ y ys,e.q.1 = y :: ys∧atI (((y.map D.int)).map AV.d) e.at_ = some (.d (.int (y.getD e.at_.toNat 0))):=by
  obtain ⟨h2,_⟩:=has_iff.mp hh
  obtain ⟨y,ys,ey⟩:=List.exists_cons_of_ne_nil h2
  have hl : y.length = n:=(wl_mem (hw.1.2 y (by rw [ey];exact List.mem_cons_self ..))).1
  obtain ⟨z,mz,hz,ez⟩:=map_nth (f:=AV.d ∘ D.int) (xs:=y) h0 (by omega)
  refine ⟨y,ys,ey,?_⟩
  rw [List.map_map,ez,List.getD_eq_getElem?_getD,hz]
  rfl
def sp_syofX (t : Adr) : ASpX:=fun xs ω Q Ex=>∃ (n : Nat) (q : WW) (u : Ta),xs = [.d (csD n q.1 q.2),.d u.d]∧n≤5∧Ww n q∧has q = true∧u.ok n∧u.size≤400∧if ((prl q.1 q.2).find? (fau false u)).isNone = true then Q (.d (meanT q (cutT u q)).d) ω else Ex t.a_NoTalk ω
theorem ok_syofX (T : Txt K mg t) : FnOk P t.wo K mg base (CXx P t.wo) 4 t.a_saying_of t.d_saying_of ["case","talk"] (liftX (sp_syofX t)):=by
  have G_lets_by : FnOk P t.wo K mg base CX0 3 t.a_lets_by t.d_lets_by ["case","rule","talk"] (lift sp_lets):=ok_lets T
  have G_cut : FnOk P t.wo K mg base CX0 3 t.a_cut t.d_cut ["case","talk"] (lift sp_cut):=ok_cut T
  have G_ends_of : FnOk P t.wo K mg base CX0 2 t.a_ends_of t.d_ends_of ["case","talk"] (lift sp_ends):=ok_ends T
  have G_upward : FnOk P t.wo K mg base CX0 1 t.a_upward t.d_upward ["tree","leaf"] (lift sp_upwardA):=ok_upwardA T
  refine T.f_saying_of.okX sc_saying_of (fun xs ω Q Ex h=>by obtain ⟨n,q,u,rfl,_⟩:=h;rfl) (fun cdv A outer s H E hr=>⟨_,_,(pss_cons (ps_if (PT.nox (pt_not (pt_truthK K rfl (pe_call G_lets_by (hr.mono (by omega)) (by rfl) T.m_lets_by T.k_lets_by T.p_lets_by .nil pass0 (pa_cons (pv 0) (pa_consC pe_str (pa_cons (pv 1) pa_nil)))) (fun _=>rfl)))) (pss_one (ps_raise hr.hd (by rfl) T.c_NoTalk (exc_in T.x_NoTalk) (pa_consC pe_str pa_nil))) pss_nil)
      (pss_cons (PS.nox (ps_set (i:=2) sc_saying_of.nd rfl (Or.inl rfl) (pe_call G_cut (hr.mono (by omega)) (by rfl) T.m_cut T.k_cut T.p_cut .nil pass0 (pa_cons (pv 0) (pa_cons (pv 1) pa_nil)))))
      (pss_cons (PS.nox (ps_setC (i:=3) sc_saying_of.nd rfl (Or.inl rfl) (N:=(["bits","place","yes","no"] : List Str)) (src:=[none,none,none,none]) rfl (by show blkOk _ (defScope s_saying_of) _ _ (["case","talk","kept","leaves","waiting","done","part","other","one"] : List Str) = true;decide +kernel) (by intro g' h;cases h) (pi_seq K rfl (pe_call G_ends_of (hr.mono (by omega)) (by rfl) T.m_ends_of T.k_ends_of T.p_ends_of .nil pass0 (pa_cons (pv 0) (pa_cons (pv 2) pa_nil)))) (fun _ _ _ _ _ _=>(pg_tupK K rfl (n:=4) rfl (pgs_cons (pg_name (i:=0) (show (["bits","place","yes","no"] : List Str).Nodup by decide +kernel) rfl (Or.inl rfl)) (pgs_cons (pg_name (i:=1) (show (["bits","place","yes","no"] : List Str).Nodup by decide +kernel) rfl (Or.inl rfl)) (pgs_cons (pg_name (i:=2) (show (["bits","place","yes","no"] : List Str).Nodup by decide +kernel) rfl (Or.inl rfl)) (pgs_cons (pg_name (i:=3) (show (["bits","place","yes","no"] : List Str).Nodup by decide +kernel) rfl (Or.inl rfl)) pgs_nil)))))) (fun _ _ _ _ _ _=>pts_nil) (fun _ _ _ _ _ _=>(pl_last rfl rfl (pe_tup (pa_consC pe_str (pa_cons (pv 1) (pa_cons (pe_ix (ix_seqK K rfl) (pe_ix (ix_seqK K rfl) (pv 2) pe_int (fun _ _=>rfl)) (pv 1) (fun _ _=>rfl)) pa_nil))))))))
      (pss_cons (PS.nox (ps_set (i:=4) sc_saying_of.nd rfl (Or.inl rfl) (pe_rev K rfl (pv 3) (pe_un un_neg pe_int))))
      (pss_cons (PS.nox (ps_set (i:=5) sc_saying_of.nd rfl (Or.inl rfl) (pe_lst pa_nil)))
      (pss_cons (PS.nox (ps_for PassesOwn.never rfl (pi_seq K rfl (pe_call G_upward (hr.mono (by omega)) (by rfl) T.m_upward T.k_upward T.p_upward .nil pass0 (pa_cons (pv 2) (pa_consC pe_str pa_nil)))) (pg_name (i:=6) sc_saying_of.nd rfl (Or.inl rfl)) (pss_one (ps_if (pt_cmpR (op_eqD hr.u100) (pe_ix (ix_seqK K rfl) (pv 6) pe_int (fun _ _=>rfl)) pe_str (nomark _)) (pss_one (ps_expr (pe_bm PySem.F.plainAttrs_list PySem.F.slot_list_append PySem.F.type_list_append mt_append (pv 5) (pa_cons (pe_bm0 PySem.F.plainAttrs_list PySem.F.slot_list_pop PySem.F.type_list_pop mt_pop (pv 4)) pa_nil)))) (pss_cons (ps_set (i:=7) sc_saying_of.nd rfl (Or.inl rfl) (pe_bm0 PySem.F.plainAttrs_list PySem.F.slot_list_pop PySem.F.type_list_pop mt_pop (pv 5)))
      (pss_cons (ps_set (i:=8) sc_saying_of.nd rfl (Or.inl rfl) (pe_bm0 PySem.F.plainAttrs_list PySem.F.slot_list_pop PySem.F.type_list_pop mt_pop (pv 5)))
      (pss_one (ps_expr (pe_bm PySem.F.plainAttrs_list PySem.F.slot_list_append PySem.F.type_list_append mt_append (pv 5) (pa_consT (pe_tup (pa_cons (pe_sget T.s_JOIN_OF_HAND (pe_glob (v:=.ref t.a_JOIN_OF_HAND) rfl T.c_JOIN_OF_HAND rfl) (pe_ix (ix_seqK K rfl) (pv 6) pe_int (fun _ _=>rfl)) (fun _ _=>rfl)) (pa_cons (pv 8) (pa_cons (pv 7) pa_nil)))) pa_nil))))))))))
      (pss_one (PS.nox (ps_ret (pe_ix (ix_seqK K rfl) (pv 5) pe_int (fun _ _=>rfl))))))))))),(x_seq (x_if (t_not (t_tru (e_call (a_cons e_var (a_cons e_str (a_cons e_var a_nil)))))) (x_raise (a_cons e_str a_nil)) (x_of s_next))
      (x_seq (x_of (s_asg (e_call (a_cons e_var (a_cons e_var a_nil))) g_name))
      (x_seq (x_of (s_asg (e_comp (i_seq (e_call (a_cons e_var (a_cons e_var a_nil)))) (g_tup (g_cons g_name (g_cons g_name (g_cons g_name (g_cons g_name g_nil))))) t_no (l_last (e_tup (a_cons e_str (a_cons e_var (a_cons (e_op o_ix (e_op o_ix e_var e_int) e_var) a_nil)))))) g_name))
      (x_seq (x_of (s_asg (e_revO e_var) g_name))
      (x_seq (x_of (s_asg (e_lstO a_nil) g_name))
      (x_seq (x_of (s_for (i_seq (e_call (a_cons e_var (a_cons e_str a_nil)))) g_name (s_if (t_test (e_op o_eqD (e_op o_ix e_var e_int) e_str)) (s_drop (e_append e_var (a_cons (e_pop e_var) a_nil))) (s_seq (s_asg (e_pop e_var) g_name)
      (s_seq (s_asg (e_pop e_var) g_name)
      (s_drop (e_append e_var (a_cons (e_tup (a_cons (e_sget (e_op o_ix e_var e_int)) (a_cons e_var (a_cons e_var a_nil)))) a_nil))))))))
      (x_of (s_ret (e_op o_ix e_var e_int))))))))),fun xs ω Q Er h=>?_⟩)
  obtain ⟨n,q,u,rfl,hn,hq,hh,hu,hsz,k⟩:=h
  have hudp:=ta_dp u
  walk_at "s1"
  refine ⟨false,n,q.1,q.2,u,rfl,⟨hn,hu,by omega,hq.1,hq.2⟩,_,rfl,?_⟩
  by_cases hlet : ((prl q.1 q.2).find? (fau false u)).isNone = true
  rotate_left
  · rw [if_neg hlet] at k
    rw [if_pos (by simpa using hlet),only_self]
    exact k
  rw [if_pos hlet] at k
  rw [hlet,if_neg (by decide)]
  walk_at "s1"
  refine ⟨n,q,u,rfl,hn,hq,hu,hsz,?_⟩
  obtain ⟨co,cd,cs⟩:=cutT_ok q hu
  have ce:=cut_ends u [] q hh
  generalize cutT u q = v at *
  have hvd:=ta_dp v
  walk_at "s1"
  refine ⟨n,q,v,rfl,hn,hq,co,by omega,by omega,?_⟩
  have hel:=endsL_len v [] q
  have hvl:=Ta.size_lvs v
  walk_at "a1"
  refine comp_gix (rs:=((endsL [] q v).map leafE).map Sy.d) (fun ρ=>∃ v0 v1 v2 v3,ρ = [v0,v1,v2,v3]) ⟨_,_,_,_,rfl⟩ (by simp) (Nat.le_of_lt (small1000 (by simp;omega))) (fun i a r ρ N h1 h2 hR hN=>?_) (fun ρ hR=>⟨_,und_map _,?_⟩)
  · obtain ⟨v0,v1,v2,v3,rfl⟩:=hR
    simp only [List.map_map,List.getElem?_map,Option.map_eq_some_iff] at h1 h2
    obtain ⟨e,he,rfl⟩:=h1
    obtain ⟨e',he',rfl⟩:=h2
    rw [he] at he'
    cases he'
    have hm:=List.mem_of_getElem? he
    obtain ⟨⟨a0,a1⟩,aw⟩:=ends_ok co hq hm
    obtain ⟨y,ys,ey,ea⟩:=leaf_at aw a0 a1 (ce e hm)
    simp only [Function.comp_apply,En.d]
    walk_at "a1"
    refine hN _ ⟨_,_,_,_,rfl⟩ fun Q1 q1=>?_
    simp only [leafE,Function.comp_apply] at q1
    rw [ey] at q1 ⊢
    simp only [List.map_cons,wdD]
    walk_at "a1"
    exact ⟨_,ea,_,rfl,q1⟩
  walk_at "s1"
  have hE:=run_mean v [] q [] [] []
  rw [List.append_nil,List.append_nil] at hE
  generalize hL : (endsL [] q v).map leafE = L at hE
  have hLl : L.length = v.lvs:=by rw [← hL,List.length_map,hel]
  have hpo:=ta_post_len v
  refine ⟨_,rfl,_,rfl,fun lw hlw=>?_⟩
  walk_at "s1"
  intro ld hld
  obtain ⟨hne,hld0⟩:=put_free hld
  walk_at "s1"
  refine ⟨taTr v,"end",by rw [taTr_d],taTr_ok v,by rw [(taTr_n v).1];omega,?_⟩
  rw [ta_post]
  generalize hR : Ta.post v = R at *
  walk_at "a1"
  have ow0 : ((ω.put lw (OC.own (List.map AV.d (List.map Sy.d L).reverse))).put ld (OC.own [])) = om2 ω lw ld (.own ((L.reverse.map Sy.d).map AV.d)) (.own ((([] : List Sy).reverse.map Sy.d).map AV.d)):=by rw [om2,← List.map_reverse];rfl
  rw [ow0]
  refine for_D (fun i ρ ω'=>∃ (st W : List Sy) (v6 v7 v8 : Option AV),ρ = [some (AV.d (csD n q.fst q.snd)),some (AV.d u.d),some (AV.d v.d),some (AV.d (D.lst (List.map Sy.d L))),some (AV.r (V.ref lw)),some (AV.r (V.ref ld)),v6,v7,v8]∧ω' = om2 ω lw ld (.own ((W.reverse.map Sy.d).map AV.d)) (.own ((st.reverse.map Sy.d).map AV.d))∧st.length≤i∧runS (R.drop i) st W = some [meanT q v]) ⟨[],L,_,_,_,rfl,rfl,Nat.le_refl _,by rw [List.drop_zero,hE];rfl⟩ ?_ ?_
  · rintro i d ρ ω' N hd ⟨st,W,v6,v7,v8,rfl,rfl,hst,hwk⟩ kN
    obtain ⟨e,hv,rfl⟩:=map_get hd
    obtain ⟨hi,ev⟩:=List.getElem?_eq_some_iff.mp hv
    rw [List.drop_eq_getElem_cons hi,ev] at hwk
    have hs1 : st.length < sizeLine:=lt_big (by omega)
    cases e with
    | en j =>
      cases W with
      | nil=>simp [runS] at hwk
      | cons x W =>
        simp only [Ta.d]
        walk_at "a1"
        rw [om2_p hne.symm]
        have eW : ((x :: W).reverse.map Sy.d).map AV.d = (W.reverse.map Sy.d).map AV.d ++ [.d x.d]:=by simp
        refine ⟨⟨_,om2_l⟩,_,rfl,.d x.d,by rw [eW];simp,(st.reverse.map Sy.d).map AV.d,by rw [om2_pp hne.symm,om2_l],by simp;omega,?_⟩
        rw [eW,List.dropLast_concat,om2_pp hne.symm,om2_pl]
        exact kN _ _ ⟨x :: st,W,_,_,_,rfl,by simp,by simp;omega,by simpa [runS] using hwk⟩
    | nd hh ws a b =>
      have hE2 : ¬ (if hh then ("yes" : Str) else ("no" : Str)) = "end":=by cases hh<;>decide +kernel
      rcases st with _ | ⟨y,_ | ⟨x,st⟩⟩
      · simp [runS] at hwk
      · simp [runS] at hwk
      have eS : ((y :: x :: st).reverse.map Sy.d).map AV.d = ((st.reverse.map Sy.d).map AV.d ++ [.d x.d]) ++ [.d y.d]:=by simp
      have eS2 : ((y :: x :: st).reverse.map Sy.d).map AV.d = ((st.reverse.map Sy.d).map AV.d ++ [.d x.d]) ++ [.d y.d]:=eS
      simp only [Ta.d]
      rw [eS]
      walk_at "a1"
      simp only [hE2,if_false]
      refine q_pop rfl om2_l ?_
      rw [om2_pl]
      refine q_pop rfl om2_l ?_
      rw [om2_pl]
      simp only [List.set_cons_zero,List.set_cons_succ]
      have hl : ((st.reverse.map Sy.d).map AV.d).length < sizeLine:=lt_big (by simp at hst ⊢;omega)
      have fin:=kN [some (AV.d (csD n q.fst q.snd)),some (AV.d u.d),some (AV.d v.d),some (AV.d (D.lst (List.map Sy.d L))),some (AV.r (V.ref lw)),some (AV.r (V.ref ld)),some (AV.d (Ta.nd hh ws a b).d),some (.d y.d),some (.d x.d)] _ ⟨.jn (!hh) x y :: st,W,_,_,_,rfl,rfl,by simp at hst ⊢;omega,by simpa [runS] using hwk⟩
      cases hh
      · walk_at "a1"
        refine ⟨⟨_,om2_l⟩,V.str (Str.ofString "and"),by kernel_rfl,D.str (Str.ofString "and"),rfl,_,om2_l,hl,?_⟩
        rw [om2_pl]
        simpa [Sy.d,Ta.d] using fin
      · walk_at "a1"
        refine ⟨⟨_,om2_l⟩,V.str (Str.ofString "or"),by kernel_rfl,D.str (Str.ofString "or"),rfl,_,om2_l,hl,?_⟩
        rw [om2_pl]
        simpa [Sy.d,Ta.d] using fin
  · rintro ρ ω' ⟨st,W,v6,v7,v8,rfl,rfl,hst,hwk⟩
    rw [List.length_map,List.drop_length] at hwk
    simp only [runS,Option.some.injEq] at hwk
    subst hwk
    dsimp only
    walk_at "a1"
    rw [om2_l]
    refine ⟨_,rfl,_,rfl,_,rfl,?_⟩
    rw [om2,only_ex (((Ex.refl ω).new hlw).new (by rw [Om.put_ne hne];exact hld0))]
    exact k
end
section
theorem ends_bits : ∀ (u : Ta) (bs bs' : List Int) (q : WW),∀ e∈endsL bs q u,∃ e'∈endsL bs' q u,e'.q = e.q∧e'.at_ = e.at_
  | .en i,bs,bs',q,e,he=>by
    simp only [endsL,List.mem_singleton] at he
    subst he
    exact ⟨⟨bs',i,q⟩,by simp [endsL],rfl,rfl⟩
  | .nd h ws a b,bs,bs',q,e,he=>by
    simp only [endsL] at he ⊢
    rcases List.mem_append.mp he with he | he
    · obtain ⟨e',h1,h2⟩:=ends_bits a _ (bs' ++ [0]) _ e he
      exact ⟨e',List.mem_append_left _ h1,h2⟩
    · obtain ⟨e',h1,h2⟩:=ends_bits b _ (bs' ++ [1]) _ e he
      exact ⟨e',List.mem_append_right _ h1,h2⟩
def endsOk (b : Bool) (q : WW) (v : Ta) : Prop:=∀ bs,∀ e∈endsL bs q v,has e.q = true∧∀ y∈e.q.1,∀ z∈e.q.2,ppB b y z e.at_.toNat = true
theorem endsOk.nd {b : Bool} {q : WW} {h : Bool} {ws : List (List Int)} {l r : Ta} (x : endsOk b q (.nd h ws l r)) : endsOk b (goF h ws q) l∧endsOk b (goS h ws q) r:=by
  constructor
  · intro bs e he
    have:=ends_bits l bs ([] ++ [0]) (goF h ws q) e he
    obtain ⟨e',he',e1,e2⟩:=this
    obtain ⟨z1,z2⟩:=x [] e' (by simp only [endsL];exact List.mem_append_left _ he')
    rw [e1] at z1 z2
    rw [e2] at z2
    exact ⟨z1,z2⟩
  · intro bs e he
    have:=ends_bits r bs ([] ++ [1]) (goS h ws q) e he
    obtain ⟨e',he',e1,e2⟩:=this
    obtain ⟨z1,z2⟩:=x [] e' (by simp only [endsL];exact List.mem_append_right _ he')
    rw [e1] at z1 z2
    rw [e2] at z2
    exact ⟨z1,z2⟩
theorem mean_val {n : Nat} : ∀ (v : Ta) (q : WW),Ww n q→endsOk false q v→(∀ y∈q.1,(meanT q v).val y = true)∧∀ z∈q.2,(meanT q v).val z = false
  | .en i,q,hw,ho=>by
    obtain ⟨h1,h2⟩:=ho [] ⟨[],i,q⟩ (by simp [endsL])
    obtain ⟨h3,h4⟩:=has_iff.mp h1
    obtain ⟨y0,ys,ey⟩:=List.exists_cons_of_ne_nil h3
    have ey : q.1 = y0 :: ys:=ey
    obtain ⟨z0,zs,ez⟩:=List.exists_cons_of_ne_nil h4
    have m0 : y0∈q.1:=by rw [ey];exact List.mem_cons_self ..
    have k0 : z0∈q.2:=by rw [ez];exact List.mem_cons_self ..
    have pp : ∀ y∈q.1,∀ z∈q.2,y.getD i.toNat 0≠z.getD i.toNat 0:=fun y hy z hz=>by
      have:=h2 y hy z hz
      simpa [ppB] using this
    simp only [meanT,Sy.val,ey,List.headD_cons]
    refine ⟨fun y hy=>?_,fun z hz=>?_⟩
    · rw [← ey] at hy
      have a1:=pp y hy z0 k0
      have a2:=pp y0 m0 z0 k0
      rcases wl_bit (hw.1.2 y hy) i.toNat with b1 | b1<;>rcases wl_bit (hw.1.2 y0 m0) i.toNat with b2 | b2<;>rcases wl_bit (hw.2.2 z0 k0) i.toNat with b3 | b3<;>simp_all
    · have a1:=pp y0 m0 z hz
      simpa using Ne.symm a1
  | .nd h ws l r,q,hw,ho=>by
    obtain ⟨o1,o2⟩:=ho.nd
    obtain ⟨a1,a2⟩:=mean_val l _ hw.f o1
    obtain ⟨b1,b2⟩:=mean_val r _ hw.s o2
    cases h with
    | true =>
      simp only [goF,goS,if_true] at a1 a2 b1 b2
      simp only [meanT,Bool.not_true,Sy.val,Bool.false_eq_true,if_false]
      simp only [goF,goS,if_true]
      refine ⟨fun y hy=>?_,fun z hz=>by rw [a2 z hz,b2 z hz];rfl⟩
      by_cases hm : y∈ws
      · rw [b1 y (List.mem_filter.mpr ⟨hy,by simpa using hm⟩),Bool.or_true]
      · rw [a1 y (List.mem_filter.mpr ⟨hy,by simpa using hm⟩),Bool.true_or]
    | false =>
      simp only [goF,goS,if_false,Bool.false_eq_true] at a1 a2 b1 b2
      simp only [meanT,Bool.not_false,Sy.val,if_true]
      simp only [goF,goS,if_false,Bool.false_eq_true]
      refine ⟨fun y hy=>by rw [a1 y hy,b1 y hy];rfl,fun z hz=>?_⟩
      by_cases hm : z∈ws
      · rw [b2 z (List.mem_filter.mpr ⟨hz,by simpa using hm⟩),Bool.and_false]
      · rw [a2 z (List.mem_filter.mpr ⟨hz,by simpa using hm⟩),Bool.false_and]
theorem mean_ok {n : Nat} : ∀ (v : Ta) (q : WW),Ww n q→v.ok n→(meanT q v).ok n∧(meanT q v).dp = v.dp∧(meanT q v).lvs = v.lvs
  | .en i,q,hw,ho=>by
    refine ⟨⟨ho.1,ho.2,?_⟩,rfl,rfl⟩
    cases e : q.1 with
    | nil=>left;simp
    | cons y ys=>exact wl_bit (hw.1.2 y (by rw [e];exact List.mem_cons_self ..)) i.toNat
  | .nd h ws l r,q,hw,ho=>by
    obtain ⟨a1,a2,a3⟩:=mean_ok l _ hw.f ho.2.1
    obtain ⟨b1,b2,b3⟩:=mean_ok r _ hw.s ho.2.2
    exact ⟨⟨a1,b1⟩,by simp only [meanT,Sy.dp,Ta.dp,a2,b2],by simp only [meanT,Sy.lvs,Ta.lvs,a3,b3]⟩
theorem cut_endsOk {b : Bool} {u : Ta} {q : WW} (hh : has q = true) (hl : ((prl q.1 q.2).find? (fau b u)).isNone = true) : endsOk b q (cutT u q):=by
  intro bs e he
  obtain ⟨e',he',e1,e2⟩:=ends_bits _ bs [] q e he
  have h1:=cut_ends u [] q hh e' he'
  rw [← cut_find,lets_ends,List.all_eq_true] at hl
  have h2:=hl e' (List.mem_filter.mpr ⟨he',h1⟩)
  rw [e1] at h1
  refine ⟨h1,fun y hy z hz=>?_⟩
  rw [e1,e2] at h2
  unfold allP at h2
  exact List.all_eq_true.mp h2 (y,z) (mem_prl.mpr ⟨hy,hz⟩)
end
section
variable {P : Program} {w : World} {K : PySem.W.Frag} {mg : Str→Option Value} {base : Heap} {t : Adr}
theorem gd_lets (ys zs : List (List Int)) (u : Ta) : ((prl ys zs).find? (fau false u)).isNone = gdB ys zs u:=by
  rw [Bool.eq_iff_iff,Option.isNone_iff_eq_none,List.find?_eq_none,gdB,List.all_eq_true]
  constructor
  · intro h y hy
    rw [List.all_eq_true]
    intro z hz
    have:=h (y,z) (mem_prl.mpr ⟨hy,hz⟩)
    simpa [fau,ppB] using this
  · rintro h ⟨y,z⟩ hm
    obtain ⟨my,mz⟩:=mem_prl.mp hm
    have:=List.all_eq_true.mp (h y my) z mz
    simpa [fau,ppB] using this
structure Ca (n : Nat) (ys zs : List (List Int)) : Prop where
  y : Wds n ys
  z : Wds n zs
  y1 : ys≠[]
  z1 : zs≠[]
theorem Ca.has {n : Nat} {ys zs : List (List Int)} (h : Ca n ys zs) : My.has (ys,zs) = true:=has_iff.mpr ⟨h.y1,h.z1⟩
def toldD (ys zs : List (List Int)) (u : Ta) : D:=if gdB ys zs u = true then .lst [.str "saying",(meanT (ys,zs) (cutT u (ys,zs))).d] else .lst [.str "refused",.non]
def sp_told : ASp:=fun xs ω Q=>∃ (n : Nat) (ys zs : List (List Int)) (u : Ta),xs = [.d (csD n ys zs),.d u.d]∧n≤5∧Ca n ys zs∧u.ok n∧u.size≤400∧Q (.d (toldD ys zs u)) ω
theorem ok_told (T : Txt K mg t) : FnOk P t.wo K mg base CX0 5 t.a_l_told t.d_l_told ["_law_case","_law_talk"] (lift sp_told):=by
  have GX_saying_of : FnOk P t.wo K mg base (CXx P t.wo) 4 t.a_saying_of t.d_saying_of ["case","talk"] (liftX (sp_syofX t)):=ok_syofX T
  refine T.f_l_told.okD sc_l_told (fun xs ω Q h=>by obtain ⟨n,ys,zs,u,rfl,_⟩:=h;rfl) (fun cdv A outer s H E hr=>⟨_,_,(pss_cons (ps_set (i:=2) sc_l_told.nd rfl (Or.inl rfl) pe_non)
      (pss_cons (ps_set (i:=3) sc_l_told.nd rfl (Or.inl rfl) pe_non)
      (pss_cons (ps_try (i:=4) (j:=2) rfl rfl rfl (psx_set (i:=3) sc_l_told.nd rfl (Or.inl rfl) (pex_call GX_saying_of (hr.mono (by omega)) (by rfl) T.m_saying_of T.k_saying_of T.p_saying_of (pa_cons (pv 0) (pa_cons (pv 1) pa_nil)))) (by rfl) T.c_TalkError sc_l_told.nd rfl rfl (by decide) rfl rfl)
      (pss_cons (ps_if (pt_cmpR op_isN (pv 2) pe_non (nomark _)) (pss_one (ps_ret (pe_lst (pa_consC pe_str (pa_cons (pv 3) pa_nil))))) pss_nil)
      (pss_cons (ps_if (pt_truthK K rfl (pe_callB (call_isXT K rfl) (by rfl) T.b_isinstance (by kernel_rfl) (pa_cons (pv 2) (pa_consT (pe_tup (pa_cons (pe_glob (v:=.ref t.a_NoCase) rfl T.c_NoCase rfl) (pa_cons (pe_glob (v:=.ref t.a_NoSaying) rfl T.c_NoSaying rfl) (pa_cons (pe_glob (v:=.ref t.a_NoRise) rfl T.c_NoRise rfl) (pa_cons (pe_glob (v:=.ref t.a_TooMany) rfl T.c_TooMany rfl) (pa_cons (pe_glob (v:=.ref t.a_NoText) rfl T.c_NoText rfl) (pa_cons (pe_glob (v:=.ref t.a_NoRow) rfl T.c_NoRow rfl) (pa_cons (pe_glob (v:=.ref t.a_NoWord) rfl T.c_NoWord rfl) pa_nil)))))))) pa_nil))) (fun _=>rfl)) (pss_one (ps_ret (pe_lst (pa_consC pe_str (pa_consC pe_non pa_nil))))) pss_nil)
      (pss_one (ps_ret (pe_lst (pa_cons (pe_ix (ix_seqK K rfl) (pe_lst (pa_consC pe_str (pa_consC pe_str pa_nil))) (pe_callTy call_int1 (by rfl) T.b_int (by kernel_rfl) (pa_cons (pe_andG K rfl (pe_callB (call_isX K rfl) (by rfl) T.b_isinstance (by kernel_rfl) (pa_cons (pv 2) (pa_cons (pe_glob (v:=.ref t.a_NoTalk) rfl T.c_NoTalk rfl) pa_nil))) (pe_one (pe_callB (call_isX K rfl) (by rfl) T.b_isinstance (by kernel_rfl) (pa_cons (pv 2) (pa_cons (pe_bltn (v:=.ty "ValueError") (by rfl) T.b_ValueError (by kernel_rfl) (by rfl)) pa_nil))))) pa_nil)) (fun _ _=>rfl)) (pa_consC pe_non pa_nil)))))))))),(s_seq (s_asg e_non g_name)
      (s_seq (s_asg e_non g_name)
      (s_seq (s_tryA (a_cons e_var (a_cons e_var a_nil)))
      (s_seq (s_if (t_test (e_op o_isNX e_var e_non)) (s_ret (e_lst (a_cons e_str (a_cons e_var a_nil)))) s_next)
      (s_seq (s_if (t_tru (e_isXT e_var (a_cons e_raw (a_cons e_raw (a_cons e_raw (a_cons e_raw (a_cons e_raw (a_cons e_raw (a_cons e_raw a_nil))))))))) (s_ret (e_lst (a_cons e_str (a_cons e_non a_nil)))) s_next)
      (s_ret (e_lst (a_cons (e_op o_ix (e_lst (a_cons e_str (a_cons e_str a_nil))) (e_cb c_int (a_cons (e_andG (e_cb c_isX (a_cons e_var (a_cons e_raw a_nil))) (e_cb c_isX (a_cons e_var (a_cons e_raw a_nil)))) a_nil))) (a_cons e_non a_nil))))))))),fun xs ω Q h=>?_⟩)
  obtain ⟨n,ys,zs,u,rfl,hn,hC,hu,hsz,k⟩:=h
  walk_at "s1"
  walk_at "s1"
  walk_at "s1"
  refine ⟨n,(ys,zs),u,rfl,hn,⟨hC.y,hC.z⟩,hC.has,hu,hsz,?_⟩
  show if ((prl ys zs).find? (fau false u)).isNone = true then _ else _
  rw [gd_lets]
  unfold toldD at k
  by_cases hb : gdB ys zs u = true
  · rw [if_pos hb] at k ⊢
    walk_at "s1"
    rw [only_self]
    exact k
  · rw [if_neg hb] at k ⊢
    refine ⟨T.r_NoTalk_TalkError,fun a=>?_⟩
    walk_at "s1"
    walk_at "s1"
    refine ⟨[.ref t.a_NoCase,.ref t.a_NoSaying,.ref t.a_NoRise,.ref t.a_TooMany,.ref t.a_NoText,.ref t.a_NoRow,.ref t.a_NoWord],rfl,by simp,_,rfl,false,isXA_exc T.x_NoTalk (by simp only [PySem.W.kitAny,T.q_NoTalk_NoCase,T.q_NoTalk_NoSaying,T.q_NoTalk_NoRise,T.q_NoTalk_TooMany,T.q_NoTalk_NoText,T.q_NoTalk_NoRow,T.q_NoTalk_NoWord]),?_⟩
    walk_at "a1"
    refine ⟨_,rfl,true,isXA_exc T.x_NoTalk T.q_NoTalk_NoTalk,?_⟩
    rw [if_pos rfl]
    refine ⟨_,rfl,true,isXA_exc T.x_NoTalk T.q_NoTalk_ValueError,_,rfl,_,rfl,?_⟩
    rw [only_self]
    exact k
def sp_right : ASp:=fun xs ω Q=>∃ (n : Nat) (ys zs : List (List Int)) (u : Ta),xs = [.d (csD n ys zs),.d u.d]∧n≤5∧Ca n ys zs∧u.ok n∧u.size≤400∧u.dp≤12∧Q (.d (.bl true)) ω
theorem ok_right (T : Txt K mg t) : FnOk P t.wo K mg base CX0 14 t.a_l_right t.d_l_right ["_law_case","_law_talk"] (lift sp_right):=by
  have G_l_told : FnOk P t.wo K mg base CX0 5 t.a_l_told t.d_l_told ["_law_case","_law_talk"] (lift sp_told):=ok_told T
  have G_l_good : FnOk P t.wo K mg base CX0 2 t.a_l_good t.d_l_good ["_law_case","_law_talk"] (lift sp_good):=ok_good T
  have G_l_one_at : FnOk P t.wo K mg base CX0 13 t.a_l_one_at t.d_l_one_at ["_law_saying","_law_word"] (lift (sp_one 12)):=ok_one T 12
  refine T.f_l_right.okD sc_l_right (fun xs ω Q h=>by obtain ⟨n,ys,zs,u,rfl,_⟩:=h;rfl) (fun cdv A outer s H E hr=>⟨_,_,(pss_cons (ps_asg (pe_call G_l_told (hr.mono (by omega)) (by rfl) T.m_l_told T.k_l_told T.p_l_told .nil pass0 (pa_cons (pv 0) (pa_cons (pv 1) pa_nil))) (pg_lst (n:=2) rfl (pgs_cons (pg_name (i:=2) sc_l_right.nd rfl (Or.inl rfl)) (pgs_cons (pg_name (i:=3) sc_l_right.nd rfl (Or.inr rfl)) pgs_nil))))
      (pss_cons (ps_if (pt_not (pt_truthK K rfl (pe_call G_l_good (hr.mono (by omega)) (by rfl) T.m_l_good T.k_l_good T.p_l_good .nil pass0 (pa_cons (pv 0) (pa_cons (pv 1) pa_nil))) (fun _=>rfl))) (pss_one (ps_ret (pe_cmpR (op_eqD hr.u100) (pv 2) pe_str (nomark _)))) pss_nil)
      (pss_cons (ps_if (PW.pt (pw_or (pt_cmpR (op_neD hr.u100) (pv 2) pe_str (nomark _)) (pw_or1 (pt_not (pt_truthK K rfl (pe_callB call_isA (by rfl) T.b_isinstance (by kernel_rfl) (pa_cons (pv 3) (pa_cons (pe_bltn (v:=.ty "tuple") (by rfl) T.b_tuple (by kernel_rfl) (by rfl)) pa_nil))) (fun _=>rfl)))))) (pss_one (ps_ret pe_bl)) pss_nil)
      (pss_cons (ps_if (pt_not (pt_truthK K rfl (pe_callB (call_allK K rfl rfl) (by rfl) T.b_all (by kernel_rfl) (pa_cons (pe_comp (N:=(["_law_one","_law_saying"] : List Str)) (src:=[none,some 3]) rfl (by show blkOk _ (defScope s_l_right) _ _ (["_law_case","_law_talk","_law_word","_law_saying"] : List Str) = true;decide +kernel) (by intro g' h;cases h) (pi_seq K rfl (pe_ix (ix_seqK K rfl) (pv 0) pe_int (fun _ _=>rfl))) (fun _ _ _ _ _ _=>(pg_name (i:=0) (show (["_law_one","_law_saying"] : List Str).Nodup by decide +kernel) rfl (Or.inl rfl))) (fun _ _ _ _ _ _=>pts_nil) (fun _ _ _ _ _ _=>(pl_last rfl rfl (pe_call G_l_one_at (hr.mono (by omega)) (by rfl) T.m_l_one_at T.k_l_one_at T.p_l_one_at .nil pass0 (pa_cons (pv 1) (pa_cons (pv 0) pa_nil)))))) pa_nil)) (fun _=>rfl))) (pss_one (ps_ret pe_bl)) pss_nil)
      (pss_one (ps_ret (pe_notG K rfl (pe_callB (call_anyK K rfl rfl) (by rfl) T.b_any (by kernel_rfl) (pa_cons (pe_comp (N:=(["_law_other","_law_saying"] : List Str)) (src:=[none,some 3]) rfl (by show blkOk _ (defScope s_l_right) _ _ (["_law_case","_law_talk","_law_word","_law_saying"] : List Str) = true;decide +kernel) (by intro g' h;cases h) (pi_seq K rfl (pe_ix (ix_seqK K rfl) (pv 0) pe_int (fun _ _=>rfl))) (fun _ _ _ _ _ _=>(pg_name (i:=0) (show (["_law_other","_law_saying"] : List Str).Nodup by decide +kernel) rfl (Or.inl rfl))) (fun _ _ _ _ _ _=>pts_nil) (fun _ _ _ _ _ _=>(pl_last rfl rfl (pe_call G_l_one_at (hr.mono (by omega)) (by rfl) T.m_l_one_at T.k_l_one_at T.p_l_one_at .nil pass0 (pa_cons (pv 1) (pa_cons (pv 0) pa_nil)))))) pa_nil))))))))),(s_seq (s_asg (e_call (a_cons e_var (a_cons e_var a_nil))) (g_lst (g_cons g_name (g_cons g_name g_nil))))
      (s_seq (s_if (t_not (t_tru (e_call (a_cons e_var (a_cons e_var a_nil))))) (s_ret (e_op o_eqD e_var e_str)) s_next)
      (s_seq (s_if (t_or (t_test (e_op o_eqD e_var e_str)) (t_not (t_tru (e_cb c_isA (a_cons e_var (a_cons e_raw a_nil)))))) (s_ret e_bl) s_next)
      (s_seq (s_if (t_not (t_tru (e_cb c_all (a_cons (e_comp (i_seq (e_op o_ix e_var e_int)) g_name t_no (l_last (e_call (a_cons e_var (a_cons e_var a_nil))))) a_nil)))) (s_ret e_bl) s_next)
      (s_ret (e_notG (e_cb c_all (a_cons (e_comp (i_seq (e_op o_ix e_var e_int)) g_name t_no (l_last (e_call (a_cons e_var (a_cons e_var a_nil))))) a_nil)))))))),fun xs ω Q h=>?_⟩)
  obtain ⟨n,ys,zs,u,rfl,hn,hC,hu,hsz,hd,k⟩:=h
  walk_at "s1"
  refine ⟨n,ys,zs,u,rfl,hn,hC,hu,hsz,?_⟩
  unfold toldD
  by_cases hb : gdB ys zs u = true
  · rw [if_pos hb]
    have hl : ((prl ys zs).find? (fau false u)).isNone = true:=by rw [gd_lets];exact hb
    have hw : Ww n (ys,zs):=⟨hC.y,hC.z⟩
    obtain ⟨co,cd,cs⟩:=cutT_ok (ys,zs) hu
    obtain ⟨m1,m2,m3⟩:=mean_ok _ _ hw co
    obtain ⟨v1,v2⟩:=mean_val _ _ hw (cut_endsOk hC.has hl)
    generalize meanT (ys,zs) (cutT u (ys,zs)) = m at *
    walk_at "s1"
    refine ⟨n,ys,zs,u,rfl,hn,hC.y,hC.z,hu,_,rfl,?_⟩
    rw [hb,if_neg (by decide)]
    have hyl:=hC.y.le hn
    have hzl:=hC.z.le hn
    have cmpr : ∀ (ws : List (List Int)) {v0 : Option AV} {KK : List AV→SA→Om→Prop},Wds n ws→(∀ ρ,KK (((ws.map fun v=>D.bl (m.val v))).map AV.d) ρ ω)→aLoop (agName 0) aNoTest (aLast (aCall (sp_one 12) (aCons (aVar 1) (aCons (aVar 0) aNil)))) ((ws.map wdD).map AV.d) [] [v0,some (.d m.d)] ω KK:=fun ws v0 KK hw hk=>by
      have hl:=hw.le hn
      refine comp_ix (by simp) (Nat.le_of_lt (small1000 (by simp;omega))) (fun j a r h1 h2 Q q=>?_) hk
      simp only [List.map_map,List.getElem?_map,Option.map_eq_some_iff] at h1 h2
      obtain ⟨y,hy,rfl⟩:=h1
      obtain ⟨y',hy',rfl⟩:=h2
      rw [hy] at hy'
      cases hy'
      simp only [Function.comp_apply] at q ⊢
      walk_at "a1"
      exact ⟨m,y,rfl,by rw [(wl_mem (hw.2 y (List.mem_of_getElem? hy))).1];exact m1,by omega,q⟩
    have blm : ∀ ws : List (List Int),(ws.map fun v=>D.bl (m.val v)) = (ws.map fun v=>m.val v).map D.bl:=fun ws=>by simp
    simp only [csD]
    walk_at "s1"
    have ht : isD "tuple" m.d = true:=by cases m<;>rfl
    refine ⟨by decide,?_⟩
    rw [ht]
    walk_at "s1"
    refine cmpr ys hC.y fun ρ=>⟨_,und_map _,_,blm ys,?_⟩
    have ea : (ys.map fun v=>m.val v).all id = true:=by
      rw [List.all_map,List.all_eq_true]
      exact fun v hv=>v1 v hv
    rw [ea,if_neg (by decide)]
    refine cmpr zs hC.z fun ρ=>⟨_,und_map _,_,blm zs,?_⟩
    have eb : (zs.map fun v=>m.val v).any id = false:=by
      rw [List.any_map,List.any_eq_false]
      exact fun v hv=>by simp [v2 v hv]
    rw [eb,only_self]
    exact k
  · rw [if_neg hb]
    walk_at "s1"
    refine ⟨n,ys,zs,u,rfl,hn,hC.y,hC.z,hu,_,rfl,?_⟩
    rw [if_pos (by simpa using hb),only_self,show (Str.ofString "refused" == Str.ofString "refused") = true from by decide +kernel]
    exact k
theorem ok_law (T : Txt K mg t) : FnOk P t.wo K mg base CX0 60 t.a_law t.d_law ["_law_script"] (sp_law K):=by
  have G_l_started : FnOk P t.wo K mg base CX0 1 t.a_l_started t.d_l_started ["_law_script"] (lift (sp_pen K)):=ok_pen T
  have G_l_pull : FnOk P t.wo K mg base CX0 1 t.a_l_pull t.d_l_pull ["_law_start","_law_below"] (lift (sp_draw K)):=ok_draw T
  have G_l_two_sorts : FnOk P t.wo K mg base CX0 2 t.a_l_two_sorts t.d_l_two_sorts ["_law_start","_law_places"] (lift (sp_two K)):=ok_two T
  have G_l_by_places : FnOk P t.wo K mg base CX0 9 t.a_l_by_places t.d_l_by_places ["_law_start","_law_places","_law_yes","_law_no"] (lift (sp_by K 7)):=ok_by T 7
  have G_l_right : FnOk P t.wo K mg base CX0 14 t.a_l_right t.d_l_right ["_law_case","_law_talk"] (lift sp_right):=ok_right T
  have G_l_bent : FnOk P t.wo K mg base CX0 14 t.a_l_bent t.d_l_bent ["_law_start","_law_places","_law_talk"] (lift (sp_bent K 12)):=ok_bent T 12
  refine T.f_law.okA sc_law (fun xs ω Q h=>by obtain ⟨a,ns,rfl,_⟩:=h;rfl) (fun cdv A outer s H E hr=>⟨_,_,(pss_cons (ps_set (i:=1) sc_law.nd rfl (Or.inl rfl) (pe_call G_l_started (hr.mono (by omega)) (by rfl) T.m_l_started T.k_l_started T.p_l_started .nil pass0 (pa_cons (pv 0) pa_nil)))
      (pss_cons (ps_set (i:=2) sc_law.nd rfl (Or.inl rfl) (pe_op (op_alt op_add (op_alt op_cat3 op_cat)) pe_int (pe_call G_l_pull (hr.mono (by omega)) (by rfl) T.m_l_pull T.k_l_pull T.p_l_pull .nil pass0 (pa_cons (pv 1) (pa_consC pe_int pa_nil)))))
      (pss_cons (ps_asg (pe_call G_l_two_sorts (hr.mono (by omega)) (by rfl) T.m_l_two_sorts T.k_l_two_sorts T.p_l_two_sorts .nil pass0 (pa_cons (pv 1) (pa_cons (pv 2) pa_nil))) (pg_lst (n:=2) rfl (pgs_cons (pg_name (i:=3) sc_law.nd rfl (Or.inl rfl)) (pgs_cons (pg_name (i:=4) sc_law.nd rfl (Or.inl rfl)) pgs_nil))))
      (pss_cons (ps_set (i:=5) sc_law.nd rfl (Or.inl rfl) (pe_tup (pa_cons (pv 2) (pa_cons (pe_callTy (call_tuple_ofK K rfl) (by rfl) T.b_tuple (by kernel_rfl) (pa_cons (pv 3) pa_nil)) (pa_cons (pe_callTy (call_tuple_ofK K rfl) (by rfl) T.b_tuple (by kernel_rfl) (pa_cons (pv 4) pa_nil)) pa_nil)))))
      (pss_cons (ps_set (i:=6) sc_law.nd rfl (Or.inl rfl) (pe_call G_l_by_places (hr.mono (by omega)) (by rfl) T.m_l_by_places T.k_l_by_places T.p_l_by_places .nil pass0 (pa_cons (pv 1) (pa_cons (pv 2) (pa_cons (pv 3) (pa_cons (pv 4) pa_nil))))))
      (pss_cons (ps_if (pt_not (pt_truthK K rfl (pe_call G_l_right (hr.mono (by omega)) (by rfl) T.m_l_right T.k_l_right T.p_l_right .nil pass0 (pa_cons (pv 5) (pa_cons (pv 6) pa_nil))) (fun _=>rfl))) (pss_one (ps_ret pe_bl)) pss_nil)
      (pss_cons (ps_for PassesOwn.never rfl (pi_range1 rfl T.b_range (pa_consC pe_int pa_nil)) (pg_name (i:=7) sc_law.nd rfl (Or.inl rfl)) (pss_cons (ps_set (i:=8) sc_law.nd rfl (Or.inl rfl) (pe_call G_l_bent (hr.mono (by omega)) (by rfl) T.m_l_bent T.k_l_bent T.p_l_bent .nil pass0 (pa_cons (pv 1) (pa_cons (pv 2) (pa_cons (pv 6) pa_nil)))))
      (pss_one (ps_if (PW.pt (pw_or (pt_not (pt_truthK K rfl (pe_call G_l_right (hr.mono (by omega)) (by rfl) T.m_l_right T.k_l_right T.p_l_right .nil pass0 (pa_cons (pv 5) (pa_cons (pv 8) pa_nil))) (fun _=>rfl))) (pw_or1 (pt_not (pt_truthK K rfl (pe_call G_l_right (hr.mono (by omega)) (by rfl) T.m_l_right T.k_l_right T.p_l_right .nil pass0 (pa_cons (pv 5) (pa_cons (pe_call G_l_bent (hr.mono (by omega)) (by rfl) T.m_l_bent T.k_l_bent T.p_l_bent .nil pass0 (pa_cons (pv 1) (pa_cons (pv 2) (pa_cons (pv 8) pa_nil)))) pa_nil))) (fun _=>rfl)))))) (pss_one (ps_ret pe_bl)) pss_nil))))
      (pss_cons (ps_for PassesOwn.never rfl (pi_range1 rfl T.b_range (pa_cons (pv 2) pa_nil)) (pg_name (i:=9) sc_law.nd rfl (Or.inl rfl)) (pss_one (ps_if (pt_not (pt_truthK K rfl (pe_call G_l_right (hr.mono (by omega)) (by rfl) T.m_l_right T.k_l_right T.p_l_right .nil pass0 (pa_cons (pv 5) (pa_consT (pe_tup (pa_consC pe_str (pa_cons (pv 9) pa_nil))) pa_nil))) (fun _=>rfl))) (pss_one (ps_ret pe_bl)) pss_nil)))
      (pss_one (ps_ret (pe_andG K rfl (pe_call G_l_right (hr.mono (by omega)) (by rfl) T.m_l_right T.k_l_right T.p_l_right .nil pass0 (pa_consT (pe_tup (pa_cons (pv 2) (pa_cons (pe_ix (ix_seqK K rfl) (pv 5) pe_int (fun _ _=>rfl)) (pa_cons (pe_ix (ix_seqK K rfl) (pv 5) pe_int (fun _ _=>rfl)) pa_nil)))) (pa_consT (pe_tup (pa_consC pe_str (pa_cons (pe_op op_sub (pv 2) pe_int) pa_nil))) pa_nil))) (pe_one (pe_call G_l_right (hr.mono (by omega)) (by rfl) T.m_l_right T.k_l_right T.p_l_right .nil pass0 (pa_cons (pv 5) (pa_cons (pv 6) pa_nil))))))))))))))),(s_seq (s_asg (e_call (a_cons e_var a_nil)) g_name)
      (s_seq (s_asg (e_op o_add e_int (e_call (a_cons e_var (a_cons e_int a_nil)))) g_name)
      (s_seq (s_asg (e_call (a_cons e_var (a_cons e_var a_nil))) (g_lst (g_cons g_name (g_cons g_name g_nil))))
      (s_seq (s_asg (e_tup (a_cons e_var (a_cons (e_cb c_tuple (a_cons e_var a_nil)) (a_cons (e_cb c_tuple (a_cons e_var a_nil)) a_nil)))) g_name)
      (s_seq (s_asg (e_call (a_cons e_var (a_cons e_var (a_cons e_var (a_cons e_var a_nil))))) g_name)
      (s_seq (s_if (t_not (t_tru (e_call (a_cons e_var (a_cons e_var a_nil))))) (s_ret e_bl) s_next)
      (s_seq (s_for (i_rng1 (a_cons e_int a_nil)) g_name (s_seq (s_asg (e_call (a_cons e_var (a_cons e_var (a_cons e_var a_nil)))) g_name)
      (s_if (t_or (t_not (t_tru (e_call (a_cons e_var (a_cons e_var a_nil))))) (t_not (t_tru (e_call (a_cons e_var (a_cons (e_call (a_cons e_var (a_cons e_var (a_cons e_var a_nil)))) a_nil)))))) (s_ret e_bl) s_next)))
      (s_seq (s_for (i_rng1 (a_cons e_var a_nil)) g_name (s_if (t_not (t_tru (e_call (a_cons e_var (a_cons (e_tup (a_cons e_str (a_cons e_var a_nil))) a_nil))))) (s_ret e_bl) s_next))
      (s_ret (e_andG (e_call (a_cons (e_tup (a_cons e_var (a_cons (e_op o_ix e_var e_int) (a_cons (e_op o_ix e_var e_int) a_nil)))) (a_cons (e_tup (a_cons e_str (a_cons (e_op o_I0i e_var e_int) a_nil))) a_nil))) (e_call (a_cons e_var (a_cons e_var a_nil))))))))))))),fun xs ω Q h=>?_⟩)
  obtain ⟨a,ns,rfl,hl,rfl,k⟩:=h
  walk_at "s1"
  refine ⟨a,ns,rfl,hl,fun p c hp0=>?_⟩
  walk_at "s1"
  refine ⟨p,5,rfl,pdAt_put,by decide,by decide,fun r c r0 r1=>?_⟩
  rw [Om.put_put]
  obtain ⟨n,hn⟩ : ∃ n : Nat,1 + r = (n : Int):=⟨(1 + r).toNat,by omega⟩
  have hn1 : 1≤n:=by omega
  have hn5 : n≤5:=by omega
  refine ⟨r,rfl,?_⟩
  rw [hn]
  walk_at "s1"
  refine ⟨p,n,rfl,pdAt_put,hn1,hn5,fun ys zs c T2 hsum=>?_⟩
  rw [Om.put_put]
  refine ⟨_,rfl,rfl,_,_,rfl,_,_,rfl,rfl,?_⟩
  have hp : PdAt K (Om.put (fun _=>none) p (pdO K c)) p:=pdAt_put
  generalize Om.put (fun _=>none) p (pdO K c) = ω0 at *
  have C1 : Ca n ys zs:=⟨T2.y,T2.z,T2.y1,T2.z1⟩
  have C2 : Ca n zs ys:=⟨T2.z,T2.y,T2.z1,T2.y1⟩
  walk_at "s1"
  show aSeq _ _ _ [_,_,_,_,_,some (.d (csD n ys zs)),_,_,_,_] _
  walk_at "s1"
  refine ⟨p,n,ys,zs,rfl,hp,hn1,hn5,T2,by omega,fun u c uo ud ul=>?_⟩
  have usz:=Ta.size_lvs u
  have hmul : ys.length * zs.length≤81:=Nat.le_trans (Nat.mul_le_mul (by omega : ys.length≤9) (by omega : zs.length≤9)) (by decide)
  have hp : PdAt K (ω0.put p (pdO K c)) p:=pdAt_put
  generalize ω0.put p (pdO K c) = ω1 at *
  walk_at "s1"
  refine ⟨n,ys,zs,u,rfl,hn5,C1,uo,by omega,by omega,true,rfl,?_⟩
  rw [if_neg (by decide)]
  walk_at "s1"
  refine ⟨by decide,by decide,for_rng (fun i ρ ω'=>PdAt K ω' p∧∃ v7 v8,ρ = [some (scrL K a ns),some (AV.r (V.ref p)),some (AV.d (D.int n)),some (.d (.lst (ys.map wdD))),some (.d (.lst (zs.map wdD))),some (.d (csD n ys zs)),some (.d u.d),v7,v8,none]) ⟨hp,_,_,rfl⟩ ?_ ?_⟩
  · rintro i ρ ω2 N hi ⟨hp,v7,v8,rfl⟩ kN
    walk_at "s1"
    refine ⟨p,n,u,rfl,hp,hn1,hn5,uo,by omega,fun v c vo vd vs=>?_⟩
    walk_at "a1"
    refine ⟨n,ys,zs,v,rfl,hn5,C1,vo,by omega,by omega,true,rfl,?_⟩
    rw [if_neg (by decide)]
    refine ⟨p,n,v,rfl,pdAt_put,hn1,hn5,vo,by omega,fun v2 c2 vo2 vd2 vs2=>?_⟩
    refine ⟨n,ys,zs,v2,rfl,hn5,C1,vo2,by omega,by omega,true,rfl,?_⟩
    rw [if_neg (by decide)]
    exact kN _ _ ⟨pdAt_put,_,_,rfl⟩
  rintro ρ ω2 ⟨hp,v7,v8,rfl⟩
  dsimp only
  walk_at "s1"
  refine ⟨by omega,by omega,for_rng (fun i ρ ω'=>∃ v9,ρ = [some (scrL K a ns),some (AV.r (V.ref p)),some (AV.d (D.int n)),some (.d (.lst (ys.map wdD))),some (.d (.lst (zs.map wdD))),some (.d (csD n ys zs)),some (.d u.d),v7,v8,v9]) ⟨_,rfl⟩ ?_ ?_⟩
  · rintro i ρ ω3 N hi ⟨v9,rfl⟩ kN
    have hi' : i < n:=hi
    walk_at "a1"
    refine ⟨n,ys,zs,.en (0 + (i : Nat)),rfl,hn5,C1,⟨by omega,by omega⟩,by simp [Ta.size],by simp [Ta.dp],true,rfl,?_⟩
    rw [if_neg (by decide)]
    exact kN _ _ ⟨_,rfl⟩
  rintro ρ ω3 ⟨v9,rfl⟩
  dsimp only
  walk_at "a1"
  refine ⟨_,.inr rfl,_,rfl,_,.inr rfl,_,rfl,_,rfl,?_⟩
  refine ⟨n,zs,ys,.en ((n : Int) - 1),rfl,hn5,C2,⟨by omega,by omega⟩,by simp [Ta.size],by simp [Ta.dp],true,rfl,?_⟩
  rw [if_pos rfl]
  exact ⟨n,ys,zs,u,rfl,hn5,C1,uo,by omega,by omega,k _⟩
end
theorem ok_lawW {P : Program} {w : World} {K : PySem.W.Frag} {mg : Str→Option Value} {base : Heap} {t : Adr} (hw : t.wo = w) (T : Txt K mg t) : FnOk P w K mg base CX0 60 t.a_law t.d_law ["_law_script"] (sp_law K):=by
  subst hw;exact ok_law T
theorem txt_mk (w : World) {K : PySem.W.Frag} {h : Heap} {mg : Str→Option Value} (X : K.In h) (G : h.Ns mainGlobals mg)
    {a_went_on : Addr} {od_went_on an_went_on : Option Addr} {sl_went_on : Array (Option Value)} {oc_went_on kV_went_on dc_went_on pm_went_on cd_went_on ct_went_on : Value}
    {a_ends_of : Addr} {od_ends_of an_ends_of : Option Addr} {sl_ends_of : Array (Option Value)} {oc_ends_of kV_ends_of dc_ends_of pm_ends_of cd_ends_of ct_ends_of : Value}
    {a_has_pairs : Addr} {od_has_pairs an_has_pairs : Option Addr} {sl_has_pairs : Array (Option Value)} {oc_has_pairs kV_has_pairs dc_has_pairs pm_has_pairs cd_has_pairs ct_has_pairs : Value}
    {a_kept_upward : Addr} {od_kept_upward an_kept_upward : Option Addr} {sl_kept_upward : Array (Option Value)} {oc_kept_upward kV_kept_upward dc_kept_upward pm_kept_upward cd_kept_upward ct_kept_upward : Value}
    {a_cut : Addr} {od_cut an_cut : Option Addr} {sl_cut : Array (Option Value)} {oc_cut kV_cut dc_cut pm_cut cd_cut ct_cut : Value}
    {a_upward : Addr} {od_upward an_upward : Option Addr} {sl_upward : Array (Option Value)} {oc_upward kV_upward dc_upward pm_upward cd_upward ct_upward : Value}
    {a_pairs_in : Addr} {od_pairs_in an_pairs_in : Option Addr} {sl_pairs_in : Array (Option Value)} {oc_pairs_in kV_pairs_in dc_pairs_in pm_pairs_in cd_pairs_in ct_pairs_in : Value}
    {a_spoken : Addr} {od_spoken an_spoken : Option Addr} {sl_spoken : Array (Option Value)} {oc_spoken kV_spoken dc_spoken pm_spoken cd_spoken ct_spoken : Value}
    {a_parts_pair : Addr} {od_parts_pair an_parts_pair : Option Addr} {sl_parts_pair : Array (Option Value)} {oc_parts_pair kV_parts_pair dc_parts_pair pm_parts_pair cd_parts_pair ct_parts_pair : Value}
    {a_fault : Addr} {od_fault an_fault : Option Addr} {sl_fault : Array (Option Value)} {oc_fault kV_fault dc_fault pm_fault cd_fault ct_fault : Value}
    {a_lets_by : Addr} {od_lets_by an_lets_by : Option Addr} {sl_lets_by : Array (Option Value)} {oc_lets_by kV_lets_by dc_lets_by pm_lets_by cd_lets_by ct_lets_by : Value}
    {a_saying_of : Addr} {od_saying_of an_saying_of : Option Addr} {sl_saying_of : Array (Option Value)} {oc_saying_of kV_saying_of dc_saying_of pm_saying_of cd_saying_of ct_saying_of : Value}
    {a_l_started : Addr} {od_l_started an_l_started : Option Addr} {sl_l_started : Array (Option Value)} {oc_l_started kV_l_started dc_l_started pm_l_started cd_l_started ct_l_started : Value}
    {a_l_pull : Addr} {od_l_pull an_l_pull : Option Addr} {sl_l_pull : Array (Option Value)} {oc_l_pull kV_l_pull dc_l_pull pm_l_pull cd_l_pull ct_l_pull : Value}
    {a_l_list : Addr} {od_l_list an_l_list : Option Addr} {sl_l_list : Array (Option Value)} {oc_l_list kV_l_list dc_l_list pm_l_list cd_l_list ct_l_list : Value}
    {a_l_two_sorts : Addr} {od_l_two_sorts an_l_two_sorts : Option Addr} {sl_l_two_sorts : Array (Option Value)} {oc_l_two_sorts kV_l_two_sorts dc_l_two_sorts pm_l_two_sorts cd_l_two_sorts ct_l_two_sorts : Value}
    {a_l_parts_all : Addr} {od_l_parts_all an_l_parts_all : Option Addr} {sl_l_parts_all : Array (Option Value)} {oc_l_parts_all kV_l_parts_all dc_l_parts_all pm_l_parts_all cd_l_parts_all ct_l_parts_all : Value}
    {a_l_by_places : Addr} {od_l_by_places an_l_by_places : Option Addr} {sl_l_by_places : Array (Option Value)} {oc_l_by_places kV_l_by_places dc_l_by_places pm_l_by_places cd_l_by_places ct_l_by_places : Value}
    {a_l_bent : Addr} {od_l_bent an_l_bent : Option Addr} {sl_l_bent : Array (Option Value)} {oc_l_bent kV_l_bent dc_l_bent pm_l_bent cd_l_bent ct_l_bent : Value}
    {a_l_ended : Addr} {od_l_ended an_l_ended : Option Addr} {sl_l_ended : Array (Option Value)} {oc_l_ended kV_l_ended dc_l_ended pm_l_ended cd_l_ended ct_l_ended : Value}
    {a_l_good : Addr} {od_l_good an_l_good : Option Addr} {sl_l_good : Array (Option Value)} {oc_l_good kV_l_good dc_l_good pm_l_good cd_l_good ct_l_good : Value}
    {a_l_one_at : Addr} {od_l_one_at an_l_one_at : Option Addr} {sl_l_one_at : Array (Option Value)} {oc_l_one_at kV_l_one_at dc_l_one_at pm_l_one_at cd_l_one_at ct_l_one_at : Value}
    {a_l_told : Addr} {od_l_told an_l_told : Option Addr} {sl_l_told : Array (Option Value)} {oc_l_told kV_l_told dc_l_told pm_l_told cd_l_told ct_l_told : Value}
    {a_l_right : Addr} {od_l_right an_l_right : Option Addr} {sl_l_right : Array (Option Value)} {oc_l_right kV_l_right dc_l_right pm_l_right cd_l_right ct_l_right : Value}
    {a_law : Addr} {od_law an_law : Option Addr} {sl_law : Array (Option Value)} {oc_law kV_law dc_law pm_law cd_law ct_law : Value}
    {a_JOIN_OF_HAND : Addr} {ep_JOIN_OF_HAND : Nat} {u_JOIN_OF_HAND_0 v_JOIN_OF_HAND_0 u_JOIN_OF_HAND_1 v_JOIN_OF_HAND_1 : Tok}
    {a_TalkError : Addr}
    {a_NoCase : Addr}
    {a_NoSaying : Addr}
    {a_NoTalk : Addr}
    {a_NoRise : Addr}
    {a_TooMany : Addr}
    {a_NoRow : Addr}
    {a_NoWord : Addr}
    {a_NoText : Addr}
    (g_went_on : PySem.W.nsIn K mainGlobals "went_on" = some (some (.ref a_went_on))) (l_went_on : K.lookup a_went_on = some ⟨oc_went_on,od_went_on,.func (PySem.W.fnOf "went_on" "went_on" (defArgs s_went_on) (defBody s_went_on) (defScope s_went_on) .none kV_went_on dc_went_on pm_went_on an_went_on cd_went_on ct_went_on),sl_went_on⟩) (c_went_on : PySem.W.codeIn K cd_went_on "went_on" = true) (e_went_on : PySem.W.keepIn K (.ref a_went_on) = true)
    (g_ends_of : PySem.W.nsIn K mainGlobals "ends_of" = some (some (.ref a_ends_of))) (l_ends_of : K.lookup a_ends_of = some ⟨oc_ends_of,od_ends_of,.func (PySem.W.fnOf "ends_of" "ends_of" (defArgs s_ends_of) (defBody s_ends_of) (defScope s_ends_of) .none kV_ends_of dc_ends_of pm_ends_of an_ends_of cd_ends_of ct_ends_of),sl_ends_of⟩) (c_ends_of : PySem.W.codeIn K cd_ends_of "ends_of" = true) (e_ends_of : PySem.W.keepIn K (.ref a_ends_of) = true)
    (g_has_pairs : PySem.W.nsIn K mainGlobals "has_pairs" = some (some (.ref a_has_pairs))) (l_has_pairs : K.lookup a_has_pairs = some ⟨oc_has_pairs,od_has_pairs,.func (PySem.W.fnOf "has_pairs" "has_pairs" (defArgs s_has_pairs) (defBody s_has_pairs) (defScope s_has_pairs) .none kV_has_pairs dc_has_pairs pm_has_pairs an_has_pairs cd_has_pairs ct_has_pairs),sl_has_pairs⟩) (c_has_pairs : PySem.W.codeIn K cd_has_pairs "has_pairs" = true) (e_has_pairs : PySem.W.keepIn K (.ref a_has_pairs) = true)
    (g_kept_upward : PySem.W.nsIn K mainGlobals "kept_upward" = some (some (.ref a_kept_upward))) (l_kept_upward : K.lookup a_kept_upward = some ⟨oc_kept_upward,od_kept_upward,.func (PySem.W.fnOf "kept_upward" "kept_upward" (defArgs s_kept_upward) (defBody s_kept_upward) (defScope s_kept_upward) .none kV_kept_upward dc_kept_upward pm_kept_upward an_kept_upward cd_kept_upward ct_kept_upward),sl_kept_upward⟩) (c_kept_upward : PySem.W.codeIn K cd_kept_upward "kept_upward" = true) (e_kept_upward : PySem.W.keepIn K (.ref a_kept_upward) = true)
    (g_cut : PySem.W.nsIn K mainGlobals "cut" = some (some (.ref a_cut))) (l_cut : K.lookup a_cut = some ⟨oc_cut,od_cut,.func (PySem.W.fnOf "cut" "cut" (defArgs s_cut) (defBody s_cut) (defScope s_cut) .none kV_cut dc_cut pm_cut an_cut cd_cut ct_cut),sl_cut⟩) (c_cut : PySem.W.codeIn K cd_cut "cut" = true) (e_cut : PySem.W.keepIn K (.ref a_cut) = true)
    (g_upward : PySem.W.nsIn K mainGlobals "upward" = some (some (.ref a_upward))) (l_upward : K.lookup a_upward = some ⟨oc_upward,od_upward,.func (PySem.W.fnOf "upward" "upward" (defArgs s_upward) (defBody s_upward) (defScope s_upward) .none kV_upward dc_upward pm_upward an_upward cd_upward ct_upward),sl_upward⟩) (c_upward : PySem.W.codeIn K cd_upward "upward" = true) (e_upward : PySem.W.keepIn K (.ref a_upward) = true)
    (g_pairs_in : PySem.W.nsIn K mainGlobals "pairs_in" = some (some (.ref a_pairs_in))) (l_pairs_in : K.lookup a_pairs_in = some ⟨oc_pairs_in,od_pairs_in,.func (PySem.W.fnOf "pairs_in" "pairs_in" (defArgs s_pairs_in) (defBody s_pairs_in) (defScope s_pairs_in) .none kV_pairs_in dc_pairs_in pm_pairs_in an_pairs_in cd_pairs_in ct_pairs_in),sl_pairs_in⟩) (c_pairs_in : PySem.W.codeIn K cd_pairs_in "pairs_in" = true) (e_pairs_in : PySem.W.keepIn K (.ref a_pairs_in) = true)
    (g_spoken : PySem.W.nsIn K mainGlobals "spoken" = some (some (.ref a_spoken))) (l_spoken : K.lookup a_spoken = some ⟨oc_spoken,od_spoken,.func (PySem.W.fnOf "spoken" "spoken" (defArgs s_spoken) (defBody s_spoken) (defScope s_spoken) .none kV_spoken dc_spoken pm_spoken an_spoken cd_spoken ct_spoken),sl_spoken⟩) (c_spoken : PySem.W.codeIn K cd_spoken "spoken" = true) (e_spoken : PySem.W.keepIn K (.ref a_spoken) = true)
    (g_parts_pair : PySem.W.nsIn K mainGlobals "parts_pair" = some (some (.ref a_parts_pair))) (l_parts_pair : K.lookup a_parts_pair = some ⟨oc_parts_pair,od_parts_pair,.func (PySem.W.fnOf "parts_pair" "parts_pair" (defArgs s_parts_pair) (defBody s_parts_pair) (defScope s_parts_pair) .none kV_parts_pair dc_parts_pair pm_parts_pair an_parts_pair cd_parts_pair ct_parts_pair),sl_parts_pair⟩) (c_parts_pair : PySem.W.codeIn K cd_parts_pair "parts_pair" = true) (e_parts_pair : PySem.W.keepIn K (.ref a_parts_pair) = true)
    (g_fault : PySem.W.nsIn K mainGlobals "fault" = some (some (.ref a_fault))) (l_fault : K.lookup a_fault = some ⟨oc_fault,od_fault,.func (PySem.W.fnOf "fault" "fault" (defArgs s_fault) (defBody s_fault) (defScope s_fault) .none kV_fault dc_fault pm_fault an_fault cd_fault ct_fault),sl_fault⟩) (c_fault : PySem.W.codeIn K cd_fault "fault" = true) (e_fault : PySem.W.keepIn K (.ref a_fault) = true)
    (g_lets_by : PySem.W.nsIn K mainGlobals "lets_by" = some (some (.ref a_lets_by))) (l_lets_by : K.lookup a_lets_by = some ⟨oc_lets_by,od_lets_by,.func (PySem.W.fnOf "lets_by" "lets_by" (defArgs s_lets_by) (defBody s_lets_by) (defScope s_lets_by) .none kV_lets_by dc_lets_by pm_lets_by an_lets_by cd_lets_by ct_lets_by),sl_lets_by⟩) (c_lets_by : PySem.W.codeIn K cd_lets_by "lets_by" = true) (e_lets_by : PySem.W.keepIn K (.ref a_lets_by) = true)
    (g_saying_of : PySem.W.nsIn K mainGlobals "saying_of" = some (some (.ref a_saying_of))) (l_saying_of : K.lookup a_saying_of = some ⟨oc_saying_of,od_saying_of,.func (PySem.W.fnOf "saying_of" "saying_of" (defArgs s_saying_of) (defBody s_saying_of) (defScope s_saying_of) .none kV_saying_of dc_saying_of pm_saying_of an_saying_of cd_saying_of ct_saying_of),sl_saying_of⟩) (c_saying_of : PySem.W.codeIn K cd_saying_of "saying_of" = true) (e_saying_of : PySem.W.keepIn K (.ref a_saying_of) = true)
    (g_l_started : PySem.W.nsIn K mainGlobals "_law_started" = some (some (.ref a_l_started))) (l_l_started : K.lookup a_l_started = some ⟨oc_l_started,od_l_started,.func (PySem.W.fnOf "_law_started" "_law_started" (defArgs s_l_started) (defBody s_l_started) (defScope s_l_started) .none kV_l_started dc_l_started pm_l_started an_l_started cd_l_started ct_l_started),sl_l_started⟩) (c_l_started : PySem.W.codeIn K cd_l_started "_law_started" = true) (e_l_started : PySem.W.keepIn K (.ref a_l_started) = true)
    (g_l_pull : PySem.W.nsIn K mainGlobals "_law_pull" = some (some (.ref a_l_pull))) (l_l_pull : K.lookup a_l_pull = some ⟨oc_l_pull,od_l_pull,.func (PySem.W.fnOf "_law_pull" "_law_pull" (defArgs s_l_pull) (defBody s_l_pull) (defScope s_l_pull) .none kV_l_pull dc_l_pull pm_l_pull an_l_pull cd_l_pull ct_l_pull),sl_l_pull⟩) (c_l_pull : PySem.W.codeIn K cd_l_pull "_law_pull" = true) (e_l_pull : PySem.W.keepIn K (.ref a_l_pull) = true)
    (g_l_list : PySem.W.nsIn K mainGlobals "_law_list" = some (some (.ref a_l_list))) (l_l_list : K.lookup a_l_list = some ⟨oc_l_list,od_l_list,.func (PySem.W.fnOf "_law_list" "_law_list" (defArgs s_l_list) (defBody s_l_list) (defScope s_l_list) .none kV_l_list dc_l_list pm_l_list an_l_list cd_l_list ct_l_list),sl_l_list⟩) (c_l_list : PySem.W.codeIn K cd_l_list "_law_list" = true) (e_l_list : PySem.W.keepIn K (.ref a_l_list) = true)
    (g_l_two_sorts : PySem.W.nsIn K mainGlobals "_law_two_sorts" = some (some (.ref a_l_two_sorts))) (l_l_two_sorts : K.lookup a_l_two_sorts = some ⟨oc_l_two_sorts,od_l_two_sorts,.func (PySem.W.fnOf "_law_two_sorts" "_law_two_sorts" (defArgs s_l_two_sorts) (defBody s_l_two_sorts) (defScope s_l_two_sorts) .none kV_l_two_sorts dc_l_two_sorts pm_l_two_sorts an_l_two_sorts cd_l_two_sorts ct_l_two_sorts),sl_l_two_sorts⟩) (c_l_two_sorts : PySem.W.codeIn K cd_l_two_sorts "_law_two_sorts" = true) (e_l_two_sorts : PySem.W.keepIn K (.ref a_l_two_sorts) = true)
    (g_l_parts_all : PySem.W.nsIn K mainGlobals "_law_parts_all" = some (some (.ref a_l_parts_all))) (l_l_parts_all : K.lookup a_l_parts_all = some ⟨oc_l_parts_all,od_l_parts_all,.func (PySem.W.fnOf "_law_parts_all" "_law_parts_all" (defArgs s_l_parts_all) (defBody s_l_parts_all) (defScope s_l_parts_all) .none kV_l_parts_all dc_l_parts_all pm_l_parts_all an_l_parts_all cd_l_parts_all ct_l_parts_all),sl_l_parts_all⟩) (c_l_parts_all : PySem.W.codeIn K cd_l_parts_all "_law_parts_all" = true) (e_l_parts_all : PySem.W.keepIn K (.ref a_l_parts_all) = true)
    (g_l_by_places : PySem.W.nsIn K mainGlobals "_law_by_places" = some (some (.ref a_l_by_places))) (l_l_by_places : K.lookup a_l_by_places = some ⟨oc_l_by_places,od_l_by_places,.func (PySem.W.fnOf "_law_by_places" "_law_by_places" (defArgs s_l_by_places) (defBody s_l_by_places) (defScope s_l_by_places) .none kV_l_by_places dc_l_by_places pm_l_by_places an_l_by_places cd_l_by_places ct_l_by_places),sl_l_by_places⟩) (c_l_by_places : PySem.W.codeIn K cd_l_by_places "_law_by_places" = true) (e_l_by_places : PySem.W.keepIn K (.ref a_l_by_places) = true)
    (g_l_bent : PySem.W.nsIn K mainGlobals "_law_bent" = some (some (.ref a_l_bent))) (l_l_bent : K.lookup a_l_bent = some ⟨oc_l_bent,od_l_bent,.func (PySem.W.fnOf "_law_bent" "_law_bent" (defArgs s_l_bent) (defBody s_l_bent) (defScope s_l_bent) .none kV_l_bent dc_l_bent pm_l_bent an_l_bent cd_l_bent ct_l_bent),sl_l_bent⟩) (c_l_bent : PySem.W.codeIn K cd_l_bent "_law_bent" = true) (e_l_bent : PySem.W.keepIn K (.ref a_l_bent) = true)
    (g_l_ended : PySem.W.nsIn K mainGlobals "_law_ended" = some (some (.ref a_l_ended))) (l_l_ended : K.lookup a_l_ended = some ⟨oc_l_ended,od_l_ended,.func (PySem.W.fnOf "_law_ended" "_law_ended" (defArgs s_l_ended) (defBody s_l_ended) (defScope s_l_ended) .none kV_l_ended dc_l_ended pm_l_ended an_l_ended cd_l_ended ct_l_ended),sl_l_ended⟩) (c_l_ended : PySem.W.codeIn K cd_l_ended "_law_ended" = true) (e_l_ended : PySem.W.keepIn K (.ref a_l_ended) = true)
    (g_l_good : PySem.W.nsIn K mainGlobals "_law_good" = some (some (.ref a_l_good))) (l_l_good : K.lookup a_l_good = some ⟨oc_l_good,od_l_good,.func (PySem.W.fnOf "_law_good" "_law_good" (defArgs s_l_good) (defBody s_l_good) (defScope s_l_good) .none kV_l_good dc_l_good pm_l_good an_l_good cd_l_good ct_l_good),sl_l_good⟩) (c_l_good : PySem.W.codeIn K cd_l_good "_law_good" = true) (e_l_good : PySem.W.keepIn K (.ref a_l_good) = true)
    (g_l_one_at : PySem.W.nsIn K mainGlobals "_law_one_at" = some (some (.ref a_l_one_at))) (l_l_one_at : K.lookup a_l_one_at = some ⟨oc_l_one_at,od_l_one_at,.func (PySem.W.fnOf "_law_one_at" "_law_one_at" (defArgs s_l_one_at) (defBody s_l_one_at) (defScope s_l_one_at) .none kV_l_one_at dc_l_one_at pm_l_one_at an_l_one_at cd_l_one_at ct_l_one_at),sl_l_one_at⟩) (c_l_one_at : PySem.W.codeIn K cd_l_one_at "_law_one_at" = true) (e_l_one_at : PySem.W.keepIn K (.ref a_l_one_at) = true)
    (g_l_told : PySem.W.nsIn K mainGlobals "_law_told" = some (some (.ref a_l_told))) (l_l_told : K.lookup a_l_told = some ⟨oc_l_told,od_l_told,.func (PySem.W.fnOf "_law_told" "_law_told" (defArgs s_l_told) (defBody s_l_told) (defScope s_l_told) .none kV_l_told dc_l_told pm_l_told an_l_told cd_l_told ct_l_told),sl_l_told⟩) (c_l_told : PySem.W.codeIn K cd_l_told "_law_told" = true) (e_l_told : PySem.W.keepIn K (.ref a_l_told) = true)
    (g_l_right : PySem.W.nsIn K mainGlobals "_law_right" = some (some (.ref a_l_right))) (l_l_right : K.lookup a_l_right = some ⟨oc_l_right,od_l_right,.func (PySem.W.fnOf "_law_right" "_law_right" (defArgs s_l_right) (defBody s_l_right) (defScope s_l_right) .none kV_l_right dc_l_right pm_l_right an_l_right cd_l_right ct_l_right),sl_l_right⟩) (c_l_right : PySem.W.codeIn K cd_l_right "_law_right" = true) (e_l_right : PySem.W.keepIn K (.ref a_l_right) = true)
    (g_law : PySem.W.nsIn K mainGlobals "law" = some (some (.ref a_law))) (l_law : K.lookup a_law = some ⟨oc_law,od_law,.func (PySem.W.fnOf "law" "law" (defArgs s_law) (defBody s_law) (defScope s_law) .none kV_law dc_law pm_law an_law cd_law ct_law),sl_law⟩) (c_law : PySem.W.codeIn K cd_law "law" = true) (e_law : PySem.W.keepIn K (.ref a_law) = true)
    (g_JOIN_OF_HAND : PySem.W.nsIn K mainGlobals "JOIN_OF_HAND" = some (some (.ref a_JOIN_OF_HAND))) (l_JOIN_OF_HAND : K.lookup a_JOIN_OF_HAND = some { cls:=.type "dict",data:=.dict #[⟨PyData.keyHash w.params "yes",.str "yes" u_JOIN_OF_HAND_0,.str "or" v_JOIN_OF_HAND_0⟩,⟨PyData.keyHash w.params "no",.str "no" u_JOIN_OF_HAND_1,.str "and" v_JOIN_OF_HAND_1⟩] ep_JOIN_OF_HAND })
    (g_TalkError : PySem.W.nsIn K mainGlobals "TalkError" = some (some (.ref a_TalkError)))
    (g_NoCase : PySem.W.nsIn K mainGlobals "NoCase" = some (some (.ref a_NoCase)))
    (g_NoSaying : PySem.W.nsIn K mainGlobals "NoSaying" = some (some (.ref a_NoSaying)))
    (g_NoTalk : PySem.W.nsIn K mainGlobals "NoTalk" = some (some (.ref a_NoTalk)))
    (g_NoRise : PySem.W.nsIn K mainGlobals "NoRise" = some (some (.ref a_NoRise)))
    (g_TooMany : PySem.W.nsIn K mainGlobals "TooMany" = some (some (.ref a_TooMany)))
    (g_NoRow : PySem.W.nsIn K mainGlobals "NoRow" = some (some (.ref a_NoRow)))
    (g_NoWord : PySem.W.nsIn K mainGlobals "NoWord" = some (some (.ref a_NoWord)))
    (g_NoText : PySem.W.nsIn K mainGlobals "NoText" = some (some (.ref a_NoText)))
    (x_NoTalk : excOk K a_NoTalk = true)
    (q_NoTalk_NoCase : PySem.W.kitOne K (.ref a_NoTalk) (.ref a_NoCase) = some false)
    (q_NoTalk_NoSaying : PySem.W.kitOne K (.ref a_NoTalk) (.ref a_NoSaying) = some false)
    (q_NoTalk_NoRise : PySem.W.kitOne K (.ref a_NoTalk) (.ref a_NoRise) = some false)
    (q_NoTalk_TooMany : PySem.W.kitOne K (.ref a_NoTalk) (.ref a_TooMany) = some false)
    (q_NoTalk_NoText : PySem.W.kitOne K (.ref a_NoTalk) (.ref a_NoText) = some false)
    (q_NoTalk_NoRow : PySem.W.kitOne K (.ref a_NoTalk) (.ref a_NoRow) = some false)
    (q_NoTalk_NoWord : PySem.W.kitOne K (.ref a_NoTalk) (.ref a_NoWord) = some false)
    (q_NoTalk_NoTalk : PySem.W.kitOne K (.ref a_NoTalk) (.ref a_NoTalk) = some true)
    (q_NoTalk_ValueError : PySem.W.kitOne K (.ref a_NoTalk) (.type "ValueError") = some true)
    (r_NoTalk_TalkError : PySem.W.exmOne K (.ref a_NoTalk) (.ref a_TalkError) = some true)
    (n_NoCase : PySem.W.kitOne K (.type "NoneType") (.ref a_NoCase) = some false)
    (n_NoSaying : PySem.W.kitOne K (.type "NoneType") (.ref a_NoSaying) = some false)
    (n_NoRise : PySem.W.kitOne K (.type "NoneType") (.ref a_NoRise) = some false)
    (n_TooMany : PySem.W.kitOne K (.type "NoneType") (.ref a_TooMany) = some false)
    (n_NoText : PySem.W.kitOne K (.type "NoneType") (.ref a_NoText) = some false)
    (n_NoRow : PySem.W.kitOne K (.type "NoneType") (.ref a_NoRow) = some false)
    (n_NoWord : PySem.W.kitOne K (.type "NoneType") (.ref a_NoWord) = some false)
    (n_NoTalk : PySem.W.kitOne K (.type "NoneType") (.ref a_NoTalk) = some false)
    (n_ValueError : PySem.W.kitOne K (.type "NoneType") (.type "ValueError") = some false)
    (z_ValueError : PySem.W.nsIn K mainGlobals "ValueError" = some none)
    (z_abs : PySem.W.nsIn K mainGlobals "abs" = some none)
    (z_all : PySem.W.nsIn K mainGlobals "all" = some none)
    (z_any : PySem.W.nsIn K mainGlobals "any" = some none)
    (z_int : PySem.W.nsIn K mainGlobals "int" = some none)
    (z_isinstance : PySem.W.nsIn K mainGlobals "isinstance" = some none)
    (z_len : PySem.W.nsIn K mainGlobals "len" = some none)
    (z_list : PySem.W.nsIn K mainGlobals "list" = some none)
    (z_range : PySem.W.nsIn K mainGlobals "range" = some none)
    (z_set : PySem.W.nsIn K mainGlobals "set" = some none)
    (z_sorted : PySem.W.nsIn K mainGlobals "sorted" = some none)
    (z_tuple : PySem.W.nsIn K mainGlobals "tuple" = some none) : ∃ t,t.wo = w∧Txt K mg t:=by
  have F_went_on:=fun_mk (st:=s_went_on) l_went_on c_went_on e_went_on
  have F_ends_of:=fun_mk (st:=s_ends_of) l_ends_of c_ends_of e_ends_of
  have F_has_pairs:=fun_mk (st:=s_has_pairs) l_has_pairs c_has_pairs e_has_pairs
  have F_kept_upward:=fun_mk (st:=s_kept_upward) l_kept_upward c_kept_upward e_kept_upward
  have F_cut:=fun_mk (st:=s_cut) l_cut c_cut e_cut
  have F_upward:=fun_mk (st:=s_upward) l_upward c_upward e_upward
  have F_pairs_in:=fun_mk (st:=s_pairs_in) l_pairs_in c_pairs_in e_pairs_in
  have F_spoken:=fun_mk (st:=s_spoken) l_spoken c_spoken e_spoken
  have F_parts_pair:=fun_mk (st:=s_parts_pair) l_parts_pair c_parts_pair e_parts_pair
  have F_fault:=fun_mk (st:=s_fault) l_fault c_fault e_fault
  have F_lets_by:=fun_mk (st:=s_lets_by) l_lets_by c_lets_by e_lets_by
  have F_saying_of:=fun_mk (st:=s_saying_of) l_saying_of c_saying_of e_saying_of
  have F_l_started:=fun_mk (st:=s_l_started) l_l_started c_l_started e_l_started
  have F_l_pull:=fun_mk (st:=s_l_pull) l_l_pull c_l_pull e_l_pull
  have F_l_list:=fun_mk (st:=s_l_list) l_l_list c_l_list e_l_list
  have F_l_two_sorts:=fun_mk (st:=s_l_two_sorts) l_l_two_sorts c_l_two_sorts e_l_two_sorts
  have F_l_parts_all:=fun_mk (st:=s_l_parts_all) l_l_parts_all c_l_parts_all e_l_parts_all
  have F_l_by_places:=fun_mk (st:=s_l_by_places) l_l_by_places c_l_by_places e_l_by_places
  have F_l_bent:=fun_mk (st:=s_l_bent) l_l_bent c_l_bent e_l_bent
  have F_l_ended:=fun_mk (st:=s_l_ended) l_l_ended c_l_ended e_l_ended
  have F_l_good:=fun_mk (st:=s_l_good) l_l_good c_l_good e_l_good
  have F_l_one_at:=fun_mk (st:=s_l_one_at) l_l_one_at c_l_one_at e_l_one_at
  have F_l_told:=fun_mk (st:=s_l_told) l_l_told c_l_told e_l_told
  have F_l_right:=fun_mk (st:=s_l_right) l_l_right c_l_right e_l_right
  have F_law:=fun_mk (st:=s_law) l_law c_law e_law
  exact ⟨⟨a_went_on,_,a_ends_of,_,a_has_pairs,_,a_kept_upward,_,a_cut,_,a_upward,_,a_pairs_in,_,a_spoken,_,a_parts_pair,_,a_fault,_,a_lets_by,_,a_saying_of,_,a_l_started,_,a_l_pull,_,a_l_list,_,a_l_two_sorts,_,a_l_parts_all,_,a_l_by_places,_,a_l_bent,_,a_l_ended,_,a_l_good,_,a_l_one_at,_,a_l_told,_,a_l_right,_,a_law,_,w,a_JOIN_OF_HAND,a_TalkError,a_NoCase,a_NoSaying,a_NoTalk,a_NoRise,a_TooMany,a_NoRow,a_NoWord,a_NoText⟩,rfl,⟨PySem.W.mg_of X G g_went_on,F_went_on,e_went_on,F_went_on.binds3 (p0:="turn") (p1:="yes") (p2:="no") fun _ _ _ _ _ _ _ _ _=>rfl,
    PySem.W.mg_of X G g_ends_of,F_ends_of,e_ends_of,F_ends_of.binds2 (p0:="case") (p1:="talk") fun _ _ _ _ _ _ _ _=>rfl,
    PySem.W.mg_of X G g_has_pairs,F_has_pairs,e_has_pairs,F_has_pairs.binds1 (p0:="words") fun _ _ _ _ _ _ _=>rfl,
    PySem.W.mg_of X G g_kept_upward,F_kept_upward,e_kept_upward,F_kept_upward.binds2 (p0:="case") (p1:="talk") fun _ _ _ _ _ _ _ _=>rfl,
    PySem.W.mg_of X G g_cut,F_cut,e_cut,F_cut.binds2 (p0:="case") (p1:="talk") fun _ _ _ _ _ _ _ _=>rfl,
    PySem.W.mg_of X G g_upward,F_upward,e_upward,F_upward.binds2 (p0:="tree") (p1:="leaf") fun _ _ _ _ _ _ _ _=>rfl,
    PySem.W.mg_of X G g_pairs_in,F_pairs_in,e_pairs_in,F_pairs_in.binds1 (p0:="case") fun _ _ _ _ _ _ _=>rfl,
    PySem.W.mg_of X G g_spoken,F_spoken,e_spoken,F_spoken.binds3 (p0:="talk") (p1:="yes") (p2:="no") fun _ _ _ _ _ _ _ _ _=>rfl,
    PySem.W.mg_of X G g_parts_pair,F_parts_pair,e_parts_pair,F_parts_pair.binds4 (p0:="rule") (p1:="place") (p2:="yes") (p3:="no") fun _ _ _ _ _ _ _ _ _ _=>rfl,
    PySem.W.mg_of X G g_fault,F_fault,e_fault,F_fault.binds3 (p0:="case") (p1:="rule") (p2:="talk") fun _ _ _ _ _ _ _ _ _=>rfl,
    PySem.W.mg_of X G g_lets_by,F_lets_by,e_lets_by,F_lets_by.binds3 (p0:="case") (p1:="rule") (p2:="talk") fun _ _ _ _ _ _ _ _ _=>rfl,
    PySem.W.mg_of X G g_saying_of,F_saying_of,e_saying_of,F_saying_of.binds2 (p0:="case") (p1:="talk") fun _ _ _ _ _ _ _ _=>rfl,
    PySem.W.mg_of X G g_l_started,F_l_started,e_l_started,F_l_started.binds1 (p0:="_law_script") fun _ _ _ _ _ _ _=>rfl,
    PySem.W.mg_of X G g_l_pull,F_l_pull,e_l_pull,F_l_pull.binds2 (p0:="_law_start") (p1:="_law_below") fun _ _ _ _ _ _ _ _=>rfl,
    PySem.W.mg_of X G g_l_list,F_l_list,e_l_list,F_l_list.binds1 (p0:="_law_places") fun _ _ _ _ _ _ _=>rfl,
    PySem.W.mg_of X G g_l_two_sorts,F_l_two_sorts,e_l_two_sorts,F_l_two_sorts.binds2 (p0:="_law_start") (p1:="_law_places") fun _ _ _ _ _ _ _ _=>rfl,
    PySem.W.mg_of X G g_l_parts_all,F_l_parts_all,e_l_parts_all,F_l_parts_all.binds3 (p0:="_law_at") (p1:="_law_yes") (p2:="_law_no") fun _ _ _ _ _ _ _ _ _=>rfl,
    PySem.W.mg_of X G g_l_by_places,F_l_by_places,e_l_by_places,F_l_by_places.binds4 (p0:="_law_start") (p1:="_law_places") (p2:="_law_yes") (p3:="_law_no") fun _ _ _ _ _ _ _ _ _ _=>rfl,
    PySem.W.mg_of X G g_l_bent,F_l_bent,e_l_bent,F_l_bent.binds3 (p0:="_law_start") (p1:="_law_places") (p2:="_law_talk") fun _ _ _ _ _ _ _ _ _=>rfl,
    PySem.W.mg_of X G g_l_ended,F_l_ended,e_l_ended,F_l_ended.binds3 (p0:="_law_talk") (p1:="_law_yes") (p2:="_law_no") fun _ _ _ _ _ _ _ _ _=>rfl,
    PySem.W.mg_of X G g_l_good,F_l_good,e_l_good,F_l_good.binds2 (p0:="_law_case") (p1:="_law_talk") fun _ _ _ _ _ _ _ _=>rfl,
    PySem.W.mg_of X G g_l_one_at,F_l_one_at,e_l_one_at,F_l_one_at.binds2 (p0:="_law_saying") (p1:="_law_word") fun _ _ _ _ _ _ _ _=>rfl,
    PySem.W.mg_of X G g_l_told,F_l_told,e_l_told,F_l_told.binds2 (p0:="_law_case") (p1:="_law_talk") fun _ _ _ _ _ _ _ _=>rfl,
    PySem.W.mg_of X G g_l_right,F_l_right,e_l_right,F_l_right.binds2 (p0:="_law_case") (p1:="_law_talk") fun _ _ _ _ _ _ _ _=>rfl,
    PySem.W.mg_of X G g_law,F_law,e_law,F_law.binds1 (p0:="_law_script") fun _ _ _ _ _ _ _=>rfl,
    fun s v=>.of_eq rfl,
    PySem.W.mg_none_of X G z_ValueError,
    PySem.W.mg_none_of X G z_abs,
    PySem.W.mg_none_of X G z_all,
    PySem.W.mg_none_of X G z_any,
    PySem.W.mg_none_of X G z_int,
    PySem.W.mg_none_of X G z_isinstance,
    PySem.W.mg_none_of X G z_len,
    PySem.W.mg_none_of X G z_list,
    PySem.W.mg_none_of X G z_range,
    PySem.W.mg_none_of X G z_set,
    PySem.W.mg_none_of X G z_sorted,
    PySem.W.mg_none_of X G z_tuple,
    PySem.W.mg_of X G g_JOIN_OF_HAND,
    ⟨_,_,ep_JOIN_OF_HAND,l_JOIN_OF_HAND,⟨rfl,rfl,rfl⟩,rfl,(.cons ⟨rfl,⟨_,rfl⟩,⟨_,rfl⟩⟩ (.cons ⟨rfl,⟨_,rfl⟩,⟨_,rfl⟩⟩ PySem.Paired.nil))⟩,
    PySem.W.mg_of X G g_TalkError,
    PySem.W.mg_of X G g_NoCase,
    PySem.W.mg_of X G g_NoSaying,
    PySem.W.mg_of X G g_NoTalk,
    PySem.W.mg_of X G g_NoRise,
    PySem.W.mg_of X G g_TooMany,
    PySem.W.mg_of X G g_NoRow,
    PySem.W.mg_of X G g_NoWord,
    PySem.W.mg_of X G g_NoText,
    x_NoTalk,
    q_NoTalk_NoCase,
    q_NoTalk_NoSaying,
    q_NoTalk_NoRise,
    q_NoTalk_TooMany,
    q_NoTalk_NoText,
    q_NoTalk_NoRow,
    q_NoTalk_NoWord,
    q_NoTalk_NoTalk,
    q_NoTalk_ValueError,
    r_NoTalk_TalkError,
    n_NoCase,
    n_NoSaying,
    n_NoRise,
    n_TooMany,
    n_NoText,
    n_NoRow,
    n_NoWord,
    n_NoTalk,
    n_ValueError⟩⟩
def inCls (s : PySem.Stmt) (j : Nat) : PySem.Stmt:=match s with
  | .ClassDef _ _ _ b _ _ _ _ _ _ _=>b.getD j (.Pass ⟨0,0,0,0⟩)
  | _=>s
def KK : PySem.Params→PySem.W.Frag:=fun P =>
  (nat_lit 2,⟨.none,.none,.dict #[] 0,#[]⟩) ::
  (nat_lit 3,⟨.type "dict",.none,.dict #[⟨PySem.PyData.keyHash P "__name__",.str "__name__" 165,.str "law_unlikeplace_k23_talks_not_let_by" 484⟩,⟨PySem.PyData.keyHash P "__doc__",.str "__doc__" 166,.none⟩,⟨PySem.PyData.keyHash P "__package__",.str "__package__" 167,.none⟩,⟨PySem.PyData.keyHash P "__loader__",.str "__loader__" 168,.builtin "__main__.__loader__#opaque"⟩,⟨PySem.PyData.keyHash P "__spec__",.str "__spec__" 169,.none⟩,⟨PySem.PyData.keyHash P "__annotations__",.str "__annotations__" 170,.ref 6⟩,⟨PySem.PyData.keyHash P "__builtins__",.str "__builtins__" 171,.ref 4⟩,⟨PySem.PyData.keyHash P "__file__",.str "__file__" 173,.str "/claim/cut.py" 172⟩,⟨PySem.PyData.keyHash P "__cached__",.str "__cached__" 174,.none⟩,⟨PySem.PyData.keyHash P "went_on",.str "went_on" 194,.ref 19⟩,⟨PySem.PyData.keyHash P "ends_of",.str "ends_of" 210,.ref 26⟩,⟨PySem.PyData.keyHash P "has_pairs",.str "has_pairs" 217,.ref 33⟩,⟨PySem.PyData.keyHash P "kept_upward",.str "kept_upward" 232,.ref 40⟩,⟨PySem.PyData.keyHash P "cut",.str "cut" 244,.ref 47⟩,⟨PySem.PyData.keyHash P "TalkError",.str "TalkError" 264,.ref 57⟩,⟨PySem.PyData.keyHash P "NoCase",.str "NoCase" 280,.ref 70⟩,⟨PySem.PyData.keyHash P "NoSaying",.str "NoSaying" 296,.ref 82⟩,⟨PySem.PyData.keyHash P "NoTalk",.str "NoTalk" 312,.ref 94⟩,⟨PySem.PyData.keyHash P "NoRise",.str "NoRise" 328,.ref 106⟩,⟨PySem.PyData.keyHash P "TooMany",.str "TooMany" 344,.ref 118⟩,⟨PySem.PyData.keyHash P "NoRow",.str "NoRow" 360,.ref 130⟩,⟨PySem.PyData.keyHash P "NoWord",.str "NoWord" 376,.ref 142⟩,⟨PySem.PyData.keyHash P "NoText",.str "NoText" 401,.ref 161⟩,⟨PySem.PyData.keyHash P "upward",.str "upward" 414,.ref 170⟩,⟨PySem.PyData.keyHash P "pairs_in",.str "pairs_in" 422,.ref 175⟩,⟨PySem.PyData.keyHash P "spoken",.str "spoken" 437,.ref 182⟩,⟨PySem.PyData.keyHash P "parts_pair",.str "parts_pair" 447,.ref 189⟩,⟨PySem.PyData.keyHash P "fault",.str "fault" 459,.ref 196⟩,⟨PySem.PyData.keyHash P "lets_by",.str "lets_by" 468,.ref 203⟩,⟨PySem.PyData.keyHash P "JOIN_OF_HAND",.str "JOIN_OF_HAND" 477,.ref 204⟩,⟨PySem.PyData.keyHash P "saying_of",.str "saying_of" 483,.ref 209⟩,⟨PySem.PyData.keyHash P "_law_started",.str "_law_started" 492,.ref 216⟩,⟨PySem.PyData.keyHash P "_law_pull",.str "_law_pull" 504,.ref 223⟩,⟨PySem.PyData.keyHash P "_law_list",.str "_law_list" 510,.ref 228⟩,⟨PySem.PyData.keyHash P "_law_two_sorts",.str "_law_two_sorts" 522,.ref 235⟩,⟨PySem.PyData.keyHash P "_law_parts_all",.str "_law_parts_all" 528,.ref 240⟩,⟨PySem.PyData.keyHash P "_law_by_places",.str "_law_by_places" 534,.ref 245⟩,⟨PySem.PyData.keyHash P "_law_bent",.str "_law_bent" 540,.ref 250⟩,⟨PySem.PyData.keyHash P "_law_ended",.str "_law_ended" 550,.ref 257⟩,⟨PySem.PyData.keyHash P "_law_good",.str "_law_good" 561,.ref 264⟩,⟨PySem.PyData.keyHash P "_law_one_at",.str "_law_one_at" 569,.ref 271⟩,⟨PySem.PyData.keyHash P "_law_told",.str "_law_told" 580,.ref 278⟩,⟨PySem.PyData.keyHash P "_law_right",.str "_law_right" 586,.ref 283⟩,⟨PySem.PyData.keyHash P "law",.str "law" 602,.ref 290⟩] 44,#[]⟩) ::
  (nat_lit 15,⟨.type "tuple",.none,.seq #[] 0,#[]⟩) ::
  (nat_lit 18,⟨.type "code",.none,.fields #[.str "went_on" 189,.str "went_on" 190,.str "/claim/cut.py" 191,.int (2) 0,.int (3) 0,.int (0) 0,.int (0) 0,.int (3) 0,.ref 15,.bool true,.int (181) 0,.ref 16,.none,.none,.none,.ref 17,.int (192) 0,.int (2) 0,.str "/claim/cut.py" 193],#[]⟩) ::
  (nat_lit 19,⟨.type "function",.none,.func (PySem.W.fnOf "went_on" "went_on" (L2.defArgs (top 1)) (L2.defBody (top 1)) (L2.defScope (top 1)) (.none) (.none) (.none) (.str "unlikeplace.ends" 187) .none (.ref 18) (.none)),#[]⟩) ::
  (nat_lit 20,⟨.type "tuple",.none,.seq #[] 0,#[]⟩) ::
  (nat_lit 22,⟨.type "tuple",.none,.seq #[.str "case" 198,.str "talk" 199,.str "ends" 200,.str "waiting" 201,.str "bits" 202,.str "part" 203,.str "yes" 204,.str "no" 205,.str "at_first" 206,.str "at_second" 207] 0,#[]⟩) ::
  (nat_lit 23,⟨.type "tuple",.none,.seq #[] 0,#[]⟩) ::
  (nat_lit 25,⟨.type "code",.none,.fields #[.str "ends_of" 195,.str "ends_of" 196,.str "/claim/cut.py" 197,.int (9) 0,.int (2) 0,.int (0) 0,.int (0) 0,.int (3) 0,.ref 20,.bool true,.int (181) 0,.ref 21,.none,.ref 22,.ref 23,.ref 24,.int (208) 0,.int (9) 0,.str "/claim/cut.py" 209],#[]⟩) ::
  (nat_lit 26,⟨.type "function",.none,.func (PySem.W.fnOf "ends_of" "ends_of" (L2.defArgs (top 2)) (L2.defBody (top 2)) (L2.defScope (top 2)) (.none) (.none) (.none) (.str "unlikeplace.ends" 187) .none (.ref 25) (.none)),#[]⟩) ::
  (nat_lit 27,⟨.type "tuple",.none,.seq #[] 0,#[]⟩) ::
  (nat_lit 29,⟨.type "tuple",.none,.seq #[.str "words" 214] 0,#[]⟩) ::
  (nat_lit 30,⟨.type "tuple",.none,.seq #[] 0,#[]⟩) ::
  (nat_lit 32,⟨.type "code",.none,.fields #[.str "has_pairs" 211,.str "has_pairs" 212,.str "/claim/cut.py" 213,.int (21) 0,.int (1) 0,.int (0) 0,.int (0) 0,.int (3) 0,.ref 27,.bool true,.int (181) 0,.ref 28,.none,.ref 29,.ref 30,.ref 31,.int (215) 0,.int (21) 0,.str "/claim/cut.py" 216],#[]⟩) ::
  (nat_lit 33,⟨.type "function",.none,.func (PySem.W.fnOf "has_pairs" "has_pairs" (L2.defArgs (top 3)) (L2.defBody (top 3)) (L2.defScope (top 3)) (.none) (.none) (.none) (.str "unlikeplace.ends" 187) .none (.ref 32) (.none)),#[]⟩) ::
  (nat_lit 34,⟨.type "tuple",.none,.seq #[] 0,#[]⟩) ::
  (nat_lit 36,⟨.type "tuple",.none,.seq #[.str "case" 221,.str "talk" 222,.str "downward" 223,.str "waiting" 224,.str "part" 225,.str "yes" 226,.str "no" 227,.str "at_first" 228,.str "at_second" 229] 0,#[]⟩) ::
  (nat_lit 37,⟨.type "tuple",.none,.seq #[] 0,#[]⟩) ::
  (nat_lit 39,⟨.type "code",.none,.fields #[.str "kept_upward" 218,.str "kept_upward" 219,.str "/claim/cut.py" 220,.int (23) 0,.int (2) 0,.int (0) 0,.int (0) 0,.int (3) 0,.ref 34,.bool true,.int (181) 0,.ref 35,.none,.ref 36,.ref 37,.ref 38,.int (230) 0,.int (23) 0,.str "/claim/cut.py" 231],#[]⟩) ::
  (nat_lit 40,⟨.type "function",.none,.func (PySem.W.fnOf "kept_upward" "kept_upward" (L2.defArgs (top 4)) (L2.defBody (top 4)) (L2.defScope (top 4)) (.none) (.none) (.none) (.str "unlikeplace.ends" 187) .none (.ref 39) (.none)),#[]⟩) ::
  (nat_lit 41,⟨.type "tuple",.none,.seq #[] 0,#[]⟩) ::
  (nat_lit 43,⟨.type "tuple",.none,.seq #[.str "case" 236,.str "talk" 237,.str "done" 238,.str "part" 239,.str "second" 240,.str "first" 241] 0,#[]⟩) ::
  (nat_lit 44,⟨.type "tuple",.none,.seq #[] 0,#[]⟩) ::
  (nat_lit 46,⟨.type "code",.none,.fields #[.str "cut" 233,.str "cut" 234,.str "/claim/cut.py" 235,.int (41) 0,.int (2) 0,.int (0) 0,.int (0) 0,.int (3) 0,.ref 41,.bool true,.int (181) 0,.ref 42,.none,.ref 43,.ref 44,.ref 45,.int (242) 0,.int (41) 0,.str "/claim/cut.py" 243],#[]⟩) ::
  (nat_lit 47,⟨.type "function",.none,.func (PySem.W.fnOf "cut" "cut" (L2.defArgs (top 5)) (L2.defBody (top 5)) (L2.defScope (top 5)) (.none) (.none) (.none) (.str "unlikeplace.ends" 187) .none (.ref 46) (.none)),#[]⟩) ::
  (nat_lit 48,⟨.type "tuple",.none,.seq #[.type "ValueError"] 0,#[]⟩) ::
  (nat_lit 55,⟨.type "tuple",.none,.seq #[] 0,#[]⟩) ::
  (nat_lit 56,⟨.type "dict",.none,.dict #[⟨PySem.PyData.keyHash P "__module__",.str "__module__" 254,.str "unlikeplace.errors" 245⟩,⟨PySem.PyData.keyHash P "__firstlineno__",.str "__firstlineno__" 258,.int (52) 257⟩,⟨PySem.PyData.keyHash P "__static_attributes__",.str "__static_attributes__" 259,.ref 55⟩,⟨PySem.PyData.keyHash P "__weakref__",.str "__weakref__" 261,.ref 58⟩,⟨PySem.PyData.keyHash P "__doc__",.str "__doc__" 262,.none⟩] 3,#[]⟩) ::
  (nat_lit 57,⟨.type "type",.none,.cls ⟨"TalkError",[.type "ValueError"],[.ref 57,.type "ValueError",.type "Exception",.type "BaseException",.type "object"],56,"TalkError",true,[],[.ref 70,.ref 82,.ref 94,.ref 106,.ref 118,.ref 130,.ref 142,.ref 161],false,.none,false⟩,#[(.some (.ref 48)),.none,(.some (.str "TalkError" 247)),(.some (.str "TalkError" 255)),(.some (.builtin "ValueError.__new__")),(.some (.bool true))]⟩) ::
  (nat_lit 58,⟨.type "getset_descriptor",.none,.fields #[.str "__weakref__" 260,.ref 57,.builtin "ExceptionGroup.__weakref__",.none],#[]⟩) ::
  (nat_lit 61,⟨.type "tuple",.none,.seq #[.ref 57] 0,#[]⟩) ::
  (nat_lit 68,⟨.type "tuple",.none,.seq #[] 0,#[]⟩) ::
  (nat_lit 69,⟨.type "dict",.none,.dict #[⟨PySem.PyData.keyHash P "__module__",.str "__module__" 272,.str "unlikeplace.errors" 245⟩,⟨PySem.PyData.keyHash P "__firstlineno__",.str "__firstlineno__" 276,.int (54) 275⟩,⟨PySem.PyData.keyHash P "__static_attributes__",.str "__static_attributes__" 277,.ref 68⟩,⟨PySem.PyData.keyHash P "__doc__",.str "__doc__" 278,.none⟩] 2,#[]⟩) ::
  (nat_lit 70,⟨.type "type",.none,.cls ⟨"NoCase",[.ref 57],[.ref 70,.ref 57,.type "ValueError",.type "Exception",.type "BaseException",.type "object"],69,"NoCase",true,[],[],false,.none,false⟩,#[(.some (.ref 61)),.none,(.some (.str "NoCase" 265)),(.some (.str "NoCase" 273)),(.some (.builtin "ValueError.__new__")),(.some (.bool true))]⟩) ::
  (nat_lit 73,⟨.type "tuple",.none,.seq #[.ref 57] 0,#[]⟩) ::
  (nat_lit 80,⟨.type "tuple",.none,.seq #[] 0,#[]⟩) ::
  (nat_lit 81,⟨.type "dict",.none,.dict #[⟨PySem.PyData.keyHash P "__module__",.str "__module__" 288,.str "unlikeplace.errors" 245⟩,⟨PySem.PyData.keyHash P "__firstlineno__",.str "__firstlineno__" 292,.int (56) 291⟩,⟨PySem.PyData.keyHash P "__static_attributes__",.str "__static_attributes__" 293,.ref 80⟩,⟨PySem.PyData.keyHash P "__doc__",.str "__doc__" 294,.none⟩] 2,#[]⟩) ::
  (nat_lit 82,⟨.type "type",.none,.cls ⟨"NoSaying",[.ref 57],[.ref 82,.ref 57,.type "ValueError",.type "Exception",.type "BaseException",.type "object"],81,"NoSaying",true,[],[],false,.none,false⟩,#[(.some (.ref 73)),.none,(.some (.str "NoSaying" 281)),(.some (.str "NoSaying" 289)),(.some (.builtin "ValueError.__new__")),(.some (.bool true))]⟩) ::
  (nat_lit 85,⟨.type "tuple",.none,.seq #[.ref 57] 0,#[]⟩) ::
  (nat_lit 92,⟨.type "tuple",.none,.seq #[] 0,#[]⟩) ::
  (nat_lit 93,⟨.type "dict",.none,.dict #[⟨PySem.PyData.keyHash P "__module__",.str "__module__" 304,.str "unlikeplace.errors" 245⟩,⟨PySem.PyData.keyHash P "__firstlineno__",.str "__firstlineno__" 308,.int (58) 307⟩,⟨PySem.PyData.keyHash P "__static_attributes__",.str "__static_attributes__" 309,.ref 92⟩,⟨PySem.PyData.keyHash P "__doc__",.str "__doc__" 310,.none⟩] 2,#[]⟩) ::
  (nat_lit 94,⟨.type "type",.none,.cls ⟨"NoTalk",[.ref 57],[.ref 94,.ref 57,.type "ValueError",.type "Exception",.type "BaseException",.type "object"],93,"NoTalk",true,[],[],false,.none,false⟩,#[(.some (.ref 85)),.none,(.some (.str "NoTalk" 297)),(.some (.str "NoTalk" 305)),(.some (.builtin "ValueError.__new__")),(.some (.bool true))]⟩) ::
  (nat_lit 97,⟨.type "tuple",.none,.seq #[.ref 57] 0,#[]⟩) ::
  (nat_lit 104,⟨.type "tuple",.none,.seq #[] 0,#[]⟩) ::
  (nat_lit 105,⟨.type "dict",.none,.dict #[⟨PySem.PyData.keyHash P "__module__",.str "__module__" 320,.str "unlikeplace.errors" 245⟩,⟨PySem.PyData.keyHash P "__firstlineno__",.str "__firstlineno__" 324,.int (60) 323⟩,⟨PySem.PyData.keyHash P "__static_attributes__",.str "__static_attributes__" 325,.ref 104⟩,⟨PySem.PyData.keyHash P "__doc__",.str "__doc__" 326,.none⟩] 2,#[]⟩) ::
  (nat_lit 106,⟨.type "type",.none,.cls ⟨"NoRise",[.ref 57],[.ref 106,.ref 57,.type "ValueError",.type "Exception",.type "BaseException",.type "object"],105,"NoRise",true,[],[],false,.none,false⟩,#[(.some (.ref 97)),.none,(.some (.str "NoRise" 313)),(.some (.str "NoRise" 321)),(.some (.builtin "ValueError.__new__")),(.some (.bool true))]⟩) ::
  (nat_lit 109,⟨.type "tuple",.none,.seq #[.ref 57] 0,#[]⟩) ::
  (nat_lit 116,⟨.type "tuple",.none,.seq #[] 0,#[]⟩) ::
  (nat_lit 117,⟨.type "dict",.none,.dict #[⟨PySem.PyData.keyHash P "__module__",.str "__module__" 336,.str "unlikeplace.errors" 245⟩,⟨PySem.PyData.keyHash P "__firstlineno__",.str "__firstlineno__" 340,.int (62) 339⟩,⟨PySem.PyData.keyHash P "__static_attributes__",.str "__static_attributes__" 341,.ref 116⟩,⟨PySem.PyData.keyHash P "__doc__",.str "__doc__" 342,.none⟩] 2,#[]⟩) ::
  (nat_lit 118,⟨.type "type",.none,.cls ⟨"TooMany",[.ref 57],[.ref 118,.ref 57,.type "ValueError",.type "Exception",.type "BaseException",.type "object"],117,"TooMany",true,[],[],false,.none,false⟩,#[(.some (.ref 109)),.none,(.some (.str "TooMany" 329)),(.some (.str "TooMany" 337)),(.some (.builtin "ValueError.__new__")),(.some (.bool true))]⟩) ::
  (nat_lit 121,⟨.type "tuple",.none,.seq #[.ref 57] 0,#[]⟩) ::
  (nat_lit 128,⟨.type "tuple",.none,.seq #[] 0,#[]⟩) ::
  (nat_lit 129,⟨.type "dict",.none,.dict #[⟨PySem.PyData.keyHash P "__module__",.str "__module__" 352,.str "unlikeplace.errors" 245⟩,⟨PySem.PyData.keyHash P "__firstlineno__",.str "__firstlineno__" 356,.int (64) 355⟩,⟨PySem.PyData.keyHash P "__static_attributes__",.str "__static_attributes__" 357,.ref 128⟩,⟨PySem.PyData.keyHash P "__doc__",.str "__doc__" 358,.none⟩] 2,#[]⟩) ::
  (nat_lit 130,⟨.type "type",.none,.cls ⟨"NoRow",[.ref 57],[.ref 130,.ref 57,.type "ValueError",.type "Exception",.type "BaseException",.type "object"],129,"NoRow",true,[],[],false,.none,false⟩,#[(.some (.ref 121)),.none,(.some (.str "NoRow" 345)),(.some (.str "NoRow" 353)),(.some (.builtin "ValueError.__new__")),(.some (.bool true))]⟩) ::
  (nat_lit 133,⟨.type "tuple",.none,.seq #[.ref 57] 0,#[]⟩) ::
  (nat_lit 140,⟨.type "tuple",.none,.seq #[] 0,#[]⟩) ::
  (nat_lit 141,⟨.type "dict",.none,.dict #[⟨PySem.PyData.keyHash P "__module__",.str "__module__" 368,.str "unlikeplace.errors" 245⟩,⟨PySem.PyData.keyHash P "__firstlineno__",.str "__firstlineno__" 372,.int (66) 371⟩,⟨PySem.PyData.keyHash P "__static_attributes__",.str "__static_attributes__" 373,.ref 140⟩,⟨PySem.PyData.keyHash P "__doc__",.str "__doc__" 374,.none⟩] 2,#[]⟩) ::
  (nat_lit 142,⟨.type "type",.none,.cls ⟨"NoWord",[.ref 57],[.ref 142,.ref 57,.type "ValueError",.type "Exception",.type "BaseException",.type "object"],141,"NoWord",true,[],[],false,.none,false⟩,#[(.some (.ref 133)),.none,(.some (.str "NoWord" 361)),(.some (.str "NoWord" 369)),(.some (.builtin "ValueError.__new__")),(.some (.bool true))]⟩) ::
  (nat_lit 145,⟨.type "tuple",.none,.seq #[.ref 57] 0,#[]⟩) ::
  (nat_lit 152,⟨.type "tuple",.none,.seq #[] 0,#[]⟩) ::
  (nat_lit 154,⟨.type "tuple",.none,.seq #[.str "self" 392,.str "at" 393] 0,#[]⟩) ::
  (nat_lit 155,⟨.type "tuple",.none,.seq #[] 0,#[]⟩) ::
  (nat_lit 157,⟨.type "code",.none,.fields #[.str "__init__" 389,.str "NoText.__init__" 390,.str "/claim/cut.py" 391,.int (70) 0,.int (2) 0,.int (0) 0,.int (0) 0,.int (3) 0,.ref 152,.bool true,.int (181) 0,.ref 153,.none,.ref 154,.ref 155,.ref 156,.int (394) 0,.int (70) 0,.str "/claim/cut.py" 395],#[]⟩) ::
  (nat_lit 158,⟨.type "function",.none,.func (PySem.W.fnOf "__init__" "NoText.__init__" (L2.defArgs (inCls (top 15) 0)) (L2.defBody (inCls (top 15) 0)) (L2.defScope (inCls (top 15) 0)) (.none) (.none) (.none) (.str "unlikeplace.errors" 245) .none (.ref 157) (.none)),#[]⟩) ::
  (nat_lit 159,⟨.type "tuple",.none,.seq #[.str "at" 397] 0,#[]⟩) ::
  (nat_lit 160,⟨.type "dict",.none,.dict #[⟨PySem.PyData.keyHash P "__module__",.str "__module__" 384,.str "unlikeplace.errors" 245⟩,⟨PySem.PyData.keyHash P "__firstlineno__",.str "__firstlineno__" 388,.int (68) 387⟩,⟨PySem.PyData.keyHash P "__init__",.str "__init__" 396,.ref 158⟩,⟨PySem.PyData.keyHash P "__static_attributes__",.str "__static_attributes__" 398,.ref 159⟩,⟨PySem.PyData.keyHash P "__doc__",.str "__doc__" 399,.none⟩] 2,#[]⟩) ::
  (nat_lit 161,⟨.type "type",.none,.cls ⟨"NoText",[.ref 57],[.ref 161,.ref 57,.type "ValueError",.type "Exception",.type "BaseException",.type "object"],160,"NoText",true,[],[],false,.none,false⟩,#[(.some (.ref 145)),.none,(.some (.str "NoText" 377)),(.some (.str "NoText" 385)),(.some (.builtin "ValueError.__new__")),(.some (.bool true))]⟩) ::
  (nat_lit 164,⟨.type "tuple",.none,.seq #[] 0,#[]⟩) ::
  (nat_lit 166,⟨.type "tuple",.none,.seq #[.str "tree" 407,.str "leaf" 408,.str "waiting" 409,.str "downward" 410,.str "part" 411] 0,#[]⟩) ::
  (nat_lit 167,⟨.type "tuple",.none,.seq #[] 0,#[]⟩) ::
  (nat_lit 169,⟨.type "code",.none,.fields #[.str "upward" 404,.str "upward" 405,.str "/claim/cut.py" 406,.int (73) 0,.int (2) 0,.int (0) 0,.int (0) 0,.int (3) 0,.ref 164,.bool true,.int (181) 0,.ref 165,.none,.ref 166,.ref 167,.ref 168,.int (412) 0,.int (73) 0,.str "/claim/cut.py" 413],#[]⟩) ::
  (nat_lit 170,⟨.type "function",.none,.func (PySem.W.fnOf "upward" "upward" (L2.defArgs (top 17)) (L2.defBody (top 17)) (L2.defScope (top 17)) (.none) (.none) (.none) (.str "unlikeplace.trees" 402) .none (.ref 169) (.none)),#[]⟩) ::
  (nat_lit 171,⟨.type "tuple",.none,.seq #[] 0,#[]⟩) ::
  (nat_lit 174,⟨.type "code",.none,.fields #[.str "pairs_in" 417,.str "pairs_in" 418,.str "/claim/cut.py" 419,.int (84) 0,.int (1) 0,.int (0) 0,.int (0) 0,.int (3) 0,.ref 171,.bool true,.int (181) 0,.ref 172,.none,.none,.none,.ref 173,.int (420) 0,.int (84) 0,.str "/claim/cut.py" 421],#[]⟩) ::
  (nat_lit 175,⟨.type "function",.none,.func (PySem.W.fnOf "pairs_in" "pairs_in" (L2.defArgs (top 19)) (L2.defBody (top 19)) (L2.defScope (top 19)) (.none) (.none) (.none) (.str "unlikeplace.cases" 415) .none (.ref 174) (.none)),#[]⟩) ::
  (nat_lit 176,⟨.type "tuple",.none,.seq #[] 0,#[]⟩) ::
  (nat_lit 178,⟨.type "tuple",.none,.seq #[.str "talk" 428,.str "yes" 429,.str "no" 430,.str "bits" 431,.str "part" 432,.str "own" 433,.str "bit" 434] 0,#[]⟩) ::
  (nat_lit 179,⟨.type "tuple",.none,.seq #[] 0,#[]⟩) ::
  (nat_lit 181,⟨.type "code",.none,.fields #[.str "spoken" 425,.str "spoken" 426,.str "/claim/cut.py" 427,.int (87) 0,.int (3) 0,.int (0) 0,.int (0) 0,.int (3) 0,.ref 176,.bool true,.int (181) 0,.ref 177,.none,.ref 178,.ref 179,.ref 180,.int (435) 0,.int (87) 0,.str "/claim/cut.py" 436],#[]⟩) ::
  (nat_lit 182,⟨.type "function",.none,.func (PySem.W.fnOf "spoken" "spoken" (L2.defArgs (top 21)) (L2.defBody (top 21)) (L2.defScope (top 21)) (.none) (.none) (.none) (.str "unlikeplace.talks" 423) .none (.ref 181) (.none)),#[]⟩) ::
  (nat_lit 183,⟨.type "tuple",.none,.seq #[] 0,#[]⟩) ::
  (nat_lit 185,⟨.type "tuple",.none,.seq #[.str "rule" 441,.str "place" 442,.str "yes" 443,.str "no" 444] 0,#[]⟩) ::
  (nat_lit 186,⟨.type "tuple",.none,.seq #[] 0,#[]⟩) ::
  (nat_lit 188,⟨.type "code",.none,.fields #[.str "parts_pair" 438,.str "parts_pair" 439,.str "/claim/cut.py" 440,.int (96) 0,.int (4) 0,.int (0) 0,.int (0) 0,.int (3) 0,.ref 183,.bool true,.int (181) 0,.ref 184,.none,.ref 185,.ref 186,.ref 187,.int (445) 0,.int (96) 0,.str "/claim/cut.py" 446],#[]⟩) ::
  (nat_lit 189,⟨.type "function",.none,.func (PySem.W.fnOf "parts_pair" "parts_pair" (L2.defArgs (top 22)) (L2.defBody (top 22)) (L2.defScope (top 22)) (.none) (.none) (.none) (.str "unlikeplace.talks" 423) .none (.ref 188) (.none)),#[]⟩) ::
  (nat_lit 190,⟨.type "tuple",.none,.seq #[] 0,#[]⟩) ::
  (nat_lit 192,⟨.type "tuple",.none,.seq #[.str "case" 451,.str "rule" 452,.str "talk" 453,.str "yes" 454,.str "no" 455,.str "place" 456] 0,#[]⟩) ::
  (nat_lit 193,⟨.type "tuple",.none,.seq #[] 0,#[]⟩) ::
  (nat_lit 195,⟨.type "code",.none,.fields #[.str "fault" 448,.str "fault" 449,.str "/claim/cut.py" 450,.int (100) 0,.int (3) 0,.int (0) 0,.int (0) 0,.int (3) 0,.ref 190,.bool true,.int (181) 0,.ref 191,.none,.ref 192,.ref 193,.ref 194,.int (457) 0,.int (100) 0,.str "/claim/cut.py" 458],#[]⟩) ::
  (nat_lit 196,⟨.type "function",.none,.func (PySem.W.fnOf "fault" "fault" (L2.defArgs (top 23)) (L2.defBody (top 23)) (L2.defScope (top 23)) (.none) (.none) (.none) (.str "unlikeplace.talks" 423) .none (.ref 195) (.none)),#[]⟩) ::
  (nat_lit 197,⟨.type "tuple",.none,.seq #[] 0,#[]⟩) ::
  (nat_lit 199,⟨.type "tuple",.none,.seq #[.str "case" 463,.str "rule" 464,.str "talk" 465] 0,#[]⟩) ::
  (nat_lit 200,⟨.type "tuple",.none,.seq #[] 0,#[]⟩) ::
  (nat_lit 202,⟨.type "code",.none,.fields #[.str "lets_by" 460,.str "lets_by" 461,.str "/claim/cut.py" 462,.int (106) 0,.int (3) 0,.int (0) 0,.int (0) 0,.int (3) 0,.ref 197,.bool true,.int (181) 0,.ref 198,.none,.ref 199,.ref 200,.ref 201,.int (466) 0,.int (106) 0,.str "/claim/cut.py" 467],#[]⟩) ::
  (nat_lit 203,⟨.type "function",.none,.func (PySem.W.fnOf "lets_by" "lets_by" (L2.defArgs (top 24)) (L2.defBody (top 24)) (L2.defScope (top 24)) (.none) (.none) (.none) (.str "unlikeplace.talks" 423) .none (.ref 202) (.none)),#[]⟩) ::
  (nat_lit 204,⟨.type "dict",.none,.dict #[⟨PySem.PyData.keyHash P "yes",.str "yes" 471,.str "or" 472⟩,⟨PySem.PyData.keyHash P "no",.str "no" 473,.str "and" 474⟩] 2,#[]⟩) ::
  (nat_lit 205,⟨.type "tuple",.none,.seq #[] 0,#[]⟩) ::
  (nat_lit 208,⟨.type "code",.none,.fields #[.str "saying_of" 478,.str "saying_of" 479,.str "/claim/cut.py" 480,.int (110) 0,.int (2) 0,.int (0) 0,.int (0) 0,.int (3) 0,.ref 205,.bool true,.int (181) 0,.ref 206,.none,.none,.none,.ref 207,.int (481) 0,.int (110) 0,.str "/claim/cut.py" 482],#[]⟩) ::
  (nat_lit 209,⟨.type "function",.none,.func (PySem.W.fnOf "saying_of" "saying_of" (L2.defArgs (top 27)) (L2.defBody (top 27)) (L2.defScope (top 27)) (.none) (.none) (.none) (.str "unlikeplace.leads" 469) .none (.ref 208) (.none)),#[]⟩) ::
  (nat_lit 210,⟨.type "tuple",.none,.seq #[] 0,#[]⟩) ::
  (nat_lit 212,⟨.type "tuple",.none,.seq #[.str "_law_script" 489] 0,#[]⟩) ::
  (nat_lit 213,⟨.type "tuple",.none,.seq #[] 0,#[]⟩) ::
  (nat_lit 215,⟨.type "code",.none,.fields #[.str "_law_started" 486,.str "_law_started" 487,.str "/claim/cut.py" 488,.int (126) 0,.int (1) 0,.int (0) 0,.int (0) 0,.int (3) 0,.ref 210,.bool true,.int (181) 0,.ref 211,.none,.ref 212,.ref 213,.ref 214,.int (490) 0,.int (126) 0,.str "/claim/cut.py" 491],#[]⟩) ::
  (nat_lit 216,⟨.type "function",.none,.func (PySem.W.fnOf "_law_started" "_law_started" (L2.defArgs (top 29)) (L2.defBody (top 29)) (L2.defScope (top 29)) (.none) (.none) (.none) (.str "law_unlikeplace_k23_talks_not_let_by" 484) .none (.ref 215) (.none)),#[]⟩) ::
  (nat_lit 217,⟨.type "tuple",.none,.seq #[] 0,#[]⟩) ::
  (nat_lit 219,⟨.type "tuple",.none,.seq #[.str "_law_start" 496,.str "_law_below" 497,.str "_law_pulled" 498,.str "_law_spot" 499,.str "_law_script" 500,.str "_law_number" 501] 0,#[]⟩) ::
  (nat_lit 220,⟨.type "tuple",.none,.seq #[] 0,#[]⟩) ::
  (nat_lit 222,⟨.type "code",.none,.fields #[.str "_law_pull" 493,.str "_law_pull" 494,.str "/claim/cut.py" 495,.int (128) 0,.int (2) 0,.int (0) 0,.int (0) 0,.int (3) 0,.ref 217,.bool true,.int (181) 0,.ref 218,.none,.ref 219,.ref 220,.ref 221,.int (502) 0,.int (128) 0,.str "/claim/cut.py" 503],#[]⟩) ::
  (nat_lit 223,⟨.type "function",.none,.func (PySem.W.fnOf "_law_pull" "_law_pull" (L2.defArgs (top 30)) (L2.defBody (top 30)) (L2.defScope (top 30)) (.none) (.none) (.none) (.str "law_unlikeplace_k23_talks_not_let_by" 484) .none (.ref 222) (.none)),#[]⟩) ::
  (nat_lit 224,⟨.type "tuple",.none,.seq #[] 0,#[]⟩) ::
  (nat_lit 227,⟨.type "code",.none,.fields #[.str "_law_list" 505,.str "_law_list" 506,.str "/claim/cut.py" 507,.int (146) 0,.int (1) 0,.int (0) 0,.int (0) 0,.int (3) 0,.ref 224,.bool true,.int (181) 0,.ref 225,.none,.none,.none,.ref 226,.int (508) 0,.int (146) 0,.str "/claim/cut.py" 509],#[]⟩) ::
  (nat_lit 228,⟨.type "function",.none,.func (PySem.W.fnOf "_law_list" "_law_list" (L2.defArgs (top 31)) (L2.defBody (top 31)) (L2.defScope (top 31)) (.none) (.none) (.none) (.str "law_unlikeplace_k23_talks_not_let_by" 484) .none (.ref 227) (.none)),#[]⟩) ::
  (nat_lit 229,⟨.type "tuple",.none,.seq #[] 0,#[]⟩) ::
  (nat_lit 231,⟨.type "tuple",.none,.seq #[.str "_law_start" 514,.str "_law_places" 515,.str "_law_left" 516,.str "_law_sorts" 517,.str "_law_word" 518,.str "_law_k" 519] 0,#[]⟩) ::
  (nat_lit 232,⟨.type "tuple",.none,.seq #[] 0,#[]⟩) ::
  (nat_lit 234,⟨.type "code",.none,.fields #[.str "_law_two_sorts" 511,.str "_law_two_sorts" 512,.str "/claim/cut.py" 513,.int (151) 0,.int (2) 0,.int (0) 0,.int (0) 0,.int (3) 0,.ref 229,.bool true,.int (181) 0,.ref 230,.none,.ref 231,.ref 232,.ref 233,.int (520) 0,.int (151) 0,.str "/claim/cut.py" 521],#[]⟩) ::
  (nat_lit 235,⟨.type "function",.none,.func (PySem.W.fnOf "_law_two_sorts" "_law_two_sorts" (L2.defArgs (top 32)) (L2.defBody (top 32)) (L2.defScope (top 32)) (.none) (.none) (.none) (.str "law_unlikeplace_k23_talks_not_let_by" 484) .none (.ref 234) (.none)),#[]⟩) ::
  (nat_lit 236,⟨.type "tuple",.none,.seq #[] 0,#[]⟩) ::
  (nat_lit 239,⟨.type "code",.none,.fields #[.str "_law_parts_all" 523,.str "_law_parts_all" 524,.str "/claim/cut.py" 525,.int (162) 0,.int (3) 0,.int (0) 0,.int (0) 0,.int (3) 0,.ref 236,.bool true,.int (181) 0,.ref 237,.none,.none,.none,.ref 238,.int (526) 0,.int (162) 0,.str "/claim/cut.py" 527],#[]⟩) ::
  (nat_lit 240,⟨.type "function",.none,.func (PySem.W.fnOf "_law_parts_all" "_law_parts_all" (L2.defArgs (top 33)) (L2.defBody (top 33)) (L2.defScope (top 33)) (.none) (.none) (.none) (.str "law_unlikeplace_k23_talks_not_let_by" 484) .none (.ref 239) (.none)),#[]⟩) ::
  (nat_lit 241,⟨.type "tuple",.none,.seq #[] 0,#[]⟩) ::
  (nat_lit 244,⟨.type "code",.none,.fields #[.str "_law_by_places" 529,.str "_law_by_places" 530,.str "/claim/cut.py" 531,.int (165) 0,.int (4) 0,.int (0) 0,.int (0) 0,.int (3) 0,.ref 241,.bool true,.int (181) 0,.ref 242,.none,.none,.none,.ref 243,.int (532) 0,.int (165) 0,.str "/claim/cut.py" 533],#[]⟩) ::
  (nat_lit 245,⟨.type "function",.none,.func (PySem.W.fnOf "_law_by_places" "_law_by_places" (L2.defArgs (top 34)) (L2.defBody (top 34)) (L2.defScope (top 34)) (.none) (.none) (.none) (.str "law_unlikeplace_k23_talks_not_let_by" 484) .none (.ref 244) (.none)),#[]⟩) ::
  (nat_lit 246,⟨.type "tuple",.none,.seq #[] 0,#[]⟩) ::
  (nat_lit 249,⟨.type "code",.none,.fields #[.str "_law_bent" 535,.str "_law_bent" 536,.str "/claim/cut.py" 537,.int (183) 0,.int (3) 0,.int (0) 0,.int (0) 0,.int (3) 0,.ref 246,.bool true,.int (181) 0,.ref 247,.none,.none,.none,.ref 248,.int (538) 0,.int (183) 0,.str "/claim/cut.py" 539],#[]⟩) ::
  (nat_lit 250,⟨.type "function",.none,.func (PySem.W.fnOf "_law_bent" "_law_bent" (L2.defArgs (top 35)) (L2.defBody (top 35)) (L2.defScope (top 35)) (.none) (.none) (.none) (.str "law_unlikeplace_k23_talks_not_let_by" 484) .none (.ref 249) (.none)),#[]⟩) ::
  (nat_lit 251,⟨.type "tuple",.none,.seq #[] 0,#[]⟩) ::
  (nat_lit 253,⟨.type "tuple",.none,.seq #[.str "_law_talk" 544,.str "_law_yes" 545,.str "_law_no" 546,.str "_law_own" 547] 0,#[]⟩) ::
  (nat_lit 254,⟨.type "tuple",.none,.seq #[] 0,#[]⟩) ::
  (nat_lit 256,⟨.type "code",.none,.fields #[.str "_law_ended" 541,.str "_law_ended" 542,.str "/claim/cut.py" 543,.int (203) 0,.int (3) 0,.int (0) 0,.int (0) 0,.int (3) 0,.ref 251,.bool true,.int (181) 0,.ref 252,.none,.ref 253,.ref 254,.ref 255,.int (548) 0,.int (203) 0,.str "/claim/cut.py" 549],#[]⟩) ::
  (nat_lit 257,⟨.type "function",.none,.func (PySem.W.fnOf "_law_ended" "_law_ended" (L2.defArgs (top 36)) (L2.defBody (top 36)) (L2.defScope (top 36)) (.none) (.none) (.none) (.str "law_unlikeplace_k23_talks_not_let_by" 484) .none (.ref 256) (.none)),#[]⟩) ::
  (nat_lit 258,⟨.type "tuple",.none,.seq #[] 0,#[]⟩) ::
  (nat_lit 260,⟨.type "tuple",.none,.seq #[.str "_law_case" 554,.str "_law_talk" 555,.str "_law_one" 556,.str "_law_other" 557,.str "_law_at" 558] 0,#[]⟩) ::
  (nat_lit 261,⟨.type "tuple",.none,.seq #[] 0,#[]⟩) ::
  (nat_lit 263,⟨.type "code",.none,.fields #[.str "_law_good" 551,.str "_law_good" 552,.str "/claim/cut.py" 553,.int (208) 0,.int (2) 0,.int (0) 0,.int (0) 0,.int (3) 0,.ref 258,.bool true,.int (181) 0,.ref 259,.none,.ref 260,.ref 261,.ref 262,.int (559) 0,.int (208) 0,.str "/claim/cut.py" 560],#[]⟩) ::
  (nat_lit 264,⟨.type "function",.none,.func (PySem.W.fnOf "_law_good" "_law_good" (L2.defArgs (top 37)) (L2.defBody (top 37)) (L2.defScope (top 37)) (.none) (.none) (.none) (.str "law_unlikeplace_k23_talks_not_let_by" 484) .none (.ref 263) (.none)),#[]⟩) ::
  (nat_lit 265,⟨.type "tuple",.none,.seq #[] 0,#[]⟩) ::
  (nat_lit 267,⟨.type "tuple",.none,.seq #[.str "_law_saying" 565,.str "_law_word" 566] 0,#[]⟩) ::
  (nat_lit 268,⟨.type "tuple",.none,.seq #[] 0,#[]⟩) ::
  (nat_lit 270,⟨.type "code",.none,.fields #[.str "_law_one_at" 562,.str "_law_one_at" 563,.str "/claim/cut.py" 564,.int (215) 0,.int (2) 0,.int (0) 0,.int (0) 0,.int (3) 0,.ref 265,.bool true,.int (181) 0,.ref 266,.none,.ref 267,.ref 268,.ref 269,.int (567) 0,.int (215) 0,.str "/claim/cut.py" 568],#[]⟩) ::
  (nat_lit 271,⟨.type "function",.none,.func (PySem.W.fnOf "_law_one_at" "_law_one_at" (L2.defArgs (top 38)) (L2.defBody (top 38)) (L2.defScope (top 38)) (.none) (.none) (.none) (.str "law_unlikeplace_k23_talks_not_let_by" 484) .none (.ref 270) (.none)),#[]⟩) ::
  (nat_lit 272,⟨.type "tuple",.none,.seq #[] 0,#[]⟩) ::
  (nat_lit 274,⟨.type "tuple",.none,.seq #[.str "_law_case" 573,.str "_law_talk" 574,.str "_law_caught" 575,.str "_law_found" 576,.str "e" 577] 0,#[]⟩) ::
  (nat_lit 275,⟨.type "tuple",.none,.seq #[] 0,#[]⟩) ::
  (nat_lit 277,⟨.type "code",.none,.fields #[.str "_law_told" 570,.str "_law_told" 571,.str "/claim/cut.py" 572,.int (221) 0,.int (2) 0,.int (0) 0,.int (0) 0,.int (3) 0,.ref 272,.bool true,.int (181) 0,.ref 273,.none,.ref 274,.ref 275,.ref 276,.int (578) 0,.int (221) 0,.str "/claim/cut.py" 579],#[]⟩) ::
  (nat_lit 278,⟨.type "function",.none,.func (PySem.W.fnOf "_law_told" "_law_told" (L2.defArgs (top 39)) (L2.defBody (top 39)) (L2.defScope (top 39)) (.none) (.none) (.none) (.str "law_unlikeplace_k23_talks_not_let_by" 484) .none (.ref 277) (.none)),#[]⟩) ::
  (nat_lit 279,⟨.type "tuple",.none,.seq #[] 0,#[]⟩) ::
  (nat_lit 282,⟨.type "code",.none,.fields #[.str "_law_right" 581,.str "_law_right" 582,.str "/claim/cut.py" 583,.int (233) 0,.int (2) 0,.int (0) 0,.int (0) 0,.int (3) 0,.ref 279,.bool true,.int (181) 0,.ref 280,.none,.none,.none,.ref 281,.int (584) 0,.int (233) 0,.str "/claim/cut.py" 585],#[]⟩) ::
  (nat_lit 283,⟨.type "function",.none,.func (PySem.W.fnOf "_law_right" "_law_right" (L2.defArgs (top 40)) (L2.defBody (top 40)) (L2.defScope (top 40)) (.none) (.none) (.none) (.str "law_unlikeplace_k23_talks_not_let_by" 484) .none (.ref 282) (.none)),#[]⟩) ::
  (nat_lit 284,⟨.type "tuple",.none,.seq #[] 0,#[]⟩) ::
  (nat_lit 286,⟨.type "tuple",.none,.seq #[.str "_law_script" 590,.str "_law_start" 591,.str "_law_places" 592,.str "_law_yes" 593,.str "_law_no" 594,.str "_law_case" 595,.str "_law_talk" 596,.str "_law_k" 597,.str "_law_bent_here" 598,.str "_law_at" 599] 0,#[]⟩) ::
  (nat_lit 287,⟨.type "tuple",.none,.seq #[] 0,#[]⟩) ::
  (nat_lit 289,⟨.type "code",.none,.fields #[.str "law" 587,.str "law" 588,.str "/claim/cut.py" 589,.int (242) 0,.int (1) 0,.int (0) 0,.int (0) 0,.int (3) 0,.ref 284,.bool true,.int (181) 0,.ref 285,.none,.ref 286,.ref 287,.ref 288,.int (600) 0,.int (242) 0,.str "/claim/cut.py" 601],#[]⟩) ::
  (nat_lit 290,⟨.type "function",.none,.func (PySem.W.fnOf "law" "law" (L2.defArgs (top 41)) (L2.defBody (top 41)) (L2.defScope (top 41)) (.none) (.none) (.none) (.str "law_unlikeplace_k23_talks_not_let_by" 484) .none (.ref 289) (.none)),#[]⟩) :: []
end My
def PySem.W.Fast.tw6894247980046229166 : PySem.Params→PySem.W.Frag:=My.KK
theorem PySem.W.Fast.te6894247980046229166 : My.KK = PySem.W.Fast.tw6894247980046229166:=rfl
def PySem.W.Fast.tw8751380806630051173 : PySem.Program:=PySem.Challenge.pw_unlikeplace_k23_talks_not_let_by
theorem PySem.W.Fast.te8751380806630051173 : PySem.Challenge.pw_unlikeplace_k23_talks_not_let_by = PySem.W.Fast.tw8751380806630051173:=rfl
namespace PySem.W.Fast
theorem te3124837147863995520 : True:=⟨⟩
def My.sts_172 : List PySem.Stmt:=[My.top 13]
def tw8803149779293008160 : List PySem.Stmt:=My.sts_172
theorem te8803149779293008160 : My.sts_172 = tw8803149779293008160:=rfl
theorem te7035374386613513664 : True:=⟨⟩
theorem te7276858422344324704 : True:=⟨⟩
theorem te14110835806703265376 : True:=⟨⟩
theorem te692638606746268256 : True:=⟨⟩
theorem te7563031413252232832 : True:=⟨⟩
theorem te13622053063184489216 : True:=⟨⟩
theorem te13797581599633514240 : True:=⟨⟩
theorem te2495978704127694688 : True:=⟨⟩
theorem te8747558729128636384 : True:=⟨⟩
theorem te6821260977878497409 : True:=⟨⟩
theorem te2292097227261811937 : True:=⟨⟩
theorem te6417970850625465601 : True:=⟨⟩
theorem te9490375509298137377 : True:=⟨⟩
theorem te10872822257607238273 : True:=⟨⟩
theorem te1252076134556113793 : True:=⟨⟩
theorem te12609523457929916353 : True:=⟨⟩
theorem te10240612458159392737 : True:=⟨⟩
theorem te16985775309741561986 : True:=⟨⟩
theorem te10239514912034012386 : True:=⟨⟩
theorem te17302928334805921058 : True:=⟨⟩
theorem te2021061239413916034 : True:=⟨⟩
def My.sts_112 : List PySem.Stmt:=[My.top 9]
def tw16099733624442752418 : List PySem.Stmt:=My.sts_112
theorem te16099733624442752418 : My.sts_112 = tw16099733624442752418:=rfl
theorem te5570004938430381570 : True:=⟨⟩
theorem te14085287022236085794 : True:=⟨⟩
theorem te8897030736785119970 : True:=⟨⟩
def My.view_39 : PySem.Program:={ PySem.Challenge.pw_unlikeplace_k23_talks_not_let_by with main:={ PySem.Challenge.pw_unlikeplace_k23_talks_not_let_by.main with body:=[My.top 1,My.top 2,My.top 3,My.top 4,My.top 5,My.top 7,My.top 8,My.top 9,My.top 10,My.top 11,My.top 12,My.top 13,My.top 14,My.top 15,My.top 17,My.top 19,My.top 21,My.top 22,My.top 23,My.top 24,My.top 26,My.top 27,My.top 29,My.top 30,My.top 31,My.top 32,My.top 33,My.top 34,My.top 35,My.top 36,My.top 37,My.top 38,My.top 39,My.top 40,My.top 41] } }
def tw185844400119004898 : PySem.Program:=My.view_39
theorem te185844400119004898 : My.view_39 = tw185844400119004898:=rfl
theorem te3768179096081399843 : True:=⟨⟩
theorem te11371636174687120451 : True:=⟨⟩
theorem te1106808823474618531 : True:=⟨⟩
theorem te6755205894153128099 : True:=⟨⟩
theorem te4362424650829608387 : True:=⟨⟩
theorem te2936525209232450083 : True:=⟨⟩
theorem te17265113213823002275 : True:=⟨⟩
theorem te1240313595995949731 : True:=⟨⟩
theorem te7960015236745389827 : True:=⟨⟩
theorem te2329941914184211235 : True:=⟨⟩
theorem te12849875816948350851 : True:=⟨⟩
theorem te8942265349750399875 : True:=⟨⟩
theorem te16104116044238812292 : True:=⟨⟩
theorem te10369008221432085732 : True:=⟨⟩
theorem te14550356946655578372 : True:=⟨⟩
def My.sts_250 : List PySem.Stmt:=[My.top 23,My.top 24,My.top 25,My.top 26,My.top 27,My.top 28,My.top 29,My.top 30,My.top 31,My.top 32,My.top 33,My.top 34,My.top 35,My.top 36]
def tw15799848723758441060 : List PySem.Stmt:=My.sts_250
theorem te15799848723758441060 : My.sts_250 = tw15799848723758441060:=rfl
theorem te3915647591334676100 : True:=⟨⟩
theorem te10096135356376161028 : True:=⟨⟩
theorem te11181848705166404356 : True:=⟨⟩
theorem te4391888022300174180 : True:=⟨⟩
theorem te6561450642097398724 : True:=⟨⟩
theorem te1884686573616572388 : True:=⟨⟩
theorem te15508652188261820581 : True:=⟨⟩
theorem te949768350203436197 : True:=⟨⟩
theorem te2582637921832277189 : True:=⟨⟩
theorem te64772856254592421 : True:=⟨⟩
theorem te7615192607716972005 : True:=⟨⟩
theorem te6773161674506318309 : True:=⟨⟩
theorem te4240373102935700005 : True:=⟨⟩
theorem te11381548476416455333 : True:=⟨⟩
theorem te1060453171072404229 : True:=⟨⟩
theorem te10826170835819190245 : True:=⟨⟩
theorem te8124859428938509350 : True:=⟨⟩
theorem te15355047063007408198 : True:=⟨⟩
def My.sts_49 : List PySem.Stmt:=[My.top 0,My.top 1,My.top 2,My.top 3,My.top 4,My.top 5,My.top 6,My.top 7]
def tw17660462686515678342 : List PySem.Stmt:=My.sts_49
theorem te17660462686515678342 : My.sts_49 = tw17660462686515678342:=rfl
theorem te392775258227020934 : True:=⟨⟩
theorem te4050180018991635718 : True:=⟨⟩
theorem te13079718847893365030 : True:=⟨⟩
theorem te1216495372605766982 : True:=⟨⟩
theorem te10755368270761062726 : True:=⟨⟩
theorem te3343108061142886726 : True:=⟨⟩
theorem te10867193271009012198 : True:=⟨⟩
theorem te3614814856126047782 : True:=⟨⟩
theorem te6031219035278362310 : True:=⟨⟩
theorem te6415862959448156870 : True:=⟨⟩
theorem te17604265468740930374 : True:=⟨⟩
theorem te11342014974456702950 : True:=⟨⟩
theorem te10324599052896679943 : True:=⟨⟩
theorem te16549742591971510343 : True:=⟨⟩
theorem te545783342750466183 : True:=⟨⟩
theorem te11768049944212506887 : True:=⟨⟩
theorem te9716714561432960327 : True:=⟨⟩
theorem te12492824555715152423 : True:=⟨⟩
theorem te15261021303887233607 : True:=⟨⟩
theorem te14379662354732462695 : True:=⟨⟩
theorem te8328230687816756935 : True:=⟨⟩
def My.sts_142 : List PySem.Stmt:=[My.top 11]
def tw11858792582557212423 : List PySem.Stmt:=My.sts_142
theorem te11858792582557212423 : My.sts_142 = tw11858792582557212423:=rfl
theorem te4332323734540088103 : True:=⟨⟩
theorem te15612784267783713703 : True:=⟨⟩
theorem te17565869189277066248 : True:=⟨⟩
theorem te18014576502224127112 : True:=⟨⟩
theorem te2901600117483498280 : True:=⟨⟩
theorem te8407214579666251560 : True:=⟨⟩
theorem te4094005268336533480 : True:=⟨⟩
theorem te7839279672089080841 : True:=⟨⟩
theorem te14069664835459772489 : True:=⟨⟩
theorem te4400080276959506537 : True:=⟨⟩
theorem te8930482069261981833 : True:=⟨⟩
theorem te17806708729131454665 : True:=⟨⟩
theorem te10419942840163650825 : True:=⟨⟩
theorem te15134234939973541129 : True:=⟨⟩
theorem te13362228780503911977 : True:=⟨⟩
theorem te17271562549455909417 : True:=⟨⟩
theorem te10314936498823804489 : True:=⟨⟩
theorem te2815091172512292841 : True:=⟨⟩
theorem te749348648203748426 : True:=⟨⟩
theorem te9372474568982050090 : True:=⟨⟩
theorem te5057694670874944906 : True:=⟨⟩
theorem te17629050607708938794 : True:=⟨⟩
theorem te12319341060362705482 : True:=⟨⟩
theorem te6487527188188853930 : True:=⟨⟩
theorem te11889017836488984298 : True:=⟨⟩
theorem te4248025868137287434 : True:=⟨⟩
theorem te7772420520761398026 : True:=⟨⟩
theorem te1960120834560799690 : True:=⟨⟩
theorem te3133236390888833994 : True:=⟨⟩
theorem te11081751360385380523 : True:=⟨⟩
theorem te18052175171624393963 : True:=⟨⟩
theorem te7343863377554605387 : True:=⟨⟩
theorem te2301378658356695435 : True:=⟨⟩
theorem te9997407564287941163 : True:=⟨⟩
theorem te5524168275751975659 : True:=⟨⟩
theorem te1778243435708948267 : True:=⟨⟩
theorem te18166254365457746763 : True:=⟨⟩
theorem te18412215010084817867 : True:=⟨⟩
theorem te6620283563296983019 : True:=⟨⟩
theorem te12313810311196998635 : True:=⟨⟩
theorem te10815422008029812844 : True:=⟨⟩
theorem te2432690726849980524 : True:=⟨⟩
theorem te1670739072387440812 : True:=⟨⟩
theorem te5364725098031637708 : True:=⟨⟩
theorem te7891470736501306604 : True:=⟨⟩
theorem te191991436981597484 : True:=⟨⟩
theorem te11392720175564178796 : True:=⟨⟩
theorem te5222996376782536140 : True:=⟨⟩
theorem te5213167813459569132 : True:=⟨⟩
theorem te9529964166422667820 : True:=⟨⟩
theorem te2101217177451669068 : True:=⟨⟩
theorem te676439677016207980 : True:=⟨⟩
theorem te5618645957544492716 : True:=⟨⟩
theorem te16774821898782424812 : True:=⟨⟩
theorem te1459438385849596716 : True:=⟨⟩
theorem te14100225351695150924 : True:=⟨⟩
theorem te9369028702195952556 : True:=⟨⟩
theorem te5213920337958014093 : True:=⟨⟩
theorem te658975768632036589 : True:=⟨⟩
theorem te9779033412431658285 : True:=⟨⟩
theorem te4572850367026893389 : True:=⟨⟩
theorem te3049917404730973805 : True:=⟨⟩
theorem te2023060555046382285 : True:=⟨⟩
theorem te5372931286385580941 : True:=⟨⟩
theorem te16115225020231530413 : True:=⟨⟩
theorem te17563158507822232046 : True:=⟨⟩
theorem te17127654500246388270 : True:=⟨⟩
theorem te4199663169292521006 : True:=⟨⟩
theorem te10489308835801525870 : True:=⟨⟩
theorem te17844974008947971694 : True:=⟨⟩
theorem te10852288483991202446 : True:=⟨⟩
theorem te15133431706672014254 : True:=⟨⟩
theorem te12633045392520949935 : True:=⟨⟩
theorem te12211821238677173743 : True:=⟨⟩
theorem te9268513641050915407 : True:=⟨⟩
theorem te9036077867855838895 : True:=⟨⟩
theorem te10371424523983735535 : True:=⟨⟩
theorem te4926373931030377295 : True:=⟨⟩
theorem te5486549500626820144 : True:=⟨⟩
theorem te13706292393157431504 : True:=⟨⟩
theorem te17147323232633167088 : True:=⟨⟩
theorem te12869143373696623952 : True:=⟨⟩
theorem te8780200091222033776 : True:=⟨⟩
theorem te16570475681662734768 : True:=⟨⟩
theorem te13526445163032275440 : True:=⟨⟩
theorem te4752163702643008112 : True:=⟨⟩
theorem te9234237671654060656 : True:=⟨⟩
theorem te12322562682161226448 : True:=⟨⟩
theorem te12134517245238953808 : True:=⟨⟩
theorem te5847414852139726736 : True:=⟨⟩
theorem te17815964155453082512 : True:=⟨⟩
theorem te9330592374879790129 : True:=⟨⟩
theorem te15958710283852141681 : True:=⟨⟩
theorem te5433072196553973937 : True:=⟨⟩
theorem te6361822578311815377 : True:=⟨⟩
theorem te2066831218956512529 : True:=⟨⟩
theorem te1326508111875100081 : True:=⟨⟩
theorem te7329804359875475921 : True:=⟨⟩
theorem te16232214124076428785 : True:=⟨⟩
theorem te10298693738281280049 : True:=⟨⟩
theorem te3050253857683368497 : True:=⟨⟩
theorem te1377490766613659217 : True:=⟨⟩
theorem te9053886461946666641 : True:=⟨⟩
theorem te18203976726477857457 : True:=⟨⟩
theorem te4094586799759654673 : True:=⟨⟩
theorem te7168940903414308849 : True:=⟨⟩
theorem te4588569013356813330 : True:=⟨⟩
theorem te8921209697112520754 : True:=⟨⟩
theorem te2059859480270689362 : True:=⟨⟩
theorem te183381564827140274 : True:=⟨⟩
theorem te13806510269345295538 : True:=⟨⟩
theorem te6900438015602882770 : True:=⟨⟩
theorem te13223676442619875634 : True:=⟨⟩
theorem te17061852354328708402 : True:=⟨⟩
theorem te15083121751018538322 : True:=⟨⟩
theorem te1887310852692069714 : True:=⟨⟩
theorem te10001850528239991122 : True:=⟨⟩
theorem te16874333611800693138 : True:=⟨⟩
theorem te16876081170241522194 : True:=⟨⟩
theorem te13350688230338252338 : True:=⟨⟩
theorem te10954548366811575858 : True:=⟨⟩
theorem te579777898561111698 : True:=⟨⟩
theorem te15696744751575066258 : True:=⟨⟩
theorem te3552460913380814578 : True:=⟨⟩
theorem te16637724527441682258 : True:=⟨⟩
theorem te14782926334538846227 : True:=⟨⟩
theorem te7219685067821036627 : True:=⟨⟩
theorem te15751675529277311091 : True:=⟨⟩
theorem te2079749531138804851 : True:=⟨⟩
theorem te9604697012023813299 : True:=⟨⟩
theorem te16967934602776752371 : True:=⟨⟩
theorem te11991404733211104595 : True:=⟨⟩
theorem te17500568413915077043 : True:=⟨⟩
theorem te1238240142566233555 : True:=⟨⟩
theorem te15446479277280388595 : True:=⟨⟩
theorem te3147413024362321587 : True:=⟨⟩
theorem te6789029355371984659 : True:=⟨⟩
theorem te7010617981807822707 : True:=⟨⟩
theorem te4925399387494627251 : True:=⟨⟩
theorem te12307404611125561428 : True:=⟨⟩
theorem te6175851589575963860 : True:=⟨⟩
theorem te6383239058254873972 : True:=⟨⟩
theorem te4326921163774627444 : True:=⟨⟩
theorem te4690912845335278324 : True:=⟨⟩
theorem te18326372906155255732 : True:=⟨⟩
theorem te12927657885864108053 : True:=⟨⟩
theorem te7185817899098254517 : True:=⟨⟩
theorem te9192244996741710101 : True:=⟨⟩
theorem te14296999585024540949 : True:=⟨⟩
theorem te16040548264322188693 : True:=⟨⟩
theorem te3943636547114161845 : True:=⟨⟩
theorem te7702676781632611542 : True:=⟨⟩
theorem te4684103556938849494 : True:=⟨⟩
theorem te15591459281875472950 : True:=⟨⟩
theorem te3836478001855919766 : True:=⟨⟩
theorem te12116602278873745366 : True:=⟨⟩
theorem te10159002439146801399 : True:=⟨⟩
theorem te10541820145598576887 : True:=⟨⟩
theorem te10988974411140054263 : True:=⟨⟩
theorem te11535505186292030775 : True:=⟨⟩
theorem te1887269672790678135 : True:=⟨⟩
theorem te6343967778656151191 : True:=⟨⟩
theorem te1758351271651483319 : True:=⟨⟩
theorem te16815108341949014743 : True:=⟨⟩
theorem te2978460483517535991 : True:=⟨⟩
theorem te14541253136375246615 : True:=⟨⟩
theorem te16806088528851401623 : True:=⟨⟩
theorem te14291673397364242391 : True:=⟨⟩
theorem te15536023738877235256 : True:=⟨⟩
theorem te3085128924732161176 : True:=⟨⟩
theorem te16233298051500731544 : True:=⟨⟩
def My.sts_187 : List PySem.Stmt:=[My.top 14]
def tw13704803891774933176 : List PySem.Stmt:=My.sts_187
theorem te13704803891774933176 : My.sts_187 = tw13704803891774933176:=rfl
theorem te5629227372205154584 : True:=⟨⟩
theorem te942038636462180728 : True:=⟨⟩
def My.sts_127 : List PySem.Stmt:=[My.top 10]
def tw15734840709177170424 : List PySem.Stmt:=My.sts_127
theorem te15734840709177170424 : My.sts_127 = tw15734840709177170424:=rfl
theorem te13214619183659085400 : True:=⟨⟩
theorem te8528136355668255384 : True:=⟨⟩
def My.sts_157 : List PySem.Stmt:=[My.top 12]
def tw3637582069022238392 : List PySem.Stmt:=My.sts_157
theorem te3637582069022238392 : My.sts_157 = tw3637582069022238392:=rfl
theorem te18061496154699868920 : True:=⟨⟩
theorem te8758442040888664888 : True:=⟨⟩
theorem te13056999099533469688 : True:=⟨⟩
theorem te6731820470124773529 : True:=⟨⟩
theorem te4155661347390064889 : True:=⟨⟩
theorem te3759431994980167961 : True:=⟨⟩
theorem te8981201594660254137 : True:=⟨⟩
theorem te14981570219073929817 : True:=⟨⟩
def My.sts_97 : List PySem.Stmt:=[My.top 8]
def tw11701739326374432601 : List PySem.Stmt:=My.sts_97
theorem te11701739326374432601 : My.sts_97 = tw11701739326374432601:=rfl
theorem te5843268943473128474 : True:=⟨⟩
theorem te15464242376840913018 : True:=⟨⟩
theorem te16482465904983531642 : True:=⟨⟩
theorem te6025048208962318490 : True:=⟨⟩
theorem te9330687811508341978 : True:=⟨⟩
def My.sts_322 : List PySem.Stmt:=[My.top 37,My.top 38,My.top 39,My.top 40,My.top 41]
def tw2316110533387261178 : List PySem.Stmt:=My.sts_322
theorem te2316110533387261178 : My.sts_322 = tw2316110533387261178:=rfl
theorem te12064352029250036026 : True:=⟨⟩
theorem te10905615777543153402 : True:=⟨⟩
theorem te12436632407981676346 : True:=⟨⟩
theorem te498086675672427450 : True:=⟨⟩
theorem te17599699100054484954 : True:=⟨⟩
theorem te5925674698382975035 : True:=⟨⟩
theorem te7122593172979168539 : True:=⟨⟩
theorem te6348179996981528891 : True:=⟨⟩
theorem te13697693576970552667 : True:=⟨⟩
theorem te10998788231410476443 : True:=⟨⟩
theorem te4158378731606009275 : True:=⟨⟩
def My.sts_202 : List PySem.Stmt:=[My.top 15,My.top 16,My.top 17,My.top 18,My.top 19,My.top 20,My.top 21,My.top 22]
def tw5307921502931928571 : List PySem.Stmt:=My.sts_202
theorem te5307921502931928571 : My.sts_202 = tw5307921502931928571:=rfl
theorem te9870870683257133563 : True:=⟨⟩
theorem te10937480843731037883 : True:=⟨⟩
theorem te2390391652465287963 : True:=⟨⟩
theorem te2737741702384580539 : True:=⟨⟩
theorem te988060284970009595 : True:=⟨⟩
theorem te16359798525359634556 : True:=⟨⟩
theorem te1437627321154497724 : True:=⟨⟩
theorem te15961238110108561596 : True:=⟨⟩
theorem te9322743298796725468 : True:=⟨⟩
theorem te18401369665466949948 : True:=⟨⟩
theorem te7233714204209108412 : True:=⟨⟩
theorem te2619274332387354140 : True:=⟨⟩
theorem te8458257526649158524 : True:=⟨⟩
theorem te12095212106458711004 : True:=⟨⟩
theorem te12902397460870206589 : True:=⟨⟩
theorem te8844854268553871581 : True:=⟨⟩
theorem te16417661152558278237 : True:=⟨⟩
theorem te9118512104490210141 : True:=⟨⟩
theorem te4842002797720054653 : True:=⟨⟩
theorem te5106460812455627741 : True:=⟨⟩
theorem te1918152045300607582 : True:=⟨⟩
theorem te12003498246828715806 : True:=⟨⟩
theorem te15935308231518149598 : True:=⟨⟩
theorem te6333691478689406207 : True:=⟨⟩
theorem te7622820954186613023 : True:=⟨⟩
theorem te16955358067099989311 : True:=⟨⟩
theorem te3836653259109959039 : True:=⟨⟩
theorem te9244207318124521951 : True:=⟨⟩
theorem te1237341640592154463 : True:=⟨⟩
theorem te12723724991450289023 : True:=⟨⟩
theorem te6335814684468900735 : True:=⟨⟩
theorem te2482430873260354527 : True:=⟨⟩
end PySem.W.Fast
open PySem PySem.W PyProof.Rows
set_option maxRecDepth 100000 in
set_option maxHeartbeats 0 in
theorem PySem.Challenge.cw_unlikeplace_k23_talks_not_let_by_holds : PySem.Challenge.rw_unlikeplace_k23_talks_not_let_by.Holds := by
  w_on;o_law
  o_head (PySem.W.kHook My.KK [nat_lit 2,nat_lit 3,nat_lit 15,nat_lit 18,nat_lit 19,nat_lit 20,nat_lit 22,nat_lit 23,nat_lit 25,nat_lit 26,nat_lit 27,nat_lit 29,nat_lit 30,nat_lit 32,nat_lit 33,nat_lit 34,nat_lit 36,nat_lit 37,nat_lit 39,nat_lit 40,nat_lit 41,nat_lit 43,nat_lit 44,nat_lit 46,nat_lit 47,nat_lit 48,nat_lit 55,nat_lit 56,nat_lit 57,nat_lit 58,nat_lit 61,nat_lit 68,nat_lit 69,nat_lit 70,nat_lit 73,nat_lit 80,nat_lit 81,nat_lit 82,nat_lit 85,nat_lit 92,nat_lit 93,nat_lit 94,nat_lit 97,nat_lit 104,nat_lit 105,nat_lit 106,nat_lit 109,nat_lit 116,nat_lit 117,nat_lit 118,nat_lit 121,nat_lit 128,nat_lit 129,nat_lit 130,nat_lit 133,nat_lit 140,nat_lit 141,nat_lit 142,nat_lit 145,nat_lit 152,nat_lit 154,nat_lit 155,nat_lit 157,nat_lit 158,nat_lit 159,nat_lit 160,nat_lit 161,nat_lit 164,nat_lit 166,nat_lit 167,nat_lit 169,nat_lit 170,nat_lit 171,nat_lit 174,nat_lit 175,nat_lit 176,nat_lit 178,nat_lit 179,nat_lit 181,nat_lit 182,nat_lit 183,nat_lit 185,nat_lit 186,nat_lit 188,nat_lit 189,nat_lit 190,nat_lit 192,nat_lit 193,nat_lit 195,nat_lit 196,nat_lit 197,nat_lit 199,nat_lit 200,nat_lit 202,nat_lit 203,nat_lit 204,nat_lit 205,nat_lit 208,nat_lit 209,nat_lit 210,nat_lit 212,nat_lit 213,nat_lit 215,nat_lit 216,nat_lit 217,nat_lit 219,nat_lit 220,nat_lit 222,nat_lit 223,nat_lit 224,nat_lit 227,nat_lit 228,nat_lit 229,nat_lit 231,nat_lit 232,nat_lit 234,nat_lit 235,nat_lit 236,nat_lit 239,nat_lit 240,nat_lit 241,nat_lit 244,nat_lit 245,nat_lit 246,nat_lit 249,nat_lit 250,nat_lit 251,nat_lit 253,nat_lit 254,nat_lit 256,nat_lit 257,nat_lit 258,nat_lit 260,nat_lit 261,nat_lit 263,nat_lit 264,nat_lit 265,nat_lit 267,nat_lit 268,nat_lit 270,nat_lit 271,nat_lit 272,nat_lit 274,nat_lit 275,nat_lit 277,nat_lit 278,nat_lit 279,nat_lit 282,nat_lit 283,nat_lit 284,nat_lit 286,nat_lit 287,nat_lit 289,nat_lit 290] (fun _=>by kernel_rfl))
  (case hw=>w_witness2)
  k_fill
  refine L2.walk_ofT (l:=PySem.Challenge.rw_unlikeplace_k23_talks_not_let_by) (n:=63) (k:=60) (x:="_law_script") (CX:=L2.CX0) (sp:=My.sp_law) rfl (by decide) rfl ⟨rfl,by decide,by decide,rfl⟩ (fun w h Y=>by first | exact PySem.W.kIn_of Y | exact PySem.W.km_in_of Y) (fun w=>by kernel_rfl) ?F ?S ?C
  case F =>
    intro w mg fa h KX G hmg
    have T : ∃ t,t.wo = w∧My.Txt (L2.KOf KX) mg t:=by
      dsimp only [L2.KOf]
      refine' My.txt_mk w KX G ?g_went_on ?l_went_on ?c_went_on ?e_went_on ?g_ends_of ?l_ends_of ?c_ends_of ?e_ends_of ?g_has_pairs ?l_has_pairs ?c_has_pairs ?e_has_pairs ?g_kept_upward ?l_kept_upward ?c_kept_upward ?e_kept_upward ?g_cut ?l_cut ?c_cut ?e_cut ?g_upward ?l_upward ?c_upward ?e_upward ?g_pairs_in ?l_pairs_in ?c_pairs_in ?e_pairs_in ?g_spoken ?l_spoken ?c_spoken ?e_spoken ?g_parts_pair ?l_parts_pair ?c_parts_pair ?e_parts_pair ?g_fault ?l_fault ?c_fault ?e_fault ?g_lets_by ?l_lets_by ?c_lets_by ?e_lets_by ?g_saying_of ?l_saying_of ?c_saying_of ?e_saying_of ?g_l_started ?l_l_started ?c_l_started ?e_l_started ?g_l_pull ?l_l_pull ?c_l_pull ?e_l_pull ?g_l_list ?l_l_list ?c_l_list ?e_l_list ?g_l_two_sorts ?l_l_two_sorts ?c_l_two_sorts ?e_l_two_sorts ?g_l_parts_all ?l_l_parts_all ?c_l_parts_all ?e_l_parts_all ?g_l_by_places ?l_l_by_places ?c_l_by_places ?e_l_by_places ?g_l_bent ?l_l_bent ?c_l_bent ?e_l_bent ?g_l_ended ?l_l_ended ?c_l_ended ?e_l_ended ?g_l_good ?l_l_good ?c_l_good ?e_l_good ?g_l_one_at ?l_l_one_at ?c_l_one_at ?e_l_one_at ?g_l_told ?l_l_told ?c_l_told ?e_l_told ?g_l_right ?l_l_right ?c_l_right ?e_l_right ?g_law ?l_law ?c_law ?e_law ?g_JOIN_OF_HAND ?l_JOIN_OF_HAND ?g_TalkError ?g_NoCase ?g_NoSaying ?g_NoTalk ?g_NoRise ?g_TooMany ?g_NoRow ?g_NoWord ?g_NoText ?x_NoTalk ?q_NoTalk_NoCase ?q_NoTalk_NoSaying ?q_NoTalk_NoRise ?q_NoTalk_TooMany ?q_NoTalk_NoText ?q_NoTalk_NoRow ?q_NoTalk_NoWord ?q_NoTalk_NoTalk ?q_NoTalk_ValueError ?r_NoTalk_TalkError ?n_NoCase ?n_NoSaying ?n_NoRise ?n_TooMany ?n_NoText ?n_NoRow ?n_NoWord ?n_NoTalk ?n_ValueError ?z_ValueError ?z_abs ?z_all ?z_any ?z_int ?z_isinstance ?z_len ?z_list ?z_range ?z_set ?z_sorted ?z_tuple
      (case g_went_on=>k_is)
      (case l_went_on=>k_is)
      (case c_went_on=>k_is)
      (case e_went_on=>k_is)
      (case g_ends_of=>k_is)
      (case l_ends_of=>k_is)
      (case c_ends_of=>k_is)
      (case e_ends_of=>k_is)
      (case g_has_pairs=>k_is)
      (case l_has_pairs=>k_is)
      (case c_has_pairs=>k_is)
      (case e_has_pairs=>k_is)
      (case g_kept_upward=>k_is)
      (case l_kept_upward=>k_is)
      (case c_kept_upward=>k_is)
      (case e_kept_upward=>k_is)
      (case g_cut=>k_is)
      (case l_cut=>k_is)
      (case c_cut=>k_is)
      (case e_cut=>k_is)
      (case g_upward=>k_is)
      (case l_upward=>k_is)
      (case c_upward=>k_is)
      (case e_upward=>k_is)
      (case g_pairs_in=>k_is)
      (case l_pairs_in=>k_is)
      (case c_pairs_in=>k_is)
      (case e_pairs_in=>k_is)
      (case g_spoken=>k_is)
      (case l_spoken=>k_is)
      (case c_spoken=>k_is)
      (case e_spoken=>k_is)
      (case g_parts_pair=>k_is)
      (case l_parts_pair=>k_is)
      (case c_parts_pair=>k_is)
      (case e_parts_pair=>k_is)
      (case g_fault=>k_is)
      (case l_fault=>k_is)
      (case c_fault=>k_is)
      (case e_fault=>k_is)
      (case g_lets_by=>k_is)
      (case l_lets_by=>k_is)
      (case c_lets_by=>k_is)
      (case e_lets_by=>k_is)
      (case g_saying_of=>k_is)
      (case l_saying_of=>k_is)
      (case c_saying_of=>k_is)
      (case e_saying_of=>k_is)
      (case g_l_started=>k_is)
      (case l_l_started=>k_is)
      (case c_l_started=>k_is)
      (case e_l_started=>k_is)
      (case g_l_pull=>k_is)
      (case l_l_pull=>k_is)
      (case c_l_pull=>k_is)
      (case e_l_pull=>k_is)
      (case g_l_list=>k_is)
      (case l_l_list=>k_is)
      (case c_l_list=>k_is)
      (case e_l_list=>k_is)
      (case g_l_two_sorts=>k_is)
      (case l_l_two_sorts=>k_is)
      (case c_l_two_sorts=>k_is)
      (case e_l_two_sorts=>k_is)
      (case g_l_parts_all=>k_is)
      (case l_l_parts_all=>k_is)
      (case c_l_parts_all=>k_is)
      (case e_l_parts_all=>k_is)
      (case g_l_by_places=>k_is)
      (case l_l_by_places=>k_is)
      (case c_l_by_places=>k_is)
      (case e_l_by_places=>k_is)
      (case g_l_bent=>k_is)
      (case l_l_bent=>k_is)
      (case c_l_bent=>k_is)
      (case e_l_bent=>k_is)
      (case g_l_ended=>k_is)
      (case l_l_ended=>k_is)
      (case c_l_ended=>k_is)
      (case e_l_ended=>k_is)
      (case g_l_good=>k_is)
      (case l_l_good=>k_is)
      (case c_l_good=>k_is)
      (case e_l_good=>k_is)
      (case g_l_one_at=>k_is)
      (case l_l_one_at=>k_is)
      (case c_l_one_at=>k_is)
      (case e_l_one_at=>k_is)
      (case g_l_told=>k_is)
      (case l_l_told=>k_is)
      (case c_l_told=>k_is)
      (case e_l_told=>k_is)
      (case g_l_right=>k_is)
      (case l_l_right=>k_is)
      (case c_l_right=>k_is)
      (case e_l_right=>k_is)
      (case g_law=>k_is)
      (case l_law=>k_is)
      (case c_law=>k_is)
      (case e_law=>k_is)
      (case g_JOIN_OF_HAND=>k_is)
      (case l_JOIN_OF_HAND=>k_is)
      (case g_TalkError=>k_is)
      (case g_NoCase=>k_is)
      (case g_NoSaying=>k_is)
      (case g_NoTalk=>k_is)
      (case g_NoRise=>k_is)
      (case g_TooMany=>k_is)
      (case g_NoRow=>k_is)
      (case g_NoWord=>k_is)
      (case g_NoText=>k_is)
      (case x_NoTalk=>kernel_rfl)
      (case q_NoTalk_NoCase=>kernel_rfl)
      (case q_NoTalk_NoSaying=>kernel_rfl)
      (case q_NoTalk_NoRise=>kernel_rfl)
      (case q_NoTalk_TooMany=>kernel_rfl)
      (case q_NoTalk_NoText=>kernel_rfl)
      (case q_NoTalk_NoRow=>kernel_rfl)
      (case q_NoTalk_NoWord=>kernel_rfl)
      (case q_NoTalk_NoTalk=>kernel_rfl)
      (case q_NoTalk_ValueError=>kernel_rfl)
      (case r_NoTalk_TalkError=>kernel_rfl)
      (case n_NoCase=>kernel_rfl)
      (case n_NoSaying=>kernel_rfl)
      (case n_NoRise=>kernel_rfl)
      (case n_TooMany=>kernel_rfl)
      (case n_NoText=>kernel_rfl)
      (case n_NoRow=>kernel_rfl)
      (case n_NoWord=>kernel_rfl)
      (case n_NoTalk=>kernel_rfl)
      (case n_ValueError=>kernel_rfl)
      (case z_ValueError=>k_is)
      (case z_abs=>k_is)
      (case z_all=>k_is)
      (case z_any=>k_is)
      (case z_int=>k_is)
      (case z_isinstance=>k_is)
      (case z_len=>k_is)
      (case z_list=>k_is)
      (case z_range=>k_is)
      (case z_set=>k_is)
      (case z_sorted=>k_is)
      (case z_tuple=>k_is)
    obtain ⟨t,hw,T⟩:=T
    have e0:=hmg.symm.trans T.m_law
    cases e0
    exact ⟨_,T.bl_law,fun base=>My.ok_lawW hw T⟩
  case S=>exact fun K H a ns hl hO hS=>My.start_law hl hO hS
  case C=>exact fun _ _ _ _ h=>h
