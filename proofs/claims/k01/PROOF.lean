import PyProof.Rows.All
import Wide.All
import OpenK.AllK
import Wide.FinOn
import Lean
import PyProof.EqAt
import PyProof.EqKinds
import PyProof.TupleCall
import PyProof.Rows.EqDataRows
import PyProof.DictList
import PyProof.FactsAll.dict_1
import PyProof.FactsAll.subtypes_4
import KE.KTryMore
import PyProof.WalksEnum
import PyProof.EnumMake
import PyProof.ListStr
import PyProof.TupleOfStr
import PyProof.Dict
import PyProof.StrLawsIn
import PySem.Challenge.RW_inkloom_k01_texts_and_changes_told
-- CHANGE: your row's module here, as the last of these rows
set_option Elab.async false
set_option linter.all false
set_option maxRecDepth 100000
/-! THE HAND LAYER, for ints, bools, texts, own classes, LISTS and tuples (index, slices, in, append, pop ..), calls, loops. Paste it whole ahead of your own text; what your proof does not reach may be deleted. -/
namespace L2
open PySem PySem.Spec PyProof.Rows
/-- a key: an int or a str -/
abbrev Key := Sum Int Str
def keyIs : Key → Value → Bool
  | .inl k, v => Value.isInt k v
  | .inr x, v => Value.isStrOf x v
def keyH (w : World) : Key → Int
  | .inl k => hashInt k
  | .inr x => hashStr w x
theorem keyIs_shape : ∀ {k : Key} {v : Value}, keyIs k v = true → (∃ i t, k = Sum.inl i ∧ v = Value.int i t) ∨ (∃ x t, k = Sum.inr x ∧ v = Value.str x t)
  | .inl i, v, h => by
    obtain ⟨t, e⟩ := Value.isInt_shape (k := i) (v := v) h
    exact .inl ⟨i, t, rfl, e⟩
  | .inr x, v, h => by
    obtain ⟨t, e⟩ := Value.isStrOf_shape (x := x) (v := v) h
    exact .inr ⟨x, t, rfl, e⟩
theorem keyIs_int (i : Int) (t : Tok) : keyIs (.inl i) (.int i t) = true := by simp [keyIs, Value.isInt]
theorem keyIs_str (x : Str) (t : Tok) : keyIs (.inr x) (.str x t) = true := by simp [keyIs, Value.isStrOf]
theorem key_ll (a b : Int) : decide ((Sum.inl a : Key) = Sum.inl b) = (a == b) := by
  by_cases e : a = b
  · subst e; simp
  · have h : ¬ (Sum.inl a : Key) = Sum.inl b := fun q => e (Sum.inl.inj q)
    rw [decide_eq_false h]
    exact (beq_eq_false_iff_ne.mpr e).symm
theorem key_rr (a b : Str) : decide ((Sum.inr a : Key) = Sum.inr b) = decide (a = b) := by
  by_cases e : a = b
  · subst e; simp
  · have h : ¬ (Sum.inr a : Key) = Sum.inr b := fun q => e (Sum.inr.inj q)
    rw [decide_eq_false h, decide_eq_false e]
theorem key_lr (a : Int) (b : Str) : decide ((Sum.inl a : Key) = Sum.inr b) = false := decide_eq_false (fun q => nomatch q)
theorem key_rl (a : Str) (b : Int) : decide ((Sum.inr a : Key) = Sum.inl b) = false := decide_eq_false (fun q => nomatch q)
def mixKind (prog : Program) (w : World) : PySem.KeyKind prog w Key where
  is := keyIs
  hash := keyH w
  inj := fun v a b ha hb => by
    rcases keyIs_shape ha with ⟨i, t, rfl, rfl⟩ | ⟨x, t, rfl, rfl⟩
    · rcases keyIs_shape hb with ⟨j, u, rfl, e⟩ | ⟨y, u, rfl, e⟩
      · injection e with e1 _; rw [e1]
      · exact nomatch e
    · rcases keyIs_shape hb with ⟨j, u, rfl, e⟩ | ⟨y, u, rfl, e⟩
      · exact nomatch e
      · injection e with e1 _; rw [e1]
  byValue := fun k v h => by
    rcases keyIs_shape h with ⟨i, t, rfl, rfl⟩ | ⟨x, t, rfl, rfl⟩ <;> rfl
  pyHash := fun hv h => by
    rcases keyIs_shape hv with ⟨i, t, rfl, rfl⟩ | ⟨x, t, rfl, rfl⟩
    · exact wpAny_pyHash_int h
    · exact wpAny_pyHash_str h
  eqBool := fun hu hv h => by
    rcases keyIs_shape hu with ⟨i, t, rfl, rfl⟩ | ⟨x, t, rfl, rfl⟩
    · rcases keyIs_shape hv with ⟨j, u, rfl, rfl⟩ | ⟨y, u, rfl, rfl⟩
      · rw [key_ll] at h; exact wpAny_eqBool_int h
      · rw [key_lr] at h; exact SeqAt.EqAt.int_str i t y u _ _ _ _ h
    · rcases keyIs_shape hv with ⟨j, u, rfl, rfl⟩ | ⟨y, u, rfl, rfl⟩
      · rw [key_rl] at h; exact SeqAt.EqAt.str_int x t j u _ _ _ _ h
      · rw [key_rr] at h; exact wpAny_eqBool_str h
  «strs» := fun k x t v h => by
    rcases keyIs_shape h with ⟨i, u, rfl, e⟩ | ⟨y, u, rfl, e⟩
    · exact nomatch e
    · injection e with e1 _
      subst e1
      cases v <;> rfl
theorem mixKind_int (prog : Program) (w : World) (i : Int) (t : Tok) : (mixKind prog w).is (.inl i) (.int i t) = true := keyIs_int i t
theorem mixKind_str (prog : Program) (w : World) (x : Str) (t : Tok) : (mixKind prog w).is (.inr x) (.str x t) = true := keyIs_str x t
end L2
namespace L2
open PySem PySem.Spec PyProof.Rows
/-- a value, without the heap -/
inductive V where
  | non | bl (b : Bool) | int (i : Int) | str (x : Str) | byt (b : Array UInt8) | flt (b : UInt64) | ref (a : Addr) | ty (n : String)
  deriving DecidableEq
def RelV : V → Value → Prop
  | .non, u => u = Value.none
  | .bl b, u => u = Value.bool b
  | .int i, u => ∃ t, u = Value.int i t
  | .str x, u => ∃ t, u = Value.str x t
  | .byt b, u => ∃ t, u = Value.bytes b t
  | .flt b, u => ∃ t, u = Value.float b t
  | .ref a, u => u = Value.ref a
  | .ty n, u => u = Value.type n
abbrev Vals : List V → List Value → Prop := Paired RelV
theorem Vals.length {xs : List V} {us : List Value} (r : Vals xs us) : xs.length = us.length := Paired.length r
theorem Vals.get : ∀ {xs : List V} {us : List Value} {i : Nat} {x : V}, Vals xs us → xs[i]? = some x → ∃ u, us[i]? = some u ∧ RelV x u
  | _, _, _, _, .nil, e => by simp at e
  | _, _, 0, _, .cons r _, e => by simp at e; subst e; exact ⟨_, rfl, r⟩
  | _, _, i + 1, x, .cons _ t, e => by
    obtain ⟨u, h1, h2⟩ := Vals.get (i := i) (x := x) t (by simpa using e)
    exact ⟨u, by simpa using h1, h2⟩
theorem Vals.set {x : V} {u : Value} (r : RelV x u) : ∀ {xs : List V} {us : List Value} (i : Nat), Vals xs us → Vals (xs.set i x) (us.set i u)
  | _, _, _, .nil => .nil
  | _, _, 0, .cons _ t => .cons r t
  | _, _, i + 1, .cons q t => .cons q (Vals.set r i t)
theorem Vals.append : ∀ {xs ys : List V} {us ws : List Value}, Vals xs us → Vals ys ws → Vals (xs ++ ys) (us ++ ws)
  | _, _, _, _, .nil, s => s
  | _, _, _, _, .cons r t, s => .cons r (Vals.append t s)
theorem Vals.take : ∀ {xs : List V} {us : List Value} (n : Nat), Vals xs us → Vals (xs.take n) (us.take n)
  | _, _, 0, _ => .nil
  | _, _, _ + 1, .nil => .nil
  | _, _, n + 1, .cons r t => .cons r (Vals.take n t)
theorem Vals.drop : ∀ {xs : List V} {us : List Value} (n : Nat), Vals xs us → Vals (xs.drop n) (us.drop n)
  | _, _, 0, r => r
  | _, _, _ + 1, .nil => .nil
  | _, _, n + 1, .cons _ t => Vals.drop n t
def RelO : Option V → Option Value → Prop
  | some v, some u => RelV v u
  | none, none => True
  | _, _ => False
def KV {κ : Type} : List (κ × V) → List (κ × Value) → Prop := Paired fun (p : κ × V) (q : κ × Value) => p.1 = q.1 ∧ RelV p.2 q.2
/-- a key of a dict (00_mix): an int or a text -/
def kV : Key → V
  | .inl i => .int i
  | .inr x => .str x
/-- what stands at a tracked address -/
inductive HO where
  /-- a list -/
  | lst (xs : List V)
  /-- a tuple (never changes) -/
  | tup (xs : List V)
  /-- a dict whose keys are ints and texts; one whose keys are tuples of ints and texts (the empty one is both) -/
  | dK (kvs : List (Key × V)) | dT (kvs : List (List Key × V))
  /-- a set of ints: its members, its size -/
  | set (S : Int → Bool) (n : Nat)
  /-- an instance of the class at C, its dict at dx, its attributes -/
  | ins (C dx : Addr) (fs : List (Str × V))
  /-- the dict of the instance at x -/
  | own (x : Addr)
  /-- the dict of an exception -/
  | xd (fs : List (Str × V))
  /-- a bound method, f of x -/
  | met (f x : Addr)
  /-- a range object lo, lo + 1, .. below hi -/
  | rng (lo hi : Int)
  /-- a thing that is known to the object (the script; a dict while a loop walks it): read, never written while it is so -/
  | frz (o : Obj) (u : HO)
  /-- a code object's table -/
  | tbl (ps : Array Value)
  /-- any other thing, by what is true of its one object (a def of one's own: SetO a S n := HO.ext fun h => ..) -/
  | ext (φ : Heap → Prop)
abbrev Hp := Addr → Option HO
def upd (H : Hp) (a : Addr) (o : HO) : Hp := fun b => if b = a then some o else H b
theorem upd_same {H : Hp} {a : Addr} {o : HO} : upd H a o a = some o := by unfold upd; rw [if_pos rfl]
theorem upd_ne {H : Hp} {a b : Addr} {o : HO} (h : b ≠ a) : upd H a o b = H b := by unfold upd; rw [if_neg h]
/-- two objects of different content stand apart -/
theorem ne_of {H : Hp} {a b : Addr} {o u : HO} (h : H a = some o) (h' : H b = some u) (d : o ≠ u) : a ≠ b := by
  intro e; subst e; rw [h] at h'; exact d (Option.some.inj h')
theorem ne_of_none {H : Hp} {a b : Addr} {o : HO} (h : H a = some o) (h' : H b = none) : a ≠ b := by
  intro e; subst e; rw [h] at h'; cases h'
section
variable (P : Program) (w : World)
def ObjOk (H : Hp) (h : Heap) (a : Addr) : HO → Prop
  | .lst xs => xs.length ≤ sizeLine ∧ ∃ (its : List Value) (n : Nat), Vals xs its ∧ h.get? a = some { cls := .type "list", data := .seq its.toArray n }
  | .tup xs => xs.length ≤ sizeLine ∧ ∃ its : List Value, Vals xs its ∧ IsTup h a its.toArray
  | .dK kvs => kvs.length ≤ sizeLine ∧ (a == sysModules) = false ∧ ∃ vs, KV kvs vs ∧ h.DictOf (mixKind P w) a vs
  | .dT kvs => kvs.length ≤ sizeLine ∧ (a == sysModules) = false ∧ ∃ xs : List (List Key × Addr × Value),
      Paired (fun (p : List Key × V) (q : List Key × Addr × Value) => p.1 = q.1 ∧ H q.2.1 = some (.tup (p.1.map kV)) ∧ RelV p.2 q.2.2) kvs xs ∧
      ∃ o es ep, h.get? a = some o ∧ o.ExactDict ∧ o.data = .dict es ep ∧ es.toList = xs.map (entryOfKey (tupleKind (mixKind P w))) ∧ (xs.map (·.1)).Nodup
  | .set S n => h.SetOf (intKind P w) a S n
  | .ins C dx fs => H dx = some (.own a) ∧ fs.length ≤ 1000 ∧ dx ≠ a ∧ h.get? a = some (PySem.W.instObj C dx) ∧
      ∃ mA, h.Ns1 dx mA ∧ (∀ f, RelO (fs.lookup f) (mA f)) ∧ PySem.Within mA (fs.map (·.1))
  | .own _ => ∃ o, h.get? a = some o
  | .xd fs => ∃ mA, h.Ns1 a mA ∧ ∀ f, RelO (fs.lookup f) (mA f)
  | .rng lo hi => ∃ t u v, h.get? a = some { cls := .type "range", data := .fields #[.int lo t, .int hi u, .int 1 v] }
  | .frz o u => h.get? a = some o ∧ ObjOk H h a u
  | .tbl ps => h.get? a = some { cls := .none, data := .fields ps }
  | .met f x => h.get? a = some (PySem.W.methodObj (.ref f) (.ref x))
  | .ext φ => φ h ∧ (∃ o, h.get? a = some o) ∧ ∀ h1 h2 : Heap, φ h1 → (∀ o, h1.get? a = some o → h2.get? a = some o) → φ h2
/-- the abstract heap is held -/
def HOk (H : Hp) (h : Heap) : Prop := ∀ a o, H a = some o → ObjOk P w H h a o
end
section
variable {P : Program} {w : World} {H H' : Hp} {h h' : Heap} {a : Addr} {o : HO}
theorem ObjOk.lt (x : ObjOk P w H h a o) : a < h.objs.size := by
  cases o with
  | lst xs => obtain ⟨_, _, _, _, e⟩ := x; exact Heap.lt_size e
  | tup xs => obtain ⟨_, _, _, p⟩ := x; exact p.lt
  | dK kvs => obtain ⟨_, _, _, _, o, _, _, e, _⟩ := x; exact Heap.lt_size e
  | dT kvs => obtain ⟨_, _, _, _, o, _, _, e, _⟩ := x; exact Heap.lt_size e
  | set S n => obtain ⟨o, _, _, _, e, _⟩ := x; exact Heap.lt_size e
  | ins C dx fs => obtain ⟨_, _, _, e, _⟩ := x; exact Heap.lt_size e
  | own y => obtain ⟨_, e⟩ := x; exact Heap.lt_size e
  | xd fs => obtain ⟨_, ⟨_, _, _, e, _⟩, _⟩ := x; exact Heap.lt_size e
  | rng lo hi => obtain ⟨_, _, _, e⟩ := x; exact Heap.lt_size e
  | frz ob u => obtain ⟨e, _⟩ := x; exact Heap.lt_size e
  | tbl ps => exact Heap.lt_size (show h.get? a = some _ from x)
  | met f y => exact Heap.lt_size (show h.get? a = some _ from x)
  | ext φ => obtain ⟨_, ⟨_, e⟩, _⟩ := x; exact Heap.lt_size e
theorem Paired.mapP {α β : Type} {F G : α → β → Prop} : ∀ {l₁ : List α} {l₂ : List β}, Paired F l₁ l₂ → (∀ a b, F a b → G a b) → Paired G l₁ l₂
  | _, _, .nil, _ => .nil
  | _, _, .cons r t, f => .cons (f _ _ r) (Paired.mapP t f)
/-- what an object's description leans on: its own object, its own dict, the tuples -/
theorem ObjOk.stay (x : ObjOk P w H h a o) (k : ∀ b u, (b = a ∨ H b = some (.own a)) → h.get? b = some u → h'.get? b = some u)
    (ho : ∀ b, H b = some (.own a) → H' b = some (.own a)) (ht : ∀ b xs, H b = some (.tup xs) → H' b = some (.tup xs)) : ObjOk P w H' h' a o := by
  induction o with
  | lst xs => obtain ⟨z, its, n, r, e⟩ := x; exact ⟨z, its, n, r, k _ _ (.inl rfl) e⟩
  | tup xs => obtain ⟨z, its, r, ob, e, c⟩ := x; exact ⟨z, its, r, ob, k _ _ (.inl rfl) e, c⟩
  | dK kvs => obtain ⟨z, y, vs, r, ob, es, ep, e, c⟩ := x; exact ⟨z, y, vs, r, ob, es, ep, k _ _ (.inl rfl) e, c⟩
  | dT kvs =>
    obtain ⟨z, y, xs, r, ob, es, ep, e, c⟩ := x
    exact ⟨z, y, xs, Paired.mapP r fun p q z => ⟨z.1, ht _ _ z.2.1, z.2.2⟩, ob, es, ep, k _ _ (.inl rfl) e, c⟩
  | set S n => obtain ⟨ob, es, ep, t, e, c⟩ := x; exact ⟨ob, es, ep, t, k _ _ (.inl rfl) e, c⟩
  | ins C dx fs =>
    obtain ⟨d, z, ne, e, mA, ⟨od, es, ep, e2, c⟩, r⟩ := x
    exact ⟨ho _ d, z, ne, k _ _ (.inl rfl) e, mA, ⟨od, es, ep, k _ _ (.inr d) e2, c⟩, r⟩
  | own y => obtain ⟨ob, e⟩ := x; exact ⟨ob, k _ _ (.inl rfl) e⟩
  | xd fs => obtain ⟨mA, ⟨od, es, ep, e, c⟩, r⟩ := x; exact ⟨mA, ⟨od, es, ep, k _ _ (.inl rfl) e, c⟩, r⟩
  | rng lo hi => obtain ⟨t, u, v, e⟩ := x; exact ⟨t, u, v, k _ _ (.inl rfl) e⟩
  | frz ob u ih => obtain ⟨e, q⟩ := x; exact ⟨k _ _ (.inl rfl) e, ih q⟩
  | tbl ps =>
    have e : h.get? a = some { cls := .none, data := .fields ps } := x
    show h'.get? a = some { cls := .none, data := .fields ps }
    exact k a _ (.inl rfl) e
  | met f y =>
    have e : h.get? a = some (PySem.W.methodObj (.ref f) (.ref y)) := x
    show h'.get? a = some (PySem.W.methodObj (.ref f) (.ref y))
    exact k a _ (.inl rfl) e
  | ext φ => obtain ⟨p, ⟨o, e⟩, st⟩ := x; exact ⟨st _ _ p fun o q => k _ _ (.inl rfl) q, ⟨o, k _ _ (.inl rfl) e⟩, st⟩
theorem HOk.lt (x : HOk P w H h) (e : H a = some o) : a < h.objs.size := (x a o e).lt
theorem HOk.fresh (x : HOk P w H h) (e : h.objs.size ≤ a) : H a = none := by
  cases q : H a with
  | none => rfl
  | some u => exact absurd (Nat.lt_of_lt_of_le (x.lt q) e) (Nat.lt_irrefl _)
/-- every object of the heap is kept -/
theorem HOk.kept (x : HOk P w H h) (k : ∀ b u, h.get? b = some u → h'.get? b = some u) : HOk P w H h' := fun a o e =>
  (x a o e).stay (fun b u _ q => k b u q) (fun _ q => q) fun _ _ q => q
/-- a new object is laid and tracked -/
theorem HOk.laid (x : HOk P w H h) (k : ∀ b u, h.get? b = some u → h'.get? b = some u) (hp : h.objs.size ≤ a) (new : ObjOk P w (upd H a o) h' a o) : HOk P w (upd H a o) h' := fun b u e => by
  have hn := x.fresh hp
  by_cases hb : b = a
  · subst hb; rw [upd_same] at e; cases e; exact new
  · rw [upd_ne hb] at e
    exact (x b u e).stay (fun c v _ q => k c v q) (fun c q => by rw [upd_ne (ne_of_none q hn)]; exact q) fun c xs q => by rw [upd_ne (ne_of_none q hn)]; exact q
end
/-- what may be read as u: it is u, or a known u -/
def Rd (H : Hp) (a : Addr) (u : HO) : Prop := H a = some u ∨ ∃ o, H a = some (.frz o u)
theorem Rd.ok {P : Program} {w : World} {H : Hp} {h : Heap} {a : Addr} {u : HO} (r : Rd H a u) (x : HOk P w H h) : ObjOk P w H h a u := by
  rcases r with r | ⟨o, r⟩
  · exact x a u r
  · obtain ⟨_, q⟩ := x a _ r
    exact q
/-- what may be written -/
def Mut : Option HO → Prop
  | some (.lst _) => True
  | some (.dK _) => True
  | some (.dT _) => True
  | some (.set _ _) => True
  | some (.ins _ _ _) => True
  | some (.ext _) => True
  | _ => False
section
variable {P : Program} {w : World} {H : Hp} {h h' : Heap} {x e : Addr} {o' : HO}
/-- the object at e is changed: x itself, or the dict of the instance x -/
theorem HOk.write (ok : HOk P w H h) (mu : Mut (H x)) (he : e = x ∨ H e = some (.own x)) (k : ∀ b u, b ≠ e → h.get? b = some u → h'.get? b = some u) (heo : ∃ u, h'.get? e = some u)
    (new : ObjOk P w (upd H x o') h' x o') : HOk P w (upd H x o') h' := fun b u q => by
  have nown : ∀ c y, H c = some (.own y) → c ≠ x := fun c y r z => by subst z; rw [r] at mu; exact mu
  have ntup : ∀ c xs, H c = some (.tup xs) → c ≠ x := fun c xs r z => by subst z; rw [r] at mu; exact mu
  by_cases hb : b = x
  · subst hb; rw [upd_same] at q; cases q; exact new
  · rw [upd_ne hb] at q
    by_cases hbe : b = e
    · have q' : H b = some (.own x) := by
        rcases he with z | z
        · exact absurd (hbe.trans z) hb
        · rw [hbe]; exact z
      rw [q] at q'; cases q'
      obtain ⟨v, hv⟩ := heo
      exact ⟨v, by rw [hbe]; exact hv⟩
    · refine (ok b u q).stay (fun c v hc r => k c v ?_ r) (fun c r => by rw [upd_ne (nown c b r)]; exact r) fun c xs r => by rw [upd_ne (ntup c xs r)]; exact r
      rcases hc with rfl | hc
      · exact hbe
      · rintro rfl
        rcases he with z | z
        · exact nown c b hc z
        · rw [hc] at z; cases z; exact hb rfl
end
/-! ### kept unless tracked; of the frames at fs (the callers') the slots may change (an exception that passes writes there); of the records at ex (iterators) nothing is said -/
structure Un (fs ex : List Addr) (H H' : Hp) (h h' : Heap) : Prop where
  keep : ∀ b o, h.get? b = some o → H b = none → b ∉ fs → b ∉ ex → h'.get? b = some o
  slot : ∀ b o, h.get? b = some o → H b = none → b ∈ fs → b ∉ ex → ∃ sl, h'.get? b = some { o with slots := sl }
  free : ∀ b o, h.get? b = some o → H b = none → b ∉ ex → H' b = none
  there : ∀ b o, h.get? b = some o → b ∉ ex → ∃ o', h'.get? b = some o'
  tups : ∀ b xs, H b = some (.tup xs) → H' b = some (.tup xs)
  frzs : ∀ b o u, H b = some (.frz o u) → H' b = some (.frz o u)
  tbls : ∀ b ps, H b = some (.tbl ps) → ∃ more, H' b = some (.tbl (ps ++ more))
section
variable {fs fs' ex ex' : List Addr} {H H1 H2 : Hp} {h h1 h2 h' : Heap} {a x e : Addr} {o : HO}
theorem Un.any (u : Un fs ex H H1 h h1) {b : Addr} {ob : Obj} (q : h.get? b = some ob) (n : H b = none) (hx : b ∉ ex) : ∃ sl, h1.get? b = some { ob with slots := sl } := by
  by_cases hb : b ∈ fs
  · exact u.slot b ob q n hb hx
  · exact ⟨ob.slots, u.keep b ob q n hb hx⟩
theorem Un.kept (k : ∀ b u, h.get? b = some u → h'.get? b = some u) : Un fs ex H H h h' :=
  ⟨fun b ob q _ _ _ => k b ob q, fun b ob q _ _ _ => ⟨ob.slots, k b ob q⟩, fun _ _ _ n _ => n, fun b ob q _ => ⟨ob, k b ob q⟩, fun _ _ q => q, fun _ _ _ q => q, fun _ ps q => ⟨#[], by rw [q]; simp⟩⟩
theorem Un.refl : Un fs ex H H h h := Un.kept fun _ _ q => q
theorem Un.laid (k : ∀ b u, h.get? b = some u → h'.get? b = some u) (hp : h.objs.size ≤ a) (hn : H a = none) : Un fs ex H (upd H a o) h h' where
  keep := fun b u q _ _ _ => k b u q
  slot := fun b u q _ _ _ => ⟨u.slots, k b u q⟩
  free := fun b u q n _ => by rw [upd_ne (Nat.ne_of_lt (Nat.lt_of_lt_of_le (Heap.lt_size q) hp))]; exact n
  there := fun b u q _ => ⟨u, k b u q⟩
  tups := fun b xs q => by rw [upd_ne (ne_of_none q hn)]; exact q
  frzs := fun b u xs q => by rw [upd_ne (ne_of_none q hn)]; exact q
  tbls := fun b ps q => ⟨#[], by rw [upd_ne (ne_of_none q hn), q]; simp⟩
theorem Un.write (mu : Mut (H x)) (he : e = x ∨ H e = some (.own x)) (k : ∀ b u, b ≠ e → h.get? b = some u → h'.get? b = some u) (heo : ∃ u, h'.get? e = some u) : Un fs ex H (upd H x o) h h' := by
  have hx : ∀ b, H b = none → b ≠ x := fun b n z => by subst z; rw [n] at mu; exact mu
  have hb : ∀ b, H b = none → b ≠ e := fun b n z => by
    subst z
    rcases he with r | r
    · exact hx b n r
    · rw [n] at r; cases r
  have hm : ∀ b u, H b = some u → ¬ Mut (some u) → b ≠ x := fun b u q nm z => by subst z; rw [q] at mu; exact nm mu
  refine ⟨fun b u q n _ _ => k b u (hb b n) q, fun b u q n _ _ => ⟨u.slots, k b u (hb b n) q⟩, fun b u q n _ => by rw [upd_ne (hx b n)]; exact n, fun b u q _ => ?_,
    fun b xs q => by rw [upd_ne (hm b _ q fun z => z)]; exact q, fun b u xs q => by rw [upd_ne (hm b _ q fun z => z)]; exact q, fun b ps q => ⟨#[], by rw [upd_ne (hm b _ q fun z => z), q]; simp⟩⟩
  by_cases hbe : b = e
  · subst hbe; exact heo
  · exact ⟨u, k b u hbe q⟩
end
/-! ### the heap without what is tracked -/
def trk (h : Heap) (H : Hp) : List Addr := (List.range h.objs.size).filter fun a => (H a).isSome
def hidT (h : Heap) (H : Hp) : Heap := PySem.W.hideAll h (trk h H)
theorem hidT_size (h : Heap) (H : Hp) : (hidT h H).objs.size = h.objs.size := PySem.W.hideAll_size _ _
theorem hidT_get {h : Heap} {H : Hp} {b : Addr} {o : Obj} (e : h.get? b = some o) (n : H b = none) : (hidT h H).get? b = some o :=
  PySem.W.hideAll_get _ e fun hm => by
    have q : (H b).isSome = true := (List.mem_filter.mp hm).2
    rw [n] at q; simp at q
theorem of_hidT {h : Heap} {H : Hp} {b : Addr} {o : Obj} (e : (hidT h H).get? b = some o) : h.get? b = some o ∧ H b = none := by
  have e' : h.get? b = some o := PySem.W.of_hideAll (trk h H) e
  refine ⟨e', ?_⟩
  cases q : H b with
  | none => rfl
  | some x =>
    have hm : b ∈ trk h H := List.mem_filter.mpr ⟨List.mem_range.mpr (Heap.lt_size e'), by simp [q]⟩
    have z : (hidT h H).get? b = none := PySem.W.hideAll_none (trk h H) hm
    rw [z] at e; cases e
/-! ### OpenK's ledger, filled with every new object but one -/
end L2
namespace L2
open PySem PySem.Spec PyProof.Rows
/-- the module's facts, over the base: the heap at the law's entry without what is tracked there -/
structure Mod (K : PySem.W.Frag) (mg : Str → Option Value) (base : Heap) : Prop where
  kin : K.In base
  glob : base.Ns mainGlobals mg
  blt : ∃ mb, base.Ns builtinsNs mb ∧ ∀ x : Str, x ≠ "__name__" → mb x = bootBuiltins x
  nolimit : base.NoLimit
/-- the context: a def's body (or a comprehension's block) running. base: fixed through the whole law; s₀, H₀: the entry; outer: the frames whose slots others may change (a def's callers); stack: all frames that run;
   ex: iterators that were made ahead of the entry and are walked here (a comprehension's); fn: the names whose cells were made at the entry (a def: all; a comprehension's block: its own); calm: not within an except suite; pn: pins that every state bears; xe: what is wanted of an exception that leaves the code -/
structure Cx where
  prog : Program
  w : World
  K : PySem.W.Frag
  mg : Str → Option Value
  base : Heap
  A : Around
  N : List Str
  s₀ : Shared
  H₀ : Hp
  env : Env
  outer : List Env
  stack : List Env
  ex : List Addr
  fn : Str → Bool
  calm : Bool
  pn : List (Addr × Obj)
  xe : Value → Shared → Prop
/-- the callers' frames -/
def frs (l : List Env) : List Addr := l.filterMap (·.frame)
abbrev Cx.fs (X : Cx) : List Addr := frs X.outer
def Vis (sc : Scope) (x : Str) : Prop := sc.names.lookup x = some .local ∨ sc.names.lookup x = some .cell ∨ sc.names.lookup x = some .free
def Loc (sc : Scope) (x : Str) : Prop := sc.names.lookup x = some .local ∨ sc.names.lookup x = some .cell
def Look (env : Env) (h : Heap) (m : Str → Option Value) (x : Str) (u : Value) : Prop :=
  (env.kindOf x = some .local ∧ m x = some u) ∨ ((env.kindOf x = some .cell ∨ env.kindOf x = some .free) ∧ ∃ c, env.cells.lookup x = some c ∧ h.IsCell c (some u))
structure Cx.Ok (X : Cx) : Prop where
  mod : Mod X.K X.mg X.base
  kind : X.env.scope.kind = .function
  glob : X.env.globals = mainGlobals
  blt : X.env.builtins = builtinsNs
  above : X.s₀.heap.objs.size ≤ X.env.locals
  inj : ∀ x y c, X.env.cells.lookup x = some c → X.env.cells.lookup y = some c → x = y
  has : ∀ x, (X.env.kindOf x = some .cell ∨ X.env.kindOf x = some .free) → ∃ c, X.env.cells.lookup x = some c
  cab : ∀ x c, X.fn x = true → X.env.cells.lookup x = some c → X.s₀.heap.objs.size ≤ c
  hd : X.calm = true → X.A.handled = none
  frames : X.A.frames = some X.stack
  stk : X.stack = X.outer ∨ (X.stack = X.env :: X.outer ∧ X.env.frame = some X.env.locals)
  exf : ∀ b ∈ X.ex, b ≠ X.env.locals ∧ ∀ x c, X.env.cells.lookup x = some c → c ≠ b
  bs : ∀ b o, X.base.get? b = some o → X.s₀.heap.get? b = some o ∧ X.H₀ b = none
  bsz : X.base.objs.size ≤ X.s₀.heap.objs.size
  noex : ∀ b o, X.base.get? b = some o → b ∉ X.ex
  exfs : ∀ b ∈ X.ex, b ∉ X.fs
  funs : X.s₀.heap.FunFrames X.base X.outer
  frf : ∀ b ∈ X.fs, X.H₀ b = none
structure Inv (X : Cx) (pins : List (Addr × Obj)) (σ : List (Option V)) (H : Hp) (s : Shared) : Prop where
  ok : X.Ok
  os : s.os = X.s₀.os
  bare : AllBare s.gens
  base : Un X.fs X.ex X.H₀ H X.s₀.heap s.heap
  loc : ∃ m, s.heap.Ns X.env.locals m ∧ ∀ (i : Nat) (x : Str) (v : V), X.N[i]? = some x → σ[i]? = some (some v) → Vis X.env.scope x → ∃ u, RelV v u ∧ Look X.env s.heap m x u
  cell : ∀ x c, X.env.cells.lookup x = some c → ∃ v, s.heap.IsCell c v
  free : H X.env.locals = none
  freeC : ∀ x c, X.env.cells.lookup x = some c → H c = none
  pin : ∀ p ∈ X.pn ++ pins, s.heap.get? p.1 = some p.2 ∧ H p.1 = none ∧ p.1 ≠ X.env.locals ∧ p.1 ∉ X.fs ∧ ∀ v, p.2.data ≠ .cell v
  hok : HOk X.prog X.w H s.heap
  len : σ.length = X.N.length
section
variable {X : Cx} {pins : List (Addr × Obj)} {σ : List (Option V)} {H H' : Hp} {s : Shared} {h' : Heap}
theorem Cx.Ok.nofr (ok : X.Ok) {b : Addr} {o : Obj} (e : X.base.get? b = some o) : b ∉ X.fs := fun hb => by
  have := (ok.funs.mem hb).1
  rw [e] at this; cases this
theorem Inv.bs (I : Inv X pins σ H s) : ∀ b o, X.base.get? b = some o → s.heap.get? b = some o ∧ H b = none := fun b o e =>
  ⟨I.base.keep b o (I.ok.bs b o e).1 (I.ok.bs b o e).2 (I.ok.nofr e) (I.ok.noex b o e), I.base.free b o (I.ok.bs b o e).1 (I.ok.bs b o e).2 (I.ok.noex b o e)⟩
theorem Inv.bk (I : Inv X pins σ H s) : ∀ b o, X.base.get? b = some o → s.heap.get? b = some o := fun b o e => (I.bs b o e).1
theorem Inv.mod (I : Inv X pins σ H s) : Mod X.K X.mg X.base := I.ok.mod
theorem Inv.kIn (I : Inv X pins σ H s) : X.K.In s.heap := I.ok.mod.kin.keeps I.bk
theorem Inv.lt (I : Inv X pins σ H s) : X.env.locals < s.heap.objs.size := let ⟨_, hn, _⟩ := I.loc; hn.lt
theorem Inv.sz (I : Inv X pins σ H s) : X.s₀.heap.objs.size ≤ s.heap.objs.size := Nat.le_trans I.ok.above (Nat.le_of_lt I.lt)
theorem Inv.nofs (I : Inv X pins σ H s) {a : Addr} (h : s.heap.objs.size ≤ a) : a ∉ X.fs := fun hb => by
  obtain ⟨_, o, ho, _⟩ := I.ok.funs.mem hb
  exact absurd (Nat.lt_of_lt_of_le (Heap.lt_size ho) (Nat.le_trans I.sz h)) (Nat.lt_irrefl _)
theorem Inv.cne (I : Inv X pins σ H s) : ∀ x c, X.env.cells.lookup x = some c → c ≠ X.env.locals := fun x c e z => by
  obtain ⟨v, o, ho, hd⟩ := I.cell x c e
  obtain ⟨m, ⟨o', es, ep, ho', hd', _⟩, _⟩ := I.loc
  rw [z, ho'] at ho; cases ho; rw [hd'] at hd; cases hd
theorem Inv.funs (I : Inv X pins σ H s) : s.heap.FunFrames X.base X.outer := by
  have all : ∀ (l : List Env), (∀ b ∈ frs l, b ∈ X.fs) → X.s₀.heap.FunFrames X.base l → s.heap.FunFrames X.base l := by
    intro l
    induction l with
    | nil => intro _ _; trivial
    | cons env r ih =>
      intro hs hl
      obtain ⟨hk, ⟨L, o, hf, hn, ho, hd⟩, hr⟩ := hl
      have hL : L ∈ X.fs := hs L (by unfold frs; rw [List.filterMap_cons, hf]; exact List.mem_cons_self)
      obtain ⟨sl, e⟩ := I.base.slot L o ho (I.ok.frf L hL) hL fun z => I.ok.exfs L z hL
      exact ⟨hk, ⟨L, _, hf, hn, e, hd⟩, ih (fun b hb => hs b (by unfold frs; rw [List.filterMap_cons, hf]; exact List.mem_cons_of_mem _ hb)) hr⟩
  exact all X.outer (fun _ hb => hb) I.ok.funs
/-- the frames that run, for a call -/
theorem Inv.stack (I : Inv X pins σ H s) : s.heap.FunFrames X.base X.stack := by
  rcases I.ok.stk with e | ⟨e, hf⟩
  · rw [e]; exact I.funs
  · rw [e]
    obtain ⟨m, hn, _⟩ := I.loc
    refine .cons (by rw [I.ok.kind]; decide) hf hn ?_ I.funs
    exact Heap.get?_none_of_le (Nat.le_trans I.ok.bsz I.ok.above)
theorem Inv.stkSub (I : Inv X pins σ H s) : ∀ b ∈ frs X.stack, b ∈ X.env.locals :: X.fs := fun b hb => by
  rcases I.ok.stk with e | ⟨e, hf⟩
  · rw [e] at hb; exact List.mem_cons_of_mem _ hb
  · rw [e] at hb
    unfold frs at hb
    rw [List.filterMap_cons, hf] at hb
    exact hb
theorem Inv.stkFree (I : Inv X pins σ H s) : ∀ b ∈ frs X.stack, H b = none := fun b hb => by
  rcases List.mem_cons.mp (I.stkSub b hb) with e | hb
  · rw [e]; exact I.free
  · obtain ⟨_, o, ho, _⟩ := I.ok.funs.mem hb
    exact I.base.free b o ho (I.ok.frf b hb) fun z => I.ok.exfs b z hb
/-- THE STEP: the untracked objects but the frame and the records at ch are kept (the callers' frames up to slots), the frame's map is kept, the new abstract heap is held -/
theorem Inv.step {g' : Array GenState} {t' : Nat} {d' : Drawn} {ch : List Addr} (I : Inv X pins σ H s)
    (hch : ∀ b ∈ ch, (b ∈ X.ex ∨ X.s₀.heap.objs.size ≤ b) ∧ b ≠ X.env.locals ∧ (∀ x c, X.env.cells.lookup x = some c → c ≠ b) ∧ ∀ p ∈ X.pn ++ pins, p.1 ≠ b)
    (keep : ∀ b o, b ≠ X.env.locals → b ∉ X.fs → b ∉ ch → s.heap.get? b = some o → H b = none → h'.get? b = some o)
    (slot : ∀ b o, b ≠ X.env.locals → b ∈ X.fs → b ∉ ch → s.heap.get? b = some o → H b = none → ∃ sl, h'.get? b = some { o with slots := sl }) (free : ∀ b o, b ∉ ch → s.heap.get? b = some o → H b = none → H' b = none)
    (there : ∀ b o, b ∉ ch → s.heap.get? b = some o → ∃ o', h'.get? b = some o')
    (tups : ∀ b xs, H b = some (.tup xs) → H' b = some (.tup xs)) (frzs : ∀ b o u, H b = some (.frz o u) → H' b = some (.frz o u)) (tbls : ∀ b ps, H b = some (.tbl ps) → ∃ more, H' b = some (.tbl (ps ++ more)))
    (ns : ∀ m, s.heap.Ns X.env.locals m → h'.Ns X.env.locals m) (hok : HOk X.prog X.w H' h') (hg : AllBare g') :
    Inv X pins σ H' { s with heap := h', gens := g', drawn := d', toks := t' } := by
  have neL : ∀ b o, X.s₀.heap.get? b = some o → b ≠ X.env.locals := fun b o e => Nat.ne_of_lt (Nat.lt_of_lt_of_le (Heap.lt_size e) I.ok.above)
  have neC : ∀ b o, X.s₀.heap.get? b = some o → b ∉ X.ex → b ∉ ch := fun b o e hx hb => by
    rcases (hch b hb).1 with z | z
    · exact hx z
    · exact absurd (Nat.lt_of_lt_of_le (Heap.lt_size e) z) (Nat.lt_irrefl _)
  have cellK : ∀ x c, X.env.cells.lookup x = some c → ∀ v, s.heap.IsCell c v → h'.IsCell c v := fun x c e v ⟨o, ho, hd⟩ => by
    have nch : c ∉ ch := fun z => (hch c z).2.2.1 x c e rfl
    by_cases hc : c ∈ X.fs
    · obtain ⟨sl, q⟩ := slot c o (I.cne x c e) hc nch ho (I.freeC x c e)
      exact ⟨_, q, hd⟩
    · exact ⟨o, keep c o (I.cne x c e) hc nch ho (I.freeC x c e), hd⟩
  refine ⟨I.ok, I.os, hg, ⟨fun b o e n hb hx => ?_, fun b o e n hb hx => ?_, fun b o e n hx => ?_, fun b o e hx => ?_, fun b xs e => tups b xs (I.base.tups b xs e), fun b o xs e => frzs b o xs (I.base.frzs b o xs e), fun b ps e => ?_⟩, ?_, fun x c e => ?_, ?_, fun x c e => ?_, fun p hp => ?_, hok, I.len⟩
  · exact keep b o (neL b o e) hb (neC b o e hx) (I.base.keep b o e n hb hx) (I.base.free b o e n hx)
  · obtain ⟨sl, e1⟩ := I.base.slot b o e n hb hx
    obtain ⟨sl', e2⟩ := slot b _ (neL b o e) hb (neC b o e hx) e1 (I.base.free b o e n hx)
    exact ⟨sl', e2⟩
  · obtain ⟨o', e1⟩ := I.base.there b o e hx
    exact free b o' (neC b o e hx) e1 (I.base.free b o e n hx)
  · obtain ⟨o', e1⟩ := I.base.there b o e hx
    exact there b o' (neC b o e hx) e1
  · obtain ⟨m1, e1⟩ := I.base.tbls b ps e
    obtain ⟨m2, e2⟩ := tbls b _ e1
    exact ⟨m1 ++ m2, by rw [e2, Array.append_assoc]⟩
  · obtain ⟨m, hn, hl⟩ := I.loc
    refine ⟨m, ns m hn, fun i x v e1 e2 e3 => ?_⟩
    obtain ⟨u, r, l⟩ := hl i x v e1 e2 e3
    refine ⟨u, r, ?_⟩
    rcases l with l | ⟨k, c, e, z⟩
    · exact .inl l
    · exact .inr ⟨k, c, e, cellK x c e _ z⟩
  · obtain ⟨v, z⟩ := I.cell x c e
    exact ⟨v, cellK x c e v z⟩
  · obtain ⟨m, ⟨o, _, _, ho, _⟩, _⟩ := I.loc
    exact free _ o (fun z => (hch _ z).2.1 rfl) ho I.free
  · obtain ⟨v, o, ho, hd⟩ := I.cell x c e
    exact free c o (fun z => (hch c z).2.2.1 x c e rfl) ho (I.freeC x c e)
  · obtain ⟨e, n, ne, nf, d⟩ := I.pin p hp
    have nch : p.1 ∉ ch := fun z => (hch p.1 z).2.2.2 p hp rfl
    exact ⟨keep p.1 p.2 ne nf nch e n, free p.1 p.2 nch e n, ne, nf, d⟩
/-- .. where the frame's own object is kept too -/
theorem Inv.un {t' : Nat} (I : Inv X pins σ H s) (u : Un X.fs [] H H' s.heap h') (hok : HOk X.prog X.w H' h') : Inv X pins σ H' { s with heap := h', toks := t' } := by
  obtain ⟨m, ⟨o, es, ep, ho, r⟩, _⟩ := id I.loc
  obtain ⟨sl, hL⟩ := u.any ho I.free (by simp)
  exact I.step (g' := s.gens) (d' := s.drawn) (ch := []) (fun _ z => nomatch z) (fun b o _ hb _ e n => u.keep b o e n hb (by simp)) (fun b o _ hb _ e n => u.slot b o e n hb (by simp)) (fun b o _ e n => u.free b o e n (by simp)) (fun b o _ e => u.there b o e (by simp)) u.tups u.frzs u.tbls (fun m' hm => by
    obtain ⟨o', es', ep', ho', r'⟩ := hm
    rw [ho] at ho'; cases ho'
    exact ⟨_, es', ep', hL, r'⟩) hok I.bare
/-- behind a call (or a comprehension's block): the slots of this frame may have changed too, the records at ch may have turned -/
theorem Inv.call {g' : Array GenState} {t' : Nat} {d' : Drawn} {ch : List Addr} (I : Inv X pins σ H s) (u : Un (frs X.stack) ch H H' s.heap h') (hok : HOk X.prog X.w H' h') (hg : AllBare g')
    (hch : ∀ b ∈ ch, (b ∈ X.ex ∨ X.s₀.heap.objs.size ≤ b) ∧ b ≠ X.env.locals ∧ (∀ x c, X.env.cells.lookup x = some c → c ≠ b) ∧ ∀ p ∈ X.pn ++ pins, p.1 ≠ b) :
    Inv X pins σ H' { s with heap := h', gens := g', drawn := d', toks := t' } := by
  obtain ⟨m, ⟨o, es, ep, ho, r⟩, _⟩ := id I.loc
  obtain ⟨sl, hL⟩ := u.any ho I.free fun z => (hch _ z).2.1 rfl
  exact I.step (ch := ch) hch (fun b o hL hb hc e n => u.keep b o e n (fun z => (List.mem_cons.mp (I.stkSub b z)).elim hL hb) hc) (fun b o _ _ hc e n => u.any e n hc) (fun b o hc e n => u.free b o e n hc) (fun b o hc e => u.there b o e hc) u.tups u.frzs u.tbls (fun m' hm => by
    obtain ⟨o', es', ep', ho', r'⟩ := hm
    rw [ho] at ho'; cases ho'
    exact ⟨_, es', ep', hL, r'⟩) hok hg
/-- an untracked record of ours (an iterator) has turned -/
theorem Inv.turned {t' : Nat} {it : Addr} (I : Inv X pins σ H s) (k : ∀ b o, b ≠ it → s.heap.get? b = some o → h'.get? b = some o) (hn : H it = none) (hL : it ≠ X.env.locals)
    (h1 : it ∈ X.ex ∨ X.s₀.heap.objs.size ≤ it) (h2 : ∀ x c, X.env.cells.lookup x = some c → c ≠ it) (h3 : ∀ p ∈ X.pn ++ pins, p.1 ≠ it) : Inv X pins σ H { s with heap := h', toks := t' } := by
  have nit : ∀ b u, H b = some u → b ≠ it := fun b u e z => by rw [z, hn] at e; cases e
  refine I.step (g' := s.gens) (d' := s.drawn) (ch := [it]) (fun b hb => ?_) (fun b o _ _ hc e _ => k b o (fun z => hc (by simp [z])) e) (fun b o _ _ hc e _ => ⟨o.slots, k b o (fun z => hc (by simp [z])) e⟩) (fun _ _ _ _ n => n)
    (fun b o hc e => ⟨o, k b o (fun z => hc (by simp [z])) e⟩) (fun _ _ e => e) (fun _ _ _ e => e) (fun b ps e => ⟨#[], by rw [e]; simp⟩) (fun m hm => ?_) (fun b u e => ?_) I.bare
  · have e : b = it := by simpa using hb
    subst e
    exact ⟨h1, hL, h2, h3⟩
  · obtain ⟨o, es, ep, ho, r⟩ := hm
    exact ⟨o, es, ep, k _ o (Ne.symm hL) ho, r⟩
  · refine (I.hok b u e).stay (fun c v hc q => k c v ?_ q) (fun _ q => q) fun _ _ q => q
    rcases hc with z | z
    · rw [z]; exact nit b u e
    · exact nit c _ z
theorem Inv.tok (I : Inv X pins σ H s) (t : Nat) : Inv X pins σ H { s with toks := t } := I.un (h' := s.heap) (t' := t) Un.refl I.hok
/-- all objects kept -/
theorem Inv.kept {t' : Nat} (I : Inv X pins σ H s) (k : ∀ b u, s.heap.get? b = some u → h'.get? b = some u) : Inv X pins σ H { s with heap := h', toks := t' } := I.un (Un.kept k) (I.hok.kept k)
/-- a new object laid and tracked -/
theorem Inv.laid {a : Addr} {o : HO} {t' : Nat} (I : Inv X pins σ H s) (k : ∀ b u, s.heap.get? b = some u → h'.get? b = some u) (hp : s.heap.objs.size ≤ a) (new : ObjOk X.prog X.w (upd H a o) h' a o) :
    Inv X pins σ (upd H a o) { s with heap := h', toks := t' } := I.un (Un.laid k hp (I.hok.fresh hp)) (I.hok.laid k hp new)
/-- an object written -/
theorem Inv.write {x e : Addr} {o : HO} {t' : Nat} (I : Inv X pins σ H s) (mu : Mut (H x)) (he : e = x ∨ H e = some (.own x)) (k : ∀ b u, b ≠ e → s.heap.get? b = some u → h'.get? b = some u) (heo : ∃ u, h'.get? e = some u)
    (new : ObjOk X.prog X.w (upd H x o) h' x o) : Inv X pins σ (upd H x o) { s with heap := h', toks := t' } := I.un (Un.write mu he k heo) (I.hok.write mu he k heo new)
theorem Inv.pins_of {pins' : List (Addr × Obj)} (I : Inv X pins σ H s) (h : ∀ p ∈ pins', s.heap.get? p.1 = some p.2 ∧ H p.1 = none ∧ p.1 ≠ X.env.locals ∧ p.1 ∉ X.fs ∧ ∀ v, p.2.data ≠ .cell v) : Inv X pins' σ H s :=
  ⟨I.ok, I.os, I.bare, I.base, I.loc, I.cell, I.free, I.freeC, fun p hp => (List.mem_append.mp hp).elim (fun z => I.pin p (List.mem_append_left _ z)) (h p), I.hok, I.len⟩
theorem nodup_ix {N : List Str} (hN : N.Nodup) {i j : Nat} {x : Str} (a : N[i]? = some x) (b : N[j]? = some x) : i = j := by
  obtain ⟨h1, e1⟩ := List.getElem?_eq_some_iff.mp a
  obtain ⟨h2, e2⟩ := List.getElem?_eq_some_iff.mp b
  exact (List.getElem_inj hN).mp (e1.trans e2.symm)
/-- a name is stored; what changed -/
theorem store_ok2 {M : Model} {A : Around} {E : Value → Shared → Prop} {i : Nat} {x : Str} {v : V} {u : Value} {Q : Unit → Shared → Prop} (I : Inv X pins σ H s) (hN : X.N.Nodup) (hi : X.N[i]? = some x) (hx : Loc X.env.scope x) (r : RelV v u)
    (h : ∀ s', Inv X pins (σ.set i (some v)) H s' → (∃ a, Heap.SameBut a s.heap s'.heap ∧ (a = X.env.locals ∨ X.env.cells.lookup x = some a)) → Q () s') (hf : X.fn x = true ∨ X.env.scope.names.lookup x = some .local := by first | exact .inl rfl | exact .inr rfl | assumption) : wpAny M A (storeName X.env x u) Q E s := by
  obtain ⟨m, hn, hl⟩ := id I.loc
  have hcls : (X.env.scope.kind == .class || (X.env.scope.kind == .module && X.env.locals != X.env.globals)) = false := by rw [I.ok.kind]; rfl
  have hiσ : i < σ.length := by rw [I.len]; exact (List.getElem?_eq_some_iff.mp hi).1
  have cne := I.cne
  have tracked : ∀ {a : Addr} {h' : Heap}, (∃ o, s.heap.get? a = some o ∧ H a = none) → Heap.SameBut a s.heap h' → HOk X.prog X.w H h' := fun {a h'} ha hs b ob e => by
    obtain ⟨_, _, hfree⟩ := ha
    refine (I.hok b ob e).stay (fun c w' hc q => (hs.2 c ?_).trans q) (fun _ q => q) fun _ _ q => q
    rintro rfl
    rcases hc with rfl | hc
    · rw [hfree] at e; cases e
    · rw [hfree] at hc; cases hc
  rcases hx with hk | hk
  · refine wpAny_storeName_local hk hn (fun h' hn' hs => ?_) hcls
    obtain ⟨oL, _, _, hoL, _⟩ := id hn
    refine h _ ⟨I.ok, I.os, I.bare, ⟨fun b o e n hb hx => ?_, fun b o e n hb hx => ?_, I.base.free, fun b o e hx => ?_, I.base.tups, I.base.frzs, I.base.tbls⟩, ⟨_, hn', fun j y v' e1 e2 e3 => ?_⟩, fun y c e => ?_, I.free, I.freeC, fun p hp => ?_, tracked ⟨oL, hoL, I.free⟩ hs, by simpa using I.len⟩ ⟨_, hs, .inl rfl⟩
    · exact (hs.2 b (Nat.ne_of_lt (Nat.lt_of_lt_of_le (Heap.lt_size e) I.ok.above))).trans (I.base.keep b o e n hb hx)
    · obtain ⟨sl, e1⟩ := I.base.slot b o e n hb hx
      exact ⟨sl, (hs.2 b (Nat.ne_of_lt (Nat.lt_of_lt_of_le (Heap.lt_size e) I.ok.above))).trans e1⟩
    · obtain ⟨o', e1⟩ := I.base.there b o e hx
      exact ⟨o', (hs.2 b (Nat.ne_of_lt (Nat.lt_of_lt_of_le (Heap.lt_size e) I.ok.above))).trans e1⟩
    · by_cases hj : j = i
      · subst hj
        rw [hi] at e1; cases e1
        rw [List.getElem?_set_self hiσ] at e2
        cases e2
        exact ⟨u, r, .inl ⟨hk, by simp⟩⟩
      · rw [List.getElem?_set_ne (Ne.symm hj)] at e2
        obtain ⟨u', r', q⟩ := hl j y v' e1 e2 e3
        refine ⟨u', r', ?_⟩
        rcases q with ⟨k, e⟩ | ⟨k, c, e, z⟩
        · refine .inl ⟨k, ?_⟩
          have : y ≠ x := fun e => hj (nodup_ix hN e1 (e ▸ hi))
          simp [this, e]
        · exact .inr ⟨k, c, e, z.sameBut hs (cne y c e)⟩
    · obtain ⟨w', z⟩ := I.cell y c e
      exact ⟨w', z.sameBut hs (cne y c e)⟩
    · obtain ⟨e, n, ne, nf, d⟩ := I.pin p hp
      exact ⟨(hs.2 p.1 ne).trans e, n, ne, nf, d⟩
  · have hfn : X.fn x = true := by
      rcases hf with z | z
      · exact z
      · rw [z] at hk; cases hk
    obtain ⟨c, hc⟩ := I.ok.has x (.inl hk)
    obtain ⟨w', z⟩ := I.cell x c hc
    refine wpAny_storeName_cell I.ok.kind hk hc z (fun h' hc' hs => ?_)
    obtain ⟨oc, hoc, hocd⟩ := id z
    refine h { s with heap := h' } ⟨I.ok, I.os, I.bare, ⟨fun b o e n hb hx => ?_, fun b o e n hb hx => ?_, I.base.free, fun b o e hx => ?_, I.base.tups, I.base.frzs, I.base.tbls⟩, ⟨m, hn.sameBut hs (Ne.symm (cne x c hc)), fun j y v' e1 e2 e3 => ?_⟩, fun y c' e => ?_, I.free, I.freeC, fun p hp => ?_, tracked ⟨oc, hoc, I.freeC x c hc⟩ hs, by simpa using I.len⟩ ⟨c, hs, .inr hc⟩
    · exact (hs.2 b (Nat.ne_of_lt (Nat.lt_of_lt_of_le (Heap.lt_size e) (I.ok.cab x c hfn hc)))).trans (I.base.keep b o e n hb hx)
    · obtain ⟨sl, e1⟩ := I.base.slot b o e n hb hx
      exact ⟨sl, (hs.2 b (Nat.ne_of_lt (Nat.lt_of_lt_of_le (Heap.lt_size e) (I.ok.cab x c hfn hc)))).trans e1⟩
    · obtain ⟨o', e1⟩ := I.base.there b o e hx
      exact ⟨o', (hs.2 b (Nat.ne_of_lt (Nat.lt_of_lt_of_le (Heap.lt_size e) (I.ok.cab x c hfn hc)))).trans e1⟩
    · by_cases hj : j = i
      · subst hj
        rw [hi] at e1; cases e1
        rw [List.getElem?_set_self hiσ] at e2
        cases e2
        exact ⟨u, r, .inr ⟨.inl hk, c, hc, hc'⟩⟩
      · rw [List.getElem?_set_ne (Ne.symm hj)] at e2
        obtain ⟨u', r', q⟩ := hl j y v' e1 e2 e3
        refine ⟨u', r', ?_⟩
        rcases q with q | ⟨k, c', e, z'⟩
        · exact .inl q
        · refine .inr ⟨k, c', e, z'.sameBut hs ?_⟩
          rintro rfl
          exact hj (nodup_ix hN e1 (I.ok.inj _ _ _ e hc ▸ hi))
    · by_cases hcc : c' = c
      · subst hcc; exact ⟨_, hc'⟩
      · obtain ⟨w2, z2⟩ := I.cell y c' e
        exact ⟨w2, z2.sameBut hs hcc⟩
    · obtain ⟨e, n, ne, nf, d⟩ := I.pin p hp
      refine ⟨(hs.2 p.1 ?_).trans e, n, ne, nf, d⟩
      intro q
      rw [q, hoc] at e
      have q' : oc = p.2 := Option.some.inj e
      exact d w' (by rw [← q']; exact hocd)
theorem store_ok {M : Model} {A : Around} {E : Value → Shared → Prop} {i : Nat} {x : Str} {v : V} {u : Value} {Q : Unit → Shared → Prop} (I : Inv X pins σ H s) (hN : X.N.Nodup) (hi : X.N[i]? = some x) (hx : Loc X.env.scope x) (r : RelV v u)
    (h : ∀ s', Inv X pins (σ.set i (some v)) H s' → Q () s') (hf : X.fn x = true ∨ X.env.scope.names.lookup x = some .local := by first | exact .inl rfl | exact .inr rfl | assumption) : wpAny M A (storeName X.env x u) Q E s :=
  store_ok2 I hN hi hx r (fun s' I' _ => h s' I') hf
/-- behind a call or a block, the state as it is -/
theorem Inv.call' {s' : Shared} {ch : List Addr} (I : Inv X pins σ H s) (ho : s'.os = s.os) (u : Un (frs X.stack) ch H H' s.heap s'.heap) (hok : HOk X.prog X.w H' s'.heap) (hg : AllBare s'.gens)
    (hch : ∀ b ∈ ch, (b ∈ X.ex ∨ X.s₀.heap.objs.size ≤ b) ∧ b ≠ X.env.locals ∧ (∀ x c, X.env.cells.lookup x = some c → c ≠ b) ∧ ∀ p ∈ X.pn ++ pins, p.1 ≠ b) : Inv X pins σ H' s' := by
  obtain ⟨h', g', d', t', o'⟩ := s'
  have e : o' = s.os := ho
  subst e
  exact I.call (g' := g') (t' := t') (d' := d') u hok hg hch
end
/-! ### the judgements -/
/-- an exception: its class, its own dict's address (where it has one), the abstract heap behind it -/
abbrev XK := Value → Option Addr → Hp → Prop
abbrev St := List (Option V)
abbrev VK := V → Hp → Prop
/-- an expression's reading; a test's; an argument list's -/
abbrev TE := St → Hp → VK → Prop
abbrev TT := St → Hp → (Bool → Hp → Prop) → Prop
abbrev TA := St → Hp → (List V → Hp → Prop) → Prop
/-- what is wanted behind a statement -/
structure Ends where
  nx : St → Hp → Prop
  rt : VK
  bk : St → Hp → Prop := fun _ _ => False
  ct : St → Hp → Prop := fun _ _ => False
abbrev TS := Ends → St → Hp → Prop
def EP (X : Cx) (pins : List (Addr × Obj)) (σ : St) (Q : VK) (u : Value) (s' : Shared) : Prop := ∃ v H', Inv X pins σ H' s' ∧ RelV v u ∧ Q v H'
def TP (X : Cx) (pins : List (Addr × Obj)) (σ : St) (Q : Bool → Hp → Prop) (b : Bool) (s' : Shared) : Prop := ∃ H', Inv X pins σ H' s' ∧ Q b H'
def AP (X : Cx) (pins : List (Addr × Obj)) (σ : St) (Q : List V → Hp → Prop) (us : List Value) (s' : Shared) : Prop := ∃ vs H', Inv X pins σ H' s' ∧ Vals vs us ∧ Q vs H'
def SP (X : Cx) (pins : List (Addr × Obj)) (D : Ends) (f : Flow) (s' : Shared) : Prop :=
  match f with
  | .next => ∃ σ' H', Inv X pins σ' H' s' ∧ D.nx σ' H'
  | .brk => ∃ σ' H', Inv X pins σ' H' s' ∧ D.bk σ' H'
  | .cont => ∃ σ' H', Inv X pins σ' H' s' ∧ D.ct σ' H'
  | .ret u => ∃ v σ' H', Inv X pins σ' H' s' ∧ RelV v u ∧ D.rt v H'
def PE (X : Cx) (e : Expr) (t : TE) : Prop :=
  ∀ (pins : List (Addr × Obj)) (s : Shared) (σ : St) (H : Hp) (Q : VK), Inv X pins σ H s → t σ H Q → wpAny (model X.prog X.w) X.A (eval e X.env) (EP X pins σ Q) X.xe s
def PT (X : Cx) (e : Expr) (t : TT) : Prop :=
  ∀ (pins : List (Addr × Obj)) (s : Shared) (σ : St) (H : Hp) (Q : Bool → Hp → Prop), Inv X pins σ H s → t σ H Q → wpAny (model X.prog X.w) X.A (isTrue e X.env (eval e X.env)) (TP X pins σ Q) X.xe s
/-- a test whatever its 'whole' is (and, or) -/
def PW (X : Cx) (e : Expr) (t : TT) : Prop :=
  ∀ (whole : Sem Value) (pins : List (Addr × Obj)) (s : Shared) (σ : St) (H : Hp) (Q : Bool → Hp → Prop), Inv X pins σ H s → t σ H Q → wpAny (model X.prog X.w) X.A (isTrue e X.env whole) (TP X pins σ Q) X.xe s
theorem PW.pt {X : Cx} {e : Expr} {t : TT} (h : PW X e t) : PT X e t := h _
/-- an argument list (no star), from the left -/
def PA (X : Cx) (es : List Expr) (t : TA) : Prop :=
  ∀ (pos : Pos) (pins : List (Addr × Obj)) (s : Shared) (σ : St) (H : Hp) (Q : List V → Hp → Prop), Inv X pins σ H s → t σ H Q → wpAny (model X.prog X.w) X.A (spliced (backTo pos (starEach es X.env))) (AP X pins σ Q) X.xe s
def PS (X : Cx) (st : Stmt) (t : TS) : Prop :=
  ∀ (pins : List (Addr × Obj)) (s : Shared) (σ : St) (H : Hp) (D : Ends), Inv X pins σ H s → t D σ H → wpAny (model X.prog X.w) X.A (exec st X.env) (SP X pins D) X.xe s
def PSs (X : Cx) (st : List Stmt) (t : TS) : Prop :=
  ∀ (pins : List (Addr × Obj)) (s : Shared) (σ : St) (H : Hp) (D : Ends), Inv X pins σ H s → t D σ H → wpAny (model X.prog X.w) X.A (execs st X.env) (SP X pins D) X.xe s
/-- weaken the end -/
theorem thn {α : Type} {t : Sem α} {Q Q' : α → Shared → Prop} {M : Model} {A : Around} {E : Value → Shared → Prop} {s : Shared} (h : wpAny M A t Q E s) (hQ : ∀ a s, Q a s → Q' a s) : wpAny M A t Q' E s := wpAny_mono h hQ fun _ _ x => x
end L2
namespace L2
open PySem PySem.Spec PyProof.Rows
section
variable {X : Cx}
/-! ### names and constants -/
def tVar (i : Nat) : TE := fun σ H Q => ∃ v, σ[i]? = some (some v) ∧ Q v H
def tC (v : V) : TE := fun _ H Q => Q v H
theorem pe_var {i : Nat} {x : Str} {pos : Pos} (hN : X.N[i]? = some x) (hv : Vis X.env.scope x) (hd : (x == ("__debug__" : Str)) = false := by decide) (hcd : (x == ("__classdict__" : Str)) = false := by decide) : PE X (.Name x pos) (tVar i) := by
  intro pins s σ H Q I h
  obtain ⟨v, e, h⟩ := h
  obtain ⟨m, hn, hl⟩ := I.loc
  obtain ⟨u, r, l⟩ := hl i x v hN e hv
  have fin : EP X pins σ Q u s := ⟨v, H, I, r, h⟩
  rcases l with ⟨hk, hm⟩ | ⟨hk, c, hc, hcell⟩
  · exact wpAny_Name (wpAny_loadName_local I.ok.kind hk hn hm fin) hd
  · rcases hk with hk | hk
    · exact wpAny_Name (wpAny_loadName_cell I.ok.kind hk hc hcell fin) hd
    · exact wpAny_Name (wpAny_loadName_free I.ok.kind hk hc hcell fin hcd) hd
theorem pe_int {i j pos} : PE X (.Constant (.int i) j pos) (tC (.int i)) := fun _ _ _ H _ I h => wpAny_Constant_int ⟨.int i, H, I.tok _, ⟨_, rfl⟩, h⟩
theorem pe_bl {b j pos} : PE X (.Constant (.bool b) j pos) (tC (.bl b)) := fun _ _ _ H _ I h => Constant_bool ⟨.bl b, H, I, rfl, h⟩
theorem pe_non {j pos} : PE X (.Constant .none j pos) (tC .non) := fun _ _ _ H _ I h => Constant_none ⟨.non, H, I, rfl, h⟩
theorem pe_str {x j pos} : PE X (.Constant (.str x) j pos) (tC (.str x)) := fun _ _ _ H _ I h => Calls.Constant_str ⟨.str x, H, I.tok _, ⟨_, rfl⟩, h⟩
/-- a global name of the def -/
def Gl (X : Cx) (x : Str) : Prop := X.env.kindOf x = some .globalImplicit
theorem ld_glob {E : Value → Shared → Prop} {pins : List (Addr × Obj)} {s : Shared} {σ : St} {H : Hp} {x : Str} {u : Value} {pos : Pos} {Q : Value → Shared → Prop} (I : Inv X pins σ H s) (hg : Gl X x) (hm : X.mg x = some u) (h : Q u s)
    (hd : (x == ("__debug__" : Str)) = false := by decide) : wpAny (model X.prog X.w) X.A (eval (.Name x pos) X.env) Q E s :=
  Calls.Name_function_global I.ok.kind hg (Calls.loadGlobal_global (by rw [I.ok.glob]; exact I.mod.glob.keeps I.bk) hm h) hd
theorem ld_blt {E : Value → Shared → Prop} {pins : List (Addr × Obj)} {s : Shared} {σ : St} {H : Hp} {x : Str} {u : Value} {pos : Pos} {Q : Value → Shared → Prop} (I : Inv X pins σ H s) (hg : Gl X x) (hm : X.mg x = none) (hv : bootBuiltins x = some u) (h : Q u s)
    (hn : x ≠ "__name__" := by decide) (hd : (x == ("__debug__" : Str)) = false := by decide) : wpAny (model X.prog X.w) X.A (eval (.Name x pos) X.env) Q E s := by
  obtain ⟨mb, h1, h2⟩ := I.mod.blt
  exact Calls.Name_function_global I.ok.kind hg (Calls.loadGlobal_builtin (by rw [I.ok.glob]; exact I.mod.glob.keeps I.bk) hm (by rw [I.ok.blt]; exact h1.keeps I.bk) ((h2 x hn).trans hv) h) hd
/-- a module's constant, a class, a function, as a value -/
theorem pe_glob {x : Str} {v : V} {u : Value} {pos : Pos} (hg : Gl X x) (hm : X.mg x = some u) (r : RelV v u) (hd : (x == ("__debug__" : Str)) = false := by decide) : PE X (.Name x pos) (tC v) :=
  fun _ _ _ H _ I h => ld_glob I hg hm ⟨v, H, I, r, h⟩ hd
theorem pe_bltn {x : Str} {v : V} {u : Value} {pos : Pos} (hg : Gl X x) (hm : X.mg x = none) (hv : bootBuiltins x = some u) (r : RelV v u) (hn : x ≠ "__name__" := by decide) (hd : (x == ("__debug__" : Str)) = false := by decide) : PE X (.Name x pos) (tC v) :=
  fun _ _ _ H _ I h => ld_blt I hg hm hv ⟨v, H, I, r, h⟩ hn hd
/-! ### arithmetic -/
variable {a b : Expr} {ta tb : TE} {pos : Pos}
/-! ### comparisons -/
/-! ### and, or, not -/
variable {tA tB' : TT} {rest : List Expr}
def tAnd (t u : TT) : TT := fun σ H Q => t σ H fun c H1 => if c = true then u σ H1 Q else Q false H1
def tOr (t u : TT) : TT := fun σ H Q => t σ H fun c H1 => if c = true then Q true H1 else u σ H1 Q
def tNot (t : TT) : TT := fun σ H Q => t σ H fun c H1 => Q (!c) H1
theorem pw_and1 (ha : PT X a tA) : PW X (.BoolOp .And [a] pos) tA := by
  intro wh pins s σ H Q I h
  refine isTrue_and (thn (ha pins s σ H Q I h) fun c s1 e => ?_)
  cases c with
  | true => exact isTrue_and_nil e
  | false => exact e
theorem pw_or1 (ha : PT X a tA) : PW X (.BoolOp .Or [a] pos) tA := by
  intro wh pins s σ H Q I h
  refine isTrue_or (thn (ha pins s σ H Q I h) fun c s1 e => ?_)
  cases c with
  | false => exact isTrue_or_nil e
  | true => exact e
theorem pw_and (ha : PT X a tA) (hb : PW X (.BoolOp .And (b :: rest) pos) tB') : PW X (.BoolOp .And (a :: b :: rest) pos) (tAnd tA tB') := by
  intro wh pins s σ H Q I h
  refine isTrue_and (thn (ha pins s σ H _ I h) fun c s1 ⟨H1, I1, q1⟩ => ?_)
  cases c with
  | true => exact hb wh pins s1 σ H1 Q I1 q1
  | false => exact ⟨H1, I1, q1⟩
theorem pw_or (ha : PT X a tA) (hb : PW X (.BoolOp .Or (b :: rest) pos) tB') : PW X (.BoolOp .Or (a :: b :: rest) pos) (tOr tA tB') := by
  intro wh pins s σ H Q I h
  refine isTrue_or (thn (ha pins s σ H _ I h) fun c s1 ⟨H1, I1, q1⟩ => ?_)
  cases c with
  | true => exact ⟨H1, I1, q1⟩
  | false => exact hb wh pins s1 σ H1 Q I1 q1
theorem pt_not (ha : PT X a tA) : PT X (.UnaryOp .Not a pos) (tNot tA) := by
  intro pins s σ H Q I h
  exact isTrue_not (ha pins s σ H (fun c H1 => Q (!c) H1) I h)
/-- .. as values (bools) -/
def tAndV (ta tb : TE) : TE := fun σ H Q => ta σ H fun x H1 => ∃ c, x = .bl c ∧ if c = true then tb σ H1 Q else Q (.bl false) H1
def tOrV (ta tb : TE) : TE := fun σ H Q => ta σ H fun x H1 => ∃ c, x = .bl c ∧ if c = true then Q (.bl true) H1 else tb σ H1 Q
theorem pe_one {op} {t : TE} (h : PE X a t) : PE X (.BoolOp op [a] pos) t := fun pins s σ H Q I hw => BoolOp_one (h pins s σ H Q I hw)
theorem pe_and (ha : PE X a ta) (hb : PE X (.BoolOp .And (b :: rest) pos) tb) : PE X (.BoolOp .And (a :: b :: rest) pos) (tAndV ta tb) := by
  intro pins s σ H Q I h
  refine BoolOp_and (thn (ha pins s σ H _ I h) fun v s1 ⟨x, H1, I1, r1, q1⟩ => ?_)
  obtain ⟨c, rfl, q1⟩ := q1
  cases r1
  refine wpAny_truthy_bool ?_
  cases c with
  | true => exact hb pins s1 σ H1 Q I1 q1
  | false => exact ⟨.bl false, H1, I1, rfl, q1⟩
/-- a if t else b -/
def tIf (t : TT) (ta tb : TE) : TE := fun σ H Q => t σ H fun c H1 => if c = true then ta σ H1 Q else tb σ H1 Q
theorem pe_ifExp {c : Expr} (hc : PT X c tA) (ha : PE X a ta) (hb : PE X b tb) : PE X (.IfExp c a b pos) (tIf tA ta tb) := by
  intro pins s σ H Q I h
  refine wpAny_IfExp (thn (hc pins s σ H _ I h) fun d s1 ⟨H1, I1, q1⟩ => ?_)
  cases d with
  | true => exact ha pins s1 σ H1 Q I1 q1
  | false => exact hb pins s1 σ H1 Q I1 q1
end
end L2
namespace L2
open PySem PySem.Spec PyProof.Rows
/-! ### a list, a tuple that is read: tracked, frozen, or an object of the module -/
def SqL (K : PySem.W.Frag) (H : Hp) (a : Addr) (xs : List V) : Prop :=
  Rd H a (.lst xs) ∨
    ∃ (o : Obj) (its : Array Value) (n : Nat), K.lookup a = some o ∧ o.cls = .type "list" ∧ o.dict = none ∧ o.data = .seq its n ∧ its.size ≤ sizeLine ∧ Vals xs its.toList
def SqT (K : PySem.W.Frag) (H : Hp) (a : Addr) (xs : List V) : Prop :=
  Rd H a (.tup xs) ∨
    ∃ (o : Obj) (its : Array Value) (n : Nat), K.lookup a = some o ∧ o.cls = .type "tuple" ∧ o.data = .seq its n ∧ its.size ≤ sizeLine ∧ Vals xs its.toList
def absV : Value → Option V
  | .none => some .non
  | .bool b => some (.bl b)
  | .int i _ => some (.int i)
  | .str x _ => some (.str x)
  | .bytes b _ => some (.byt b)
  | .float b _ => some (.flt b)
  | .ref a => some (.ref a)
  | .type n => some (.ty n)
  | _ => none
theorem RelV.abs {x : V} {u : Value} (r : RelV x u) : absV u = some x := by
  cases x with
  | non => cases r; rfl
  | bl _ => cases r; rfl
  | int _ => obtain ⟨t, rfl⟩ := r; rfl
  | str _ => obtain ⟨t, rfl⟩ := r; rfl
  | byt _ => obtain ⟨t, rfl⟩ := r; rfl
  | flt _ => obtain ⟨t, rfl⟩ := r; rfl
  | ref _ => cases r; rfl
  | ty _ => cases r; rfl
theorem RelV.inj {x y : V} {u : Value} (r : RelV x u) (q : RelV y u) : x = y := Option.some.inj (r.abs.symm.trans q.abs)
theorem Vals.inj : ∀ {xs ys : List V} {us : List Value}, Vals xs us → Vals ys us → xs = ys
  | _, _, _, .nil, .nil => rfl
  | _, _, _, .cons r t, .cons r' t' => by rw [r.inj r', Vals.inj t t']
section
variable {X : Cx} {pins : List (Addr × Obj)} {σ : St} {H : Hp} {s : Shared} {a : Addr} {xs ys : List V}
theorem SqL.of {K : PySem.W.Frag} (h : H a = some (.lst xs)) : SqL K H a xs := .inl (.inl h)
theorem SqT.of {K : PySem.W.Frag} (h : H a = some (.tup xs)) : SqT K H a xs := .inl (.inl h)
theorem Inv.list (I : Inv X pins σ H s) (h : SqL X.K H a xs) : ∃ its : List Value, Vals xs its ∧ PlainL s.heap a its.toArray ∧ xs.length ≤ sizeLine := by
  rcases h with h | ⟨o, its, n, hk, hc, hd, hs, hz, r⟩
  · obtain ⟨z, its, n, r, e⟩ := h.ok I.hok
    exact ⟨its, r, ⟨_, n, e, rfl, rfl, rfl⟩, z⟩
  · refine ⟨its.toList, r, ⟨o, n, I.kIn a o hk, hc, hd, by simpa using hs⟩, ?_⟩
    have e := r.length
    simp only [Array.length_toList] at e
    omega
theorem Inv.tuple (I : Inv X pins σ H s) (h : SqT X.K H a xs) : ∃ its : List Value, Vals xs its ∧ IsTup s.heap a its.toArray ∧ xs.length ≤ sizeLine := by
  rcases h with h | ⟨o, its, n, hk, hc, hs, hz, r⟩
  · obtain ⟨z, its, r, p⟩ := h.ok I.hok
    exact ⟨its, r, p, z⟩
  · refine ⟨its.toList, r, ⟨o, I.kIn a o hk, hc, n, by simpa using hs⟩, ?_⟩
    have e := r.length
    simp only [Array.length_toList] at e
    omega
theorem Inv.list_inj (I : Inv X pins σ H s) (h : SqL X.K H a xs) (h' : SqL X.K H a ys) : xs = ys := by
  obtain ⟨its, r, ⟨o, n, e, _, _, d⟩, _⟩ := I.list h
  obtain ⟨its', r', ⟨o', n', e', _, _, d'⟩, _⟩ := I.list h'
  rw [e] at e'; cases e'
  rw [d] at d'
  injection d' with d1 _
  have : its = its' := by simpa using congrArg Array.toList d1
  subst this
  exact r.inj r'
theorem Inv.tuple_inj (I : Inv X pins σ H s) (h : SqT X.K H a xs) (h' : SqT X.K H a ys) : xs = ys := by
  obtain ⟨its, r, ⟨o, e, _, n, d⟩, _⟩ := I.tuple h
  obtain ⟨its', r', ⟨o', e', _, n', d'⟩, _⟩ := I.tuple h'
  rw [e] at e'; cases e'
  rw [d] at d'
  injection d' with d1 _
  have : its = its' := by simpa using congrArg Array.toList d1
  subst this
  exact r.inj r'
end
/-! ### another wish about exceptions -/
section
variable {X : Cx} {pins : List (Addr × Obj)} {σ : St} {H : Hp} {s : Shared} {E : Value → Shared → Prop}
end
/-! ### blocks and small statements -/
section
variable {X : Cx} {st : Stmt} {rest : List Stmt} {t u : TS} {e : Expr} {te : TE} {pos : Pos}
def tNext : TS := fun D σ H => D.nx σ H
def tSeq (t u : TS) : TS := fun D σ H => t { D with nx := u D } σ H
theorem pss_nil : PSs X [] tNext := fun _ _ σ H _ I h => wpAny_execs_nil ⟨σ, H, I, h⟩
theorem pss_cons (h1 : PS X st t) (h2 : PSs X rest u) : PSs X (st :: rest) (tSeq t u) := by
  intro pins s σ H D I h
  refine wpAny_execs_cons (thn (h1 pins s σ H { D with nx := u D } I h) fun f s1 q => ?_)
  cases f with
  | next =>
    obtain ⟨σ', H', I', q⟩ := q
    exact h2 pins s1 σ' H' D I' q
  | ret v => exact q
  | brk => exact q
  | cont => exact q
def tBreak : TS := fun D σ H => D.bk σ H
def tCont : TS := fun D σ H => D.ct σ H
/-- in a def's body nothing is shown -/
theorem Inv.quiet {pins : List (Addr × Obj)} {σ : St} {H : Hp} {s : Shared} (I : Inv X pins σ H s) : interactive X.env = false := by simp [interactive, I.ok.kind]
/-- an expression whose value is dropped -/
def tDrop (te : TE) : TS := fun D σ H => te σ H fun _ H1 => D.nx σ H1
theorem ps_expr (he : PE X e te) (hs : swapsWith e none pos.line X.env = pure false := by rfl) : PS X (.Expr e pos) (tDrop te) := by
  intro pins s σ H D I h
  exact wpAny_Expr_any (thn (he pins s σ H _ I h) fun v s1 ⟨x, H1, I1, r1, q1⟩ => ⟨σ, H1, I1, q1⟩) I.quiet hs
def tRet (te : TE) : TS := fun D σ H => te σ H D.rt
theorem ps_ret (he : PE X e te) : PS X (.Return (some e) pos) (tRet te) := by
  intro pins s σ H D I h
  exact wpAny_Return_some (thn (he pins s σ H _ I h) fun v s1 ⟨x, H1, I1, r1, q1⟩ => ⟨x, σ, H1, I1, r1, q1⟩)
def tRetN : TS := fun D _ H => D.rt .non H
def tIfS (c : TT) (t u : TS) : TS := fun D σ H => c σ H fun b H1 => if b = true then t D σ H1 else u D σ H1
theorem ps_if {c : Expr} {a b : List Stmt} {tc : TT} (hc : PT X c tc) (ha : PSs X a t) (hb : PSs X b u) : PS X (.If c a b pos) (tIfS tc t u) := by
  intro pins s σ H D I h
  refine wpAny_If (thn (hc pins s σ H _ I h) fun d s1 ⟨H1, I1, q1⟩ => ?_)
  cases d with
  | true => exact ha pins s1 σ H1 D I1 q1
  | false => exact hb pins s1 σ H1 D I1 q1
/-- code that the proof never comes to -/
def tNever : TS := fun _ _ _ => False
end
/-! ### targets -/
abbrev TG := V → St → Hp → (St → Hp → Prop) → Prop
abbrev TGs := List V → St → Hp → (St → Hp → Prop) → Prop
def PG (X : Cx) (target : Expr) (t : TG) : Prop :=
  ∀ (pins : List (Addr × Obj)) (s : Shared) (σ : St) (H : Hp) (v : V) (u : Value) (Q : St → Hp → Prop), Inv X pins σ H s → RelV v u → t v σ H Q →
    wpAny (model X.prog X.w) X.A (assign target X.env u) (fun _ s' => ∃ σ' H', Inv X pins σ' H' s' ∧ Q σ' H') X.xe s
/-- several targets, one after another -/
def PGs (X : Cx) (ts : List Expr) (t : TGs) : Prop :=
  ∀ (pins : List (Addr × Obj)) (s : Shared) (σ : St) (H : Hp) (vs : List V) (us : List Value) (Q : St → Hp → Prop), Inv X pins σ H s → Vals vs us → t vs σ H Q →
    wpAny (model X.prog X.w) X.A (assignInOrder ((assignEach ts X.env).map (·.2)) us) (fun _ s' => ∃ σ' H', Inv X pins σ' H' s' ∧ Q σ' H') X.xe s
/-- o[i] = v, by values -/
abbrev TSet := V → V → V → Hp → (Hp → Prop) → Prop
def PSet (X : Cx) (t : TSet) : Prop :=
  ∀ (pins : List (Addr × Obj)) (s : Shared) (σ : St) (H : Hp) (o i v : V) (ov iv u : Value) (Q : Hp → Prop), Inv X pins σ H s → RelV o ov → RelV i iv → RelV v u → t o i v H Q →
    wpAny (model X.prog X.w) X.A (setItem ov iv u) (fun _ s' => ∃ H', Inv X pins σ H' s' ∧ Q H') X.xe s
section
variable {X : Cx} {pos : Pos}
def gName (i : Nat) : TG := fun v σ H Q => Q (σ.set i (some v)) H
theorem pg_name {i : Nat} {x : Str} (hN : X.N.Nodup) (hi : X.N[i]? = some x) (hx : Loc X.env.scope x) (hf : X.fn x = true ∨ X.env.scope.names.lookup x = some .local := by first | exact .inl rfl | exact .inr rfl | assumption) : PG X (.Name x pos) (gName i) := by
  intro pins s σ H v u Q I r h
  exact wpAny_assign_Name (store_ok I hN hi hx r (fun s' I' => ⟨_, H, I', h⟩) hf)
def gNil : TGs := fun vs σ H Q => vs = [] ∧ Q σ H
def gCons (t : TG) (u : TGs) : TGs := fun vs σ H Q => ∃ v r, vs = v :: r ∧ t v σ H fun σ' H' => u r σ' H' Q
theorem pgs_nil : PGs X [] gNil := by
  intro pins s σ H vs us Q I r h
  obtain ⟨e, h⟩ := h
  subst e
  cases r
  exact assignInOrder_nil ⟨σ, H, I, h⟩
theorem pgs_cons {e : Expr} {es : List Expr} {t : TG} {u : TGs} (h1 : PG X e t) (h2 : PGs X es u)
    (hs : (assignEach (e :: es) X.env).map (·.2) = assign e X.env :: (assignEach es X.env).map (·.2) := by rfl) : PGs X (e :: es) (gCons t u) := by
  intro pins s σ H vs us Q I r h
  obtain ⟨v, vr, e1, h⟩ := h
  subst e1
  cases r with
  | cons r rr =>
    rw [hs]
    refine assignInOrder_cons (thn (h1 pins s σ H _ _ _ I r h) fun _ s1 ⟨σ1, H1, I1, q1⟩ => ?_)
    exact h2 pins s1 σ1 H1 _ _ Q I1 rr q1
/-- (a, b, ..) = a tuple of that length -/
def gTup (K : PySem.W.Frag) (n : Nat) (t : TGs) : TG := fun v σ H Q => ∃ a xs, v = .ref a ∧ SqT K H a xs ∧ xs.length = n ∧ t xs σ H Q
theorem pg_tup {es : List Expr} {k : Nat} {t : TGs} {n : Nat} (hc : X.calm = true) (h : PGs X es t)
    (hn : (assignEach es X.env).length = n := by rfl) (hst : (assignEach es X.env).findIdx? (·.1) = none := by rfl) : PG X (.Tuple es k pos) (gTup X.K n t) := by
  intro pins s σ H v u Q I r hw
  obtain ⟨a, xs, e1, hq, hl, hw⟩ := hw
  subst e1
  cases r
  obtain ⟨its, rv, ht, hz⟩ := I.tuple hq
  refine assign_Tuple_tuple (I.ok.hd hc) ht (by simp [hn, ← hl, rv.length]) hst fun h' hx => ?_
  have I1 : Inv X pins σ H { s with heap := h' } := I.kept (t' := s.toks) fun b o e => hx b o (Nat.ne_of_lt (Heap.lt_size e)) e
  exact h pins _ σ H xs _ Q I1 (by simpa using rv) hw
/-- o[i] = .. -/
def gSub (to ti : TE) (t : TSet) : TG := fun v σ H Q => to σ H fun o H1 => ti σ H1 fun i H2 => t o i v H2 fun H3 => Q σ H3
theorem pg_sub {o i : Expr} {to ti : TE} {t : TSet} (ho : PE X o to) (hi : PE X i ti) (hs : PSet X t)
    (ha : ∀ v, assign (.Subscript o i pos) X.env v = (do
      let ov ← holding [v] (eval o X.env)
      let iv ← holding [v, ov] (eval i X.env)
      standAt pos
      holding [v, ov, iv] (setItem ov iv v)
      release [v, ov, iv] []) := by intro _; rfl) : PG X (.Subscript o i pos) (gSub to ti t) := by
  intro pins s σ H v u Q I r h
  rw [ha]
  refine wpAny_bind (wpAny_holding (thn (ho pins s σ H _ I h) fun ov s1 ⟨x, H1, I1, r1, q1⟩ => ?_))
  refine wpAny_bind (wpAny_holding (thn (hi pins s1 σ H1 _ I1 q1) fun iv s2 ⟨y, H2, I2, r2, q2⟩ => ?_))
  refine wpAny_bind (wpAny_standAt (wpAny_bind (wpAny_holding (thn (hs pins s2 σ H2 x y v ov iv u _ I2 r1 r2 r q2) fun _ s3 ⟨H3, I3, q3⟩ => ?_))))
  exact wpAny_release ⟨σ, H3, I3, q3⟩
/-- target = value -/
def tAsg (te : TE) (g : TG) : TS := fun D σ H => te σ H fun x H1 => g x σ H1 D.nx
theorem ps_asg {tg e : Expr} {te : TE} {g : TG} (he : PE X e te) (hg : PG X tg g) (hs : swapsWithSole [tg] e pos.line X.env = pure false := by rfl) (hw : swappedStores [tg] e X.env = pure none := by rfl)
    (h1 : (assignEach [tg] X.env).map (·.2) = [assign tg X.env] := by rfl) : PS X (.Assign [tg] e pos) (tAsg te g) := by
  intro pins s σ H D I h
  refine wpAny_Assign_stores (thn (he pins s σ H _ I h) fun v s1 ⟨x, H1, I1, r1, q1⟩ => ?_) hs hw
  rw [h1]
  exact thn (hg pins s1 σ H1 x v _ I1 r1 q1) fun _ s2 q => q
/-- name = value -/
theorem ps_set {i : Nat} {x : Str} {e : Expr} {te : TE} {pos' : Pos} (hN : X.N.Nodup) (hi : X.N[i]? = some x) (hx : Loc X.env.scope x) (he : PE X e te) (hs : swapsWith e (some (.Name x pos')) pos.line X.env = pure false := by rfl) (hf : X.fn x = true ∨ X.env.scope.names.lookup x = some .local := by first | exact .inl rfl | exact .inr rfl | assumption) :
    PS X (.Assign [.Name x pos'] e pos) (tAsg te (gName i)) := by
  intro pins s σ H D I h
  refine wpAny_Assign_Name (thn (he pins s σ H _ I h) fun v s1 ⟨y, H1, I1, r1, q1⟩ => ?_) hs
  exact store_ok I1 hN hi hx r1 (fun s2 I2 => ⟨_, H1, I2, q1⟩) hf
end
/-! ### while -/
section
variable {X : Cx} {pos : Pos}
/-- the invariant W with its measure -/
def tWhile (c : TT) (tb : TS) : TS := fun D σ H => ∃ W : Nat → St → Hp → Prop, (∃ m, W m σ H) ∧ ∀ m σ H, W m σ H →
  c σ H fun b H1 => if b = true then ∃ N : St → Hp → Prop, (∀ σ' H', N σ' H' → ∃ m', m' < m ∧ W m' σ' H') ∧ tb { D with nx := N, ct := N, bk := D.nx } σ H1 else D.nx σ H1
end
/-! ### what a loop or a comprehension walks -/
/-- at turn i: it yields x (the heap may grow), or it stops -/
structure It where
  go : Nat → Hp → Prop
  yld : Nat → Hp → V → Hp → Prop
  stop : Nat → Hp → Prop
/-- the iterator's own objects may turn: they are not the frame's, not pinned, younger than the entry (or a comprehension's own) -/
def FpOk (X : Cx) (pins : List (Addr × Obj)) (H : Hp) (b : Addr) : Prop :=
  H b = none ∧ b ≠ X.env.locals ∧ b ∉ X.fs ∧ (b ∈ X.ex ∨ X.s₀.heap.objs.size ≤ b) ∧ (∀ x c, X.env.cells.lookup x = some c → c ≠ b) ∧ ∀ p ∈ X.pn ++ pins, p.1 ≠ b
theorem Inv.fpOk {X : Cx} {pins : List (Addr × Obj)} {σ : St} {H H' : Hp} {s : Shared} {b : Addr} (I : Inv X pins σ H s) (hb : s.heap.objs.size ≤ b) (hn : H' b = none) : FpOk X pins H' b := by
  refine ⟨hn, Nat.ne_of_gt (Nat.lt_of_lt_of_le I.lt hb), I.nofs hb, .inr (Nat.le_trans I.sz hb), fun x c e z => ?_, fun p hp z => ?_⟩
  · obtain ⟨v, q⟩ := I.cell x c e
    exact absurd (Nat.lt_of_lt_of_le q.lt (by rw [z]; exact hb)) (Nat.lt_irrefl _)
  · exact absurd (Nat.lt_of_lt_of_le (Heap.lt_size (I.pin p hp).1) (by rw [z]; exact hb)) (Nat.lt_irrefl _)
structure Turn (P : Program) (w : World) (K : PySem.W.Frag) (tg : Expr) (J : It) (fp : List Addr) (it : Addr) (tn : Nat → Heap → Prop) : Prop where
  mem : it ∈ fp
  obj : ∀ i h, tn i h → ∀ b ∈ fp, ∃ o, h.get? b = some o ∧ ∀ v, o.data ≠ .cell v
  keep : ∀ i h h', tn i h → (∀ b ∈ fp, ∀ o, h.get? b = some o → h'.get? b = some o) → tn i h'
  item : ∀ (X : Cx), X.prog = P → X.w = w → X.K = K → X.calm = true → ∀ (i : Nat) (pins : List (Addr × Obj)) (s : Shared) (σ : St) (H : Hp) (E : Value → Shared → Prop), Inv X pins σ H s → (∀ b ∈ fp, FpOk X pins H b) → tn i s.heap → J.go i H →
    wpAny (model P w) X.A (pyNext (.ref it)) (fun r s1 => ∃ u, r = some u ∧
      wpAny (model P w) X.A (letOwnedTupleGo tg (.ref it) u) (fun _ s2 => ∃ x H', Inv X pins σ H' s2 ∧ RelV x u ∧ J.yld i H x H' ∧ tn (i + 1) s2.heap ∧ ∀ b ∈ fp, H' b = none) E s1) E s
  done : ∀ (X : Cx), X.prog = P → X.w = w → X.K = K → X.calm = true → ∀ (i : Nat) (pins : List (Addr × Obj)) (s : Shared) (σ : St) (H : Hp) (E : Value → Shared → Prop), Inv X pins σ H s → (∀ b ∈ fp, FpOk X pins H b) → tn i s.heap → J.stop i H →
    wpAny (model P w) X.A (pyNext (.ref it)) (fun r s1 => r = none ∧ Inv X pins σ H s1) E s
  self : ∀ (A : Around) (i : Nat) (s : Shared) (Q : Value → Shared → Prop) (E : Value → Shared → Prop), tn i s.heap → Q (.ref it) s → wpAny (model P w) A (pyIter (.ref it)) Q E s
abbrev TI := St → Hp → (It → Hp → Prop) → Prop
/-- an iterator has come -/
def PIE (X : Cx) (pins : List (Addr × Obj)) (σ : St) (tg : Expr) (R : It → Hp → Prop) (itv : Value) (s2 : Shared) : Prop :=
  ∃ (it : Addr) (fp : List Addr) (tn : Nat → Heap → Prop) (J : It) (H' : Hp), itv = .ref it ∧ Inv X pins σ H' s2 ∧ Turn X.prog X.w X.K tg J fp it tn ∧ tn 0 s2.heap ∧ (∀ b ∈ fp, FpOk X pins H' b) ∧ R J H'
def PI (X : Cx) (tg iter : Expr) (wi : TI) : Prop :=
  ∀ (pins : List (Addr × Obj)) (s : Shared) (σ : St) (H : Hp) (R : It → Hp → Prop), Inv X pins σ H s → wi σ H R →
    wpAny (model X.prog X.w) X.A (eval iter X.env) (fun v s1 => wpAny (model X.prog X.w) X.A (pyIter v) (PIE X pins σ tg R) X.xe s1) X.xe s
/-- the step ahead of the store is nothing for an iterator that keeps no tuple -/
theorem go_of {M : Model} {A : Around} {E : Value → Shared → Prop} {s : Shared} {tg : Expr} {it : Addr} {u : Value} {o : Obj} {n : String} {vs : Array Value} {Q : Unit → Shared → Prop} (ho : s.heap.get? it = some o) (hc : o.cls = .type n) (hd : o.data = .fields vs)
    (hn : ["enumerate", "zip", "dict_itemiterator", "dict_reverseitemiterator", "odict_iterator", "itertools.zip_longest", "itertools.pairwise"].contains n = false) (hQ : Q () s) : wpAny M A (letOwnedTupleGo tg (.ref it) u) Q E s := by
  unfold letOwnedTupleGo
  cases tg <;> first
    | exact wpAny_pure hQ
    | (cases u <;> first
        | exact wpAny_pure hQ
        | (refine wpAny_bind (wpAny_load ho ?_)
           rw [hc, hd]
           show wpAny M A (if (["enumerate", "zip", "dict_itemiterator", "dict_reverseitemiterator", "odict_iterator", "itertools.zip_longest", "itertools.pairwise"].contains n && vs[0]? == some (rawInt _)) = true then _ else _) Q E s
           rw [if_neg (by intro h; rw [hn, Bool.false_and] at h; cases h)]
           exact wpAny_pure hQ))
/-- the list at a, as it stands at each turn (a loop may append to it) -/
def Itl (K : PySem.W.Frag) (a : Addr) : It :=
  ⟨fun i H => ∃ xs x, SqL K H a xs ∧ xs[i]? = some x, fun i H x H' => H' = H ∧ ∀ xs, SqL K H a xs → xs[i]? = some x, fun i H => ∃ xs, SqL K H a xs ∧ xs.length ≤ i⟩
def Itt (K : PySem.W.Frag) (a : Addr) : It :=
  ⟨fun i H => ∃ xs x, SqT K H a xs ∧ xs[i]? = some x, fun i H x H' => H' = H ∧ ∀ xs, SqT K H a xs → xs[i]? = some x, fun i H => ∃ xs, SqT K H a xs ∧ xs.length ≤ i⟩
/-- lo, lo + 1, .. (n of them) -/
def Itr (lo : Int) (n : Nat) : It := ⟨fun i _ => i < n, fun i H x H' => H' = H ∧ x = .int (lo + i), fun i _ => n ≤ i⟩
theorem turn_list {P : Program} {w : World} {K : PySem.W.Frag} {tg : Expr} (a it : Addr) : Turn P w K tg (Itl K a) [it] it (fun i h => h.IsListIter it a i) where
  mem := by simp
  obj := fun i h st b hb => by
    have e : b = it := by simpa using hb
    subst e
    obtain ⟨o, e, c, d⟩ := st
    exact ⟨o, e, fun v z => by rw [d] at z; cases z⟩
  keep := fun i h h' st k => st.at fun o e => k it (by simp) o e
  item := by
    intro X hP hw hK hc i pins s σ H E I hf st hg
    subst hP hw hK
    obtain ⟨xs, x, hq, hx⟩ := hg
    obtain ⟨its, rv, p, hz⟩ := I.list hq
    obtain ⟨u, hu, ru⟩ := rv.get hx
    obtain ⟨f0, f1, f2, f3, f4, f5⟩ := hf it (by simp)
    refine wpAny_pyNext_list_item st p.isList (x := u) (by simpa using hu) fun h' st' sb => ?_
    have I1 : Inv X pins σ H { s with heap := h' } := I.turned (t' := s.toks) (fun b o hb e => (sb.2 b hb).trans e) f0 f1 f3 f4 f5
    obtain ⟨o, e, c, d⟩ := id st'
    exact ⟨u, rfl, go_of (s := { s with heap := h' }) e c d (by decide) ⟨x, H, I1, ru, ⟨rfl, fun ys hy => by rw [I.list_inj hy hq]; exact hx⟩, st', fun b hb => (hf b hb).1⟩⟩
  done := by
    intro X hP hw hK hc i pins s σ H E I hf st hg
    subst hP hw hK
    obtain ⟨xs, hq, hx⟩ := hg
    obtain ⟨its, rv, p, hz⟩ := I.list hq
    obtain ⟨f0, f1, f2, f3, f4, f5⟩ := hf it (by simp)
    have hl := rv.length
    exact wpAny_pyNext_list_end (I.ok.hd hc) st p.isList (by simp; omega) fun h' eb => ⟨rfl, I.turned (t' := s.toks) (fun b o hb e => eb b o hb e) f0 f1 f3 f4 f5⟩
  self := fun _ _ _ _ _ st h => wpAny_pyIter_listiter st h
theorem turn_tuple {P : Program} {w : World} {K : PySem.W.Frag} {tg : Expr} (a it : Addr) : Turn P w K tg (Itt K a) [it] it (fun i h => h.IsTupleIter it a i) where
  mem := by simp
  obj := fun i h st b hb => by
    have e : b = it := by simpa using hb
    subst e
    obtain ⟨o, e, c, d⟩ := st
    exact ⟨o, e, fun v z => by rw [d] at z; cases z⟩
  keep := fun i h h' st k => st.at fun o e => k it (by simp) o e
  item := by
    intro X hP hw hK hc i pins s σ H E I hf st hg
    subst hP hw hK
    obtain ⟨xs, x, hq, hx⟩ := hg
    obtain ⟨its, rv, p, hz⟩ := I.tuple hq
    obtain ⟨u, hu, ru⟩ := rv.get hx
    obtain ⟨f0, f1, f2, f3, f4, f5⟩ := hf it (by simp)
    refine wpAny_pyNext_tuple_item st (show s.heap.IsTuple a its.toArray from p) (x := u) (by simpa using hu) fun h' st' sb => ?_
    have I1 : Inv X pins σ H { s with heap := h' } := I.turned (t' := s.toks) (fun b o hb e => (sb.2 b hb).trans e) f0 f1 f3 f4 f5
    obtain ⟨o, e, c, d⟩ := id st'
    exact ⟨u, rfl, go_of (s := { s with heap := h' }) e c d (by decide) ⟨x, H, I1, ru, ⟨rfl, fun ys hy => by rw [I.tuple_inj hy hq]; exact hx⟩, st', fun b hb => (hf b hb).1⟩⟩
  done := by
    intro X hP hw hK hc i pins s σ H E I hf st hg
    subst hP hw hK
    obtain ⟨xs, hq, hx⟩ := hg
    obtain ⟨its, rv, p, hz⟩ := I.tuple hq
    obtain ⟨f0, f1, f2, f3, f4, f5⟩ := hf it (by simp)
    have hl := rv.length
    exact wpAny_pyNext_tuple_end (I.ok.hd hc) st (show s.heap.IsTuple a its.toArray from p) (by simp; omega) fun h' eb => ⟨rfl, I.turned (t' := s.toks) (fun b o hb e => eb b o hb e) f0 f1 f3 f4 f5⟩
  self := fun _ _ _ _ _ st h => wpAny_pyIter_tupleiter st h
theorem turn_range {P : Program} {w : World} {K : PySem.W.Frag} {tg : Expr} (it : Addr) (lo : Int) (n : Nat) : Turn P w K tg (Itr lo n) [it] it (fun i h => IsRangeIter h it (lo + (i : Nat) * 1) ((n : Int) - (i : Nat)) 1) where
  mem := by simp
  obj := fun i h st b hb => by
    have e : b = it := by simpa using hb
    subst e
    exact ⟨_, st, fun v z => by
      have z' : Data.fields _ = Data.cell v := z
      cases z'⟩
  keep := fun i h h' st k => k it (by simp) _ st
  item := by
    intro X hP hw hK hc i pins s σ H E I hf st hg
    subst hP hw hK
    obtain ⟨f0, f1, f2, f3, f4, f5⟩ := hf it (by simp)
    have W := Walks.range (prog := X.prog) (w := X.w) (I.ok.hd hc) it lo 1 n
    refine W.item i s _ _ hg st fun v h' tk hv st' kk => ?_
    obtain ⟨t, rfl⟩ := hv
    have I1 : Inv X pins σ H { s with heap := h', toks := tk } := I.turned (fun b o hb e => kk b o (by simpa using hb) e) f0 f1 f3 f4 f5
    refine ⟨_, rfl, go_of (s := { s with heap := h', toks := tk }) (n := "range_iterator") st' rfl rfl (by decide) ⟨.int (lo + i), H, I1, ⟨t, ?_⟩, ⟨rfl, rfl⟩, st', fun b hb => (hf b hb).1⟩⟩
    rw [Int.mul_one]
  done := by
    intro X hP hw hK hc i pins s σ H E I hf st hg
    subst hP hw hK
    obtain ⟨f0, f1, f2, f3, f4, f5⟩ := hf it (by simp)
    exact wpAny_pyNext_range_end (I.ok.hd hc) st (by have : n ≤ i := hg; omega) fun h' eb => ⟨rfl, I.turned (t' := s.toks) (fun b o hb e => eb b o hb e) f0 f1 f3 f4 f5⟩
  self := fun _ _ _ _ _ st h => wpAny_pyIter_rangeiter st h
end L2
namespace L2
open PySem PySem.Spec PyProof.Rows
section
variable {X : Cx} {tg : Expr}
def iList (K : PySem.W.Frag) (tl : TE) : TI := fun σ H R => tl σ H fun x H1 => ∃ a, x = .ref a ∧ (∃ xs, SqL K H1 a xs) ∧ R (Itl K a) H1
def iTup (K : PySem.W.Frag) (tl : TE) : TI := fun σ H R => tl σ H fun x H1 => ∃ a, x = .ref a ∧ (∃ xs, SqT K H1 a xs) ∧ R (Itt K a) H1
theorem pi_list {l : Expr} {tl : TE} (hl : PE X l tl) : PI X tg l (iList X.K tl) := by
  intro pins s σ H R I h
  refine thn (hl pins s σ H _ I h) fun v s1 ⟨x, H1, I1, r1, q1⟩ => ?_
  obtain ⟨a, e, ⟨xs, hq⟩, q⟩ := q1
  subst e
  cases r1
  obtain ⟨its, rv, p, hz⟩ := I1.list hq
  refine wpAny_pyIter_list p.isList ?_
  refine ⟨s1.heap.objs.size, [s1.heap.objs.size], _, _, H1, rfl, I1.kept (t' := s1.toks) fun b o e => Heap.get?_push_of_some _ e, turn_list a _, ⟨_, Heap.get?_push_size _ rfl, rfl, rfl⟩, fun b hb => ?_, q⟩
  have e : b = s1.heap.objs.size := by simpa using hb
  subst e
  exact I1.fpOk (Nat.le_refl _) (I1.hok.fresh (Nat.le_refl _))
theorem pi_tup {l : Expr} {tl : TE} (hl : PE X l tl) : PI X tg l (iTup X.K tl) := by
  intro pins s σ H R I h
  refine thn (hl pins s σ H _ I h) fun v s1 ⟨x, H1, I1, r1, q1⟩ => ?_
  obtain ⟨a, e, ⟨xs, hq⟩, q⟩ := q1
  subst e
  cases r1
  obtain ⟨its, rv, p, hz⟩ := I1.tuple hq
  refine wpAny_pyIter_tuple (show s1.heap.IsTuple a its.toArray from p) ?_
  refine ⟨s1.heap.objs.size, [s1.heap.objs.size], _, _, H1, rfl, I1.kept (t' := s1.toks) fun b o e => Heap.get?_push_of_some _ e, turn_tuple a _, ⟨_, Heap.get?_push_size _ rfl, rfl, rfl⟩, fun b hb => ?_, q⟩
  have e : b = s1.heap.objs.size := by simpa using hb
  subst e
  exact I1.fpOk (Nat.le_refl _) (I1.hok.fresh (Nat.le_refl _))
/-- a range object just made, walked -/
theorem range_it {pins : List (Addr × Obj)} {σ : St} {H : Hp} {s : Shared} {R : It → Hp → Prop} {E : Value → Shared → Prop} {lo hi : Int} {t u v : Tok} {tk : Nat} (I : Inv X pins σ H s) (h1 : -(2 ^ 62) ≤ lo) (h2 : lo < 2 ^ 62) (h3 : -(2 ^ 62) ≤ hi) (h4 : hi < 2 ^ 62)
    (q : R (Itr lo (hi - lo).toNat) H) : wpAny (model X.prog X.w) X.A (pyIter (.ref s.heap.objs.size)) (PIE X pins σ tg R) E { s with heap := s.heap.push { cls := .type "range", data := .fields #[.int lo t, .int hi u, .int 1 v] }, toks := tk } := by
  refine wpAny_pyIter_range (IsRange.new ..) (small_one h1 h2 h3 h4) ?_
  have I1 : Inv X pins σ H { s with heap := s.heap.push { cls := .type "range", data := .fields #[.int lo t, .int hi u, .int 1 v] }, toks := tk } := I.kept fun b o e => Heap.get?_push_of_some _ e
  refine ⟨(s.heap.push { cls := .type "range", data := .fields #[.int lo t, .int hi u, .int 1 v] }).objs.size, [(s.heap.push { cls := .type "range", data := .fields #[.int lo t, .int hi u, .int 1 v] }).objs.size], _, _, H, rfl,
    I1.kept (t' := tk) fun b o e => Heap.get?_push_of_some _ e, turn_range _ lo (hi - lo).toNat, ?_, fun b hb => ?_, q⟩
  · have e1 : lo + ((0 : Nat) : Int) * 1 = lo := by simp
    have e2 : (((hi - lo).toNat : Nat) : Int) - ((0 : Nat) : Int) = Builtin.Range.rangeSize lo hi 1 := by rw [rangeSize_one]; split <;> omega
    show IsRangeIter _ _ (lo + ((0 : Nat) : Int) * 1) ((((hi - lo).toNat : Nat) : Int) - ((0 : Nat) : Int)) 1
    rw [e1, e2]
    exact Heap.get?_push_size _ rfl
  · have e : b = (s.heap.push { cls := .type "range", data := .fields #[.int lo t, .int hi u, .int 1 v] }).objs.size := by simpa using hb
    subst e
    exact I1.fpOk (Nat.le_refl _) (I1.hok.fresh (Nat.le_refl _))
def iRng1 (ta : TA) : TI := fun σ H R => ta σ H fun vs H1 => ∃ j : Int, vs = [.int j] ∧ -(2 ^ 62) ≤ j ∧ j < 2 ^ 62 ∧ R (Itr 0 j.toNat) H1
def iRng2 (ta : TA) : TI := fun σ H R => ta σ H fun vs H1 => ∃ i j : Int, vs = [.int i, .int j] ∧ (-(2 ^ 62) ≤ i ∧ i < 2 ^ 62 ∧ -(2 ^ 62) ≤ j ∧ j < 2 ^ 62) ∧ R (Itr i (j - i).toNat) H1
theorem pi_range1 {a : Expr} {ta : TA} {p pos : Pos} (hg : Gl X "range") (hm : X.mg "range" = none) (ha : PA X [a] ta) (hs : starEach [a] X.env = [(false, eval a X.env)] := by rfl) : PI X tg (.Call (.Name "range" p) [a] [] pos) (iRng1 ta) := by
  intro pins s σ H R I h
  refine Call_ (ld_blt I hg hm boot_range (PyProof.Rows.callWith_type1 (thn (ha pos pins s σ H _ I h) fun us s1 ⟨vs, H1, I1, r1, q1⟩ => ?_) hs rfl))
  obtain ⟨j, e, q1, q2, q⟩ := q1
  subst e
  cases r1 with
  | cons r rr =>
    cases rr
    obtain ⟨t, rfl⟩ := r
    exact call_range_1 (range_it I1 (by omega) (by omega) q1 q2 (by simpa using q))
/-! ### for -/
/-- W: the invariant by the turn and a measure; N: what the body is to reach -/
def tFor (wi : TI) (g : TG) (tb : TS) : TS := fun D σ H => wi σ H fun J H1 => ∃ W : Nat → Nat → St → Hp → Prop, (∃ m, W 0 m σ H1) ∧ ∀ i m σ H, W i m σ H →
  (J.stop i H ∧ D.nx σ H) ∨ (J.go i H ∧ ∃ N : St → Hp → Prop, (∀ σ' H', N σ' H' → ∃ m', m' < m ∧ W (i + 1) m' σ' H') ∧ ∀ x H', J.yld i H x H' → g x σ H' fun σ2 H2 => tb { D with nx := N, ct := N, bk := D.nx } σ2 H2)
/-- the records at fp as they stand -/
def pinsAt (fp : List Addr) (h : Heap) : List (Addr × Obj) := fp.filterMap fun b => (h.get? b).map fun o => (b, o)
theorem mem_pinsAt {fp : List Addr} {h : Heap} {b : Addr} {o : Obj} (hb : b ∈ fp) (e : h.get? b = some o) : (b, o) ∈ pinsAt fp h := List.mem_filterMap.mpr ⟨b, hb, by rw [e]; rfl⟩
theorem of_pinsAt {fp : List Addr} {h : Heap} {p : Addr × Obj} (hp : p ∈ pinsAt fp h) : p.1 ∈ fp ∧ h.get? p.1 = some p.2 := by
  obtain ⟨b, hb, e⟩ := List.mem_filterMap.mp hp
  cases q : h.get? b with
  | none => rw [q] at e; cases e
  | some o =>
    rw [q] at e
    have e' : (b, o) = p := Option.some.inj e
    subst e'
    exact ⟨hb, q⟩
theorem Inv.pinned {pins : List (Addr × Obj)} {σ : St} {H : Hp} {s : Shared} {fp : List Addr} (I : Inv X pins σ H s) (hf : ∀ b ∈ fp, FpOk X pins H b) (ho : ∀ b ∈ fp, ∃ o, s.heap.get? b = some o ∧ ∀ v, o.data ≠ .cell v) : Inv X (pins ++ pinsAt fp s.heap) σ H s :=
  I.pins_of fun p hp => (List.mem_append.mp hp).elim (fun z => I.pin p (List.mem_append_right _ z)) fun z => by
    obtain ⟨hb, e⟩ := of_pinsAt z
    obtain ⟨f0, f1, f2, _⟩ := hf p.1 hb
    obtain ⟨o, e', d⟩ := ho p.1 hb
    rw [e] at e'; cases e'
    exact ⟨e, f0, f1, f2, d⟩
theorem Inv.unpinned {pins pl : List (Addr × Obj)} {σ : St} {H : Hp} {s : Shared} (I : Inv X (pins ++ pl) σ H s) : Inv X pins σ H s := I.pins_of fun p hp => I.pin p (List.mem_append_right _ (List.mem_append_left _ hp))
theorem ps_for {iter : Expr} {body : List Stmt} {wi : TI} {g : TG} {tb : TS} {pos : Pos} (hp : PassesOwn (model X.prog X.w) X.A X.env X.xe) (hc : X.calm = true) (hi : PI X tg iter wi) (hg : PG X tg g) (hb : PSs X body tb)
    (hs : ∀ x, foldedSetIterable iter X.env x = pure x := by intro _; rfl) : PS X (.For tg iter body [] pos) (tFor wi g tb) := by
  intro pins s σ H D I h
  refine wpAny_For (thn (hi pins s σ H _ I h) fun v s1 h1 => thn h1 fun itv s2 h2 => ?_) hs
  obtain ⟨it, fp, tn, J, H2, e, I2, T, st2, f2, W, ⟨m0, w0⟩, turn⟩ := h2
  subst e
  -- what stays true of the iterator's objects through the loop
  have stat : ∀ {H' : Hp}, (∀ b ∈ fp, H' b = none) → ∀ b ∈ fp, FpOk X pins H' b := fun hn b hb => ⟨hn b hb, (f2 b hb).2⟩
  refine codeAny_forLoop_any (fun n s' => ∃ i σ' H', Inv X pins σ' H' s' ∧ tn i s'.heap ∧ (∀ b ∈ fp, H' b = none) ∧ W i n σ' H') ?_ m0 ⟨0, σ, H2, I2, st2, fun b hb => (f2 b hb).1, w0⟩
  rintro n s3 ⟨i, σ3, H3, I3, st3, fr3, w3⟩
  rcases turn i n σ3 H3 w3 with ⟨stop, qn⟩ | ⟨go, N, hN, step⟩
  · refine wpAny_passesOwn hp (thn (T.done X rfl rfl rfl hc i pins s3 σ3 H3 X.xe I3 (stat fr3) st3 stop) fun r s4 ⟨hr, I4⟩ => ?_)
    subst hr
    exact wpAny_execs_nil ⟨σ3, H3, I4, qn⟩
  · refine wpAny_passesOwn hp (thn (T.item X rfl rfl rfl hc i pins s3 σ3 H3 X.xe I3 (stat fr3) st3 go) fun r s4 ⟨u, hr, h4⟩ => ?_)
    subst hr
    refine wpAny_passesOwn hp (thn h4 fun _ s5 ⟨x, H5, I5, r5, y5, st5, fr5⟩ => ?_)
    have I5' := I5.pinned (stat fr5) (T.obj _ _ st5)
    refine wpAny_passesOwn hp (thn (hg _ s5 σ3 H5 x u _ I5' r5 (step x H5 y5)) fun _ s6 ⟨σ6, H6, I6, q6⟩ => ?_)
    refine wpAny_passesOwn hp (thn (hb _ s6 σ6 H6 _ I6 q6) fun f s7 q7 => ?_)
    have again : ∀ {σ7 : St} {H7 : Hp}, Inv X (pins ++ pinsAt fp s5.heap) σ7 H7 s7 → N σ7 H7 → ∃ m, m < n ∧ ∃ i σ' H', Inv X pins σ' H' s7 ∧ tn i s7.heap ∧ (∀ b ∈ fp, H' b = none) ∧ W i m σ' H' := fun {σ7 H7} I7 n7 => by
      obtain ⟨m', hm, w7⟩ := hN σ7 H7 n7
      refine ⟨m', hm, i + 1, σ7, H7, I7.unpinned, T.keep _ _ _ st5 fun b hb o e => (I7.pin (b, o) (List.mem_append_right _ (List.mem_append_right _ (mem_pinsAt hb e)))).1, fun b hb => ?_, w7⟩
      obtain ⟨o, e, d⟩ := T.obj _ _ st5 b hb
      exact (I7.pin (b, o) (List.mem_append_right _ (List.mem_append_right _ (mem_pinsAt hb e)))).2.1
    cases f with
    | next => obtain ⟨σ7, H7, I7, n7⟩ := q7; exact again I7 n7
    | cont => obtain ⟨σ7, H7, I7, n7⟩ := q7; exact again I7 n7
    | brk => obtain ⟨σ7, H7, I7, q7⟩ := q7; exact ⟨σ7, H7, I7.unpinned, q7⟩
    | ret v => obtain ⟨x7, σ7, H7, I7, r7, q7⟩ := q7; exact ⟨x7, σ7, H7, I7.unpinned, r7, q7⟩
end
/-! ### the forms one uses -/
/-- over a list that the body leaves as it is -/
theorem for_list {K : PySem.W.Frag} {a : Addr} {xs : List V} {g : TG} {tb : TS} {D : Ends} {σ : St} {H : Hp} (Pv : Nat → St → Hp → Prop) (h0 : Pv 0 σ H) (hl : ∀ i σ H, i ≤ xs.length → Pv i σ H → SqL K H a xs)
    (hs : ∀ i x σ H, xs[i]? = some x → Pv i σ H → g x σ H fun σ2 H2 => tb { D with nx := Pv (i + 1), ct := Pv (i + 1), bk := D.nx } σ2 H2) (hd : ∀ σ H, Pv xs.length σ H → D.nx σ H) :
    ∃ W : Nat → Nat → St → Hp → Prop, (∃ m, W 0 m σ H) ∧ ∀ i m σ H, W i m σ H →
      ((Itl K a).stop i H ∧ D.nx σ H) ∨ ((Itl K a).go i H ∧ ∃ N : St → Hp → Prop, (∀ σ' H', N σ' H' → ∃ m', m' < m ∧ W (i + 1) m' σ' H') ∧ ∀ x H', (Itl K a).yld i H x H' → g x σ H' fun σ2 H2 => tb { D with nx := N, ct := N, bk := D.nx } σ2 H2) := by
  refine ⟨fun i m σ H => m = xs.length - i ∧ i ≤ xs.length ∧ Pv i σ H, ⟨xs.length, by simp, Nat.zero_le _, h0⟩, ?_⟩
  rintro i m σ H ⟨rfl, hi, p⟩
  have q := hl i σ H hi p
  by_cases hlt : i < xs.length
  · refine .inr ⟨⟨xs, xs[i], q, by simp [hlt]⟩, Pv (i + 1), fun σ' H' p' => ⟨xs.length - (i + 1), by omega, rfl, hlt, p'⟩, fun x H' y => ?_⟩
    obtain ⟨e, y⟩ := y
    subst e
    exact hs i x σ _ (y xs q) p
  · have e : i = xs.length := by omega
    subst e
    exact .inl ⟨⟨xs, q, Nat.le_refl _⟩, hd σ H p⟩
theorem for_tup {K : PySem.W.Frag} {a : Addr} {xs : List V} {g : TG} {tb : TS} {D : Ends} {σ : St} {H : Hp} (Pv : Nat → St → Hp → Prop) (h0 : Pv 0 σ H) (hl : ∀ i σ H, i ≤ xs.length → Pv i σ H → SqT K H a xs)
    (hs : ∀ i x σ H, xs[i]? = some x → Pv i σ H → g x σ H fun σ2 H2 => tb { D with nx := Pv (i + 1), ct := Pv (i + 1), bk := D.nx } σ2 H2) (hd : ∀ σ H, Pv xs.length σ H → D.nx σ H) :
    ∃ W : Nat → Nat → St → Hp → Prop, (∃ m, W 0 m σ H) ∧ ∀ i m σ H, W i m σ H →
      ((Itt K a).stop i H ∧ D.nx σ H) ∨ ((Itt K a).go i H ∧ ∃ N : St → Hp → Prop, (∀ σ' H', N σ' H' → ∃ m', m' < m ∧ W (i + 1) m' σ' H') ∧ ∀ x H', (Itt K a).yld i H x H' → g x σ H' fun σ2 H2 => tb { D with nx := N, ct := N, bk := D.nx } σ2 H2) := by
  refine ⟨fun i m σ H => m = xs.length - i ∧ i ≤ xs.length ∧ Pv i σ H, ⟨xs.length, by simp, Nat.zero_le _, h0⟩, ?_⟩
  rintro i m σ H ⟨rfl, hi, p⟩
  have q := hl i σ H hi p
  by_cases hlt : i < xs.length
  · refine .inr ⟨⟨xs, xs[i], q, by simp [hlt]⟩, Pv (i + 1), fun σ' H' p' => ⟨xs.length - (i + 1), by omega, rfl, hlt, p'⟩, fun x H' y => ?_⟩
    obtain ⟨e, y⟩ := y
    subst e
    exact hs i x σ _ (y xs q) p
  · have e : i = xs.length := by omega
    subst e
    exact .inl ⟨⟨xs, q, Nat.le_refl _⟩, hd σ H p⟩
theorem for_range {lo : Int} {n : Nat} {g : TG} {tb : TS} {D : Ends} {σ : St} {H : Hp} (Pv : Nat → St → Hp → Prop) (h0 : Pv 0 σ H)
    (hs : ∀ i σ H, i < n → Pv i σ H → g (.int (lo + i)) σ H fun σ2 H2 => tb { D with nx := Pv (i + 1), ct := Pv (i + 1), bk := D.nx } σ2 H2) (hd : ∀ σ H, Pv n σ H → D.nx σ H) :
    ∃ W : Nat → Nat → St → Hp → Prop, (∃ m, W 0 m σ H) ∧ ∀ i m σ H, W i m σ H →
      ((Itr lo n).stop i H ∧ D.nx σ H) ∨ ((Itr lo n).go i H ∧ ∃ N : St → Hp → Prop, (∀ σ' H', N σ' H' → ∃ m', m' < m ∧ W (i + 1) m' σ' H') ∧ ∀ x H', (Itr lo n).yld i H x H' → g x σ H' fun σ2 H2 => tb { D with nx := N, ct := N, bk := D.nx } σ2 H2) := by
  refine ⟨fun i m σ H => m = n - i ∧ i ≤ n ∧ Pv i σ H, ⟨n, by simp, Nat.zero_le _, h0⟩, ?_⟩
  rintro i m σ H ⟨rfl, hi, p⟩
  by_cases hlt : i < n
  · refine .inr ⟨hlt, Pv (i + 1), fun σ' H' p' => ⟨n - (i + 1), by omega, rfl, hlt, p'⟩, fun x H' y => ?_⟩
    obtain ⟨e, y⟩ := y
    subst e y
    exact hs i σ _ hlt p
  · have e : i = n := by omega
    subst e
    exact .inl ⟨Nat.le_refl _, hd σ H p⟩
end L2
namespace L2
open PySem PySem.Spec PyProof.Rows
abbrev R2 := V → V → Hp → VK → Prop
/-- a two-place operation on values: f is binaryOp op, inplaceOp op or compareOp op -/
def OpR (X : Cx) (f : Value → Value → Sem Value) (r : R2) : Prop :=
  ∀ (pins : List (Addr × Obj)) (s : Shared) (σ : St) (H : Hp) (x y : V) (v u : Value) (Q : VK), Inv X pins σ H s → RelV x v → RelV y u → r x y H Q →
    wpAny (model X.prog X.w) X.A (f v u) (EP X pins σ Q) X.xe s
/-- a one-place operation -/
def UnR (X : Cx) (f : Value → Sem Value) (r : V → Hp → VK → Prop) : Prop :=
  ∀ (pins : List (Addr × Obj)) (s : Shared) (σ : St) (H : Hp) (x : V) (v : Value) (Q : VK), Inv X pins σ H s → RelV x v → r x H Q →
    wpAny (model X.prog X.w) X.A (f v) (EP X pins σ Q) X.xe s
/-- a call of a value that is known (a builtin, a type) with values -/
def CallR (X : Cx) (f : Value) (r : List V → Hp → VK → Prop) : Prop :=
  ∀ (pins : List (Addr × Obj)) (s : Shared) (σ : St) (H : Hp) (xs : List V) (us : List Value) (Q : VK), Inv X pins σ H s → Vals xs us → r xs H Q →
    wpAny (model X.prog X.w) X.A (call f us) (EP X pins σ Q) X.xe s
/-- a value's truth -/
def TruR (X : Cx) (r : V → Hp → (Bool → Hp → Prop) → Prop) : Prop :=
  ∀ (pins : List (Addr × Obj)) (s : Shared) (σ : St) (H : Hp) (x : V) (v : Value) (Q : Bool → Hp → Prop), Inv X pins σ H s → RelV x v → r x H Q →
    wpAny (model X.prog X.w) X.A (truthy v) (TP X pins σ Q) X.xe s
def tOp (r : R2) (ta tb : TE) : TE := fun σ H Q => ta σ H fun x H1 => tb σ H1 fun y H2 => r x y H2 Q
def tUn (r : V → Hp → VK → Prop) (ta : TE) : TE := fun σ H Q => ta σ H fun x H1 => r x H1 Q
/-- ints in, under C, and a value out -/
def rI (C : Int → Int → Prop) (g : Int → Int → V) : R2 := fun x y H Q => ∃ i j, x = .int i ∧ y = .int j ∧ C i j ∧ Q (g i j) H
def rI0 (g : Int → Int → V) : R2 := fun x y H Q => ∃ i j, x = .int i ∧ y = .int j ∧ Q (g i j) H
def rU (g : Int → V) : V → Hp → VK → Prop := fun x H Q => ∃ i, x = .int i ∧ Q (g i) H
section
variable {X : Cx} {a b c : Expr} {ta tb tc : TE} {pos : Pos}
theorem binT (ha : PE X a ta) (hb : PE X b tb) {pins : List (Addr × Obj)} {s : Shared} {σ : St} {H : Hp} {R : V → V → Hp → Prop} (I : Inv X pins σ H s)
    (h : ta σ H fun x H1 => tb σ H1 fun y H2 => R x y H2) {Q : Value → Shared → Prop} {f : Value → Value → Sem Value}
    (hf : ∀ v u s2 x y H2, Inv X pins σ H2 s2 → RelV x v → RelV y u → R x y H2 → wpAny (model X.prog X.w) X.A (f v u) Q X.xe s2) :
    wpAny (model X.prog X.w) X.A (eval a X.env) (fun v s₁ => wpAny (model X.prog X.w) X.A (eval b X.env) (fun u s₂ => wpAny (model X.prog X.w) X.A (f v u) Q X.xe s₂) X.xe s₁) X.xe s := by
  refine thn (ha pins s σ H _ I h) fun v s1 ⟨x, H1, I1, r1, q1⟩ => ?_
  refine thn (hb pins s1 σ H1 _ I1 q1) fun u s2 ⟨y, H2, I2, r2, q2⟩ => ?_
  exact hf v u s2 x y H2 I2 r1 r2 q2
theorem pe_op {op : Operator} {r : R2} (ho : OpR X (binaryOp op) r) (ha : PE X a ta) (hb : PE X b tb) : PE X (.BinOp a op b pos) (tOp r ta tb) := by
  intro pins s σ H Q I h
  exact wpAny_BinOp (binT ha hb I h fun v u s2 x y H2 I2 rx ry q => ho pins s2 σ H2 x y v u Q I2 rx ry q)
theorem pe_un {op : UnaryOp} {r : V → Hp → VK → Prop} (ho : UnR X (unaryOp op) r) (ha : PE X a ta) : PE X (.UnaryOp op a pos) (tUn r ta) := by
  intro pins s σ H Q I h
  exact UnaryOp_ (thn (ha pins s σ H _ I h) fun v s1 ⟨x, H1, I1, r1, q1⟩ => ho pins s1 σ H1 x v Q I1 r1 q1)
/-! ### ints -/
theorem opI {f : Value → Value → Sem Value} {C : Int → Int → Prop} {g : Int → Int → Int}
    (rule : ∀ (i j : Int) (t u : Tok) (s : Shared) (Q : Value → Shared → Prop) (E : Value → Shared → Prop), C i j → Q (.int (g i j) s.toks) { s with toks := s.toks + 1 } → wpAny (model X.prog X.w) X.A (f (.int i t) (.int j u)) Q E s) :
    OpR X f (rI C fun i j => .int (g i j)) := by
  intro pins s σ H x y v u Q I rx ry h
  obtain ⟨i, j, rfl, rfl, hc, q⟩ := h
  obtain ⟨t, rfl⟩ := rx
  obtain ⟨t', rfl⟩ := ry
  exact rule i j t t' s _ _ hc ⟨.int (g i j), H, I.tok _, ⟨_, rfl⟩, q⟩
theorem opI0 {f : Value → Value → Sem Value} {g : Int → Int → Int}
    (rule : ∀ (i j : Int) (t u : Tok) (s : Shared) (Q : Value → Shared → Prop) (E : Value → Shared → Prop), Q (.int (g i j) s.toks) { s with toks := s.toks + 1 } → wpAny (model X.prog X.w) X.A (f (.int i t) (.int j u)) Q E s) :
    OpR X f (rI0 fun i j => .int (g i j)) := by
  intro pins s σ H x y v u Q I rx ry h
  obtain ⟨i, j, rfl, rfl, q⟩ := h
  obtain ⟨t, rfl⟩ := rx
  obtain ⟨t', rfl⟩ := ry
  exact rule i j t t' s _ _ ⟨.int (g i j), H, I.tok _, ⟨_, rfl⟩, q⟩
theorem opB0 {f : Value → Value → Sem Value} {g : Int → Int → Bool}
    (rule : ∀ (i j : Int) (t u : Tok) (s : Shared) (Q : Value → Shared → Prop) (E : Value → Shared → Prop), Q (.bool (g i j)) s → wpAny (model X.prog X.w) X.A (f (.int i t) (.int j u)) Q E s) :
    OpR X f (rI0 fun i j => .bl (g i j)) := by
  intro pins s σ H x y v u Q I rx ry h
  obtain ⟨i, j, rfl, rfl, q⟩ := h
  obtain ⟨t, rfl⟩ := rx
  obtain ⟨t', rfl⟩ := ry
  exact rule i j t t' s _ _ ⟨.bl (g i j), H, I, rfl, q⟩
def CDiv (i j : Int) : Prop := 0 < j ∧ j < 1073741824
def CPow (i j : Int) : Prop := 0 ≤ j ∧ j ≤ 1000000 ∧ i.natAbs < 2 ^ 64
def CMul (i j : Int) : Prop := (-(2 ^ 64) < i ∧ i < 2 ^ 64) ∨ (-(2 ^ 64) < j ∧ j < 2 ^ 64)
theorem CMul.ok {i j : Int} (h : CMul i j) : IntMulOk i j := by
  rcases h with ⟨h1, h2⟩ | ⟨h1, h2⟩
  · exact .of_left (intBits_le_64 h1 h2)
  · exact .of_right (intBits_le_64 h1 h2)
theorem op_add : OpR X (binaryOp .Add) (rI0 fun i j => .int (i + j)) := opI0 fun _ _ _ _ _ _ _ q => add_int q
theorem op_sub : OpR X (binaryOp .Sub) (rI0 fun i j => .int (i - j)) := opI0 fun _ _ _ _ _ _ _ q => sub_int q
theorem op_mul : OpR X (binaryOp .Mult) (rI CMul fun i j => .int (i * j)) := opI fun _ _ _ _ _ _ _ hc q => mul_int q hc.ok
/-- // by a positive divisor -/
theorem op_fdiv : OpR X (binaryOp .FloorDiv) (rI CDiv fun i j => .int (i / j)) := opI fun i j _ _ _ _ _ hc q => by
  have h1 : (0 : Int) < j := hc.1
  have h2 : j < 1073741824 := hc.2
  exact floordiv_int (by omega) (by rw [Int.fdiv_eq_ediv_of_nonneg i (by omega)]; exact q) (.inl (PyProof.noPylong_small (by omega)))
/-- % by a positive divisor of any size -/
theorem op_mod : OpR X (binaryOp .Mod) (rI (fun _ j => 0 < j) fun i j => .int (i % j)) := opI fun i j _ _ _ _ _ hc q => by
  have h1 : (0 : Int) < j := hc
  exact mod_int' (by omega) (by rw [Int.fmod_eq_emod_of_nonneg i (by omega)]; exact q)
theorem op_pow : OpR X (binaryOp .Pow) (rI CPow fun i j => .int (i ^ j.toNat)) := opI fun _ _ _ _ _ _ _ hc q => pow_int_small hc.1 hc.2.1 hc.2.2 q
theorem unI {f : Value → Sem Value} {g : Int → Int}
    (rule : ∀ (i : Int) (t : Tok) (s : Shared) (Q : Value → Shared → Prop) (E : Value → Shared → Prop), Q (.int (g i) s.toks) { s with toks := s.toks + 1 } → wpAny (model X.prog X.w) X.A (f (.int i t)) Q E s) :
    UnR X f (rU fun i => .int (g i)) := by
  intro pins s σ H x v Q I rx h
  obtain ⟨i, rfl, q⟩ := h
  obtain ⟨t, rfl⟩ := rx
  exact rule i t s _ _ ⟨.int (g i), H, I.tok _, ⟨_, rfl⟩, q⟩
theorem un_neg : UnR X (unaryOp .USub) (rU fun i => .int (-i)) := unI fun _ _ _ _ _ q => neg_int q
/-! ### bools among ints: n += (a < b) -/
end
/-! ### comparisons -/
/-- the scalars that == tells apart as data does -/
def scal : V → V → Bool
  | .non, .non => true | .non, .int _ => true | .int _, .non => true | .non, .bl _ => true | .bl _, .non => true | .non, .str _ => true | .str _, .non => true
  | .int _, .int _ => true | .bl _, .bl _ => true | .str _, .str _ => true | .byt _, .byt _ => true
  | .int _, .str _ => true | .str _, .int _ => true | .bl _, .str _ => true | .str _, .bl _ => true
  | _, _ => false
def rEq : R2 := fun x y H Q => scal x y = true ∧ Q (.bl (decide (x = y))) H
def rNe : R2 := fun x y H Q => scal x y = true ∧ Q (.bl (!decide (x = y))) H
theorem dec_int {i j : Int} : decide (V.int i = V.int j) = (i == j) := by
  rw [Bool.eq_iff_iff]
  simp
theorem dec_bl {i j : Bool} : decide (V.bl i = V.bl j) = (i == j) := by
  rw [Bool.eq_iff_iff]
  simp
theorem dec_str {i j : Str} : decide (V.str i = V.str j) = (i == j) := by
  rw [Bool.eq_iff_iff]
  simp
theorem dec_byt {i j : Array UInt8} : decide (V.byt i = V.byt j) = (i.toList == j.toList) := by
  rw [Bool.eq_iff_iff]
  cases i
  cases j
  simp
section
variable {X : Cx} {a b c : Expr} {ta tb tc : TE} {pos : Pos}
theorem fin_bl {pins : List (Addr × Obj)} {σ : St} {H : Hp} {s : Shared} {Q : VK} {k k' : Bool} (I : Inv X pins σ H s) (q : Q (.bl k) H) (e : k = k') : EP X pins σ Q (.bool k') s := by
  subst e
  exact ⟨.bl k, H, I, rfl, q⟩
theorem op_eq : OpR X (compareOp .Eq) rEq := by
  intro pins s σ H x y v u Q I rx ry h
  obtain ⟨hs, q⟩ := h
  cases x with
  | non =>
    cases rx
    cases y with
    | non => cases ry; exact PySem.EqNone.eq_none_none (fin_bl I q (by simp))
    | bl j => cases ry; exact PySem.EqNone.eq_none_bool (fin_bl I q (by simp))
    | int j => obtain ⟨t', rfl⟩ := ry; exact PySem.EqNone.eq_none_int (fin_bl I q (by simp))
    | str j => obtain ⟨t', rfl⟩ := ry; exact PySem.EqNone.eq_none_str (fin_bl I q (by simp))
    | _ => exact absurd (show false = true from hs) Bool.false_ne_true
  | bl i =>
    cases rx
    cases y with
    | non => cases ry; exact PySem.EqNone.eq_bool_none (fin_bl I q (by simp))
    | bl j => cases ry; exact eq_bool (fin_bl I q dec_bl)
    | str j => obtain ⟨t', rfl⟩ := ry; exact PySem.EqMixed.eq_bool_str (fin_bl I q (by simp))
    | _ => exact absurd (show false = true from hs) Bool.false_ne_true
  | int i =>
    obtain ⟨t, rfl⟩ := rx
    cases y with
    | non => cases ry; exact PySem.EqNone.eq_int_none (fin_bl I q (by simp))
    | int j => obtain ⟨t', rfl⟩ := ry; exact eq_int (fin_bl I q dec_int)
    | str j => obtain ⟨t', rfl⟩ := ry; exact PySem.EqMixed.eq_int_str (fin_bl I q (by simp))
    | _ => exact absurd (show false = true from hs) Bool.false_ne_true
  | str i =>
    obtain ⟨t, rfl⟩ := rx
    cases y with
    | non => cases ry; exact PySem.EqNone.eq_str_none (fin_bl I q (by simp))
    | bl j => cases ry; exact PySem.EqMixed.eq_str_bool (fin_bl I q (by simp))
    | int j => obtain ⟨t', rfl⟩ := ry; exact PySem.EqMixed.eq_str_int (fin_bl I q (by simp))
    | str j => obtain ⟨t', rfl⟩ := ry; exact eq_str (fin_bl I q dec_str)
    | _ => exact absurd (show false = true from hs) Bool.false_ne_true
  | byt i =>
    obtain ⟨t, rfl⟩ := rx
    cases y with
    | byt j => obtain ⟨t', rfl⟩ := ry; exact PySem.W.eq_bytes (fin_bl I q dec_byt)
    | _ => exact absurd (show false = true from hs) Bool.false_ne_true
  | _ => cases y <;> exact absurd (show false = true from hs) Bool.false_ne_true
theorem op_ne : OpR X (compareOp .NotEq) rNe := by
  intro pins s σ H x y v u Q I rx ry h
  obtain ⟨hs, q⟩ := h
  cases x with
  | non =>
    cases rx
    cases y with
    | non => cases ry; exact PySem.EqNone.ne_none_none (fin_bl I q (by simp))
    | bl j => cases ry; exact PySem.EqNone.ne_none_bool (fin_bl I q (by simp))
    | int j => obtain ⟨t', rfl⟩ := ry; exact PySem.EqNone.ne_none_int (fin_bl I q (by simp))
    | str j => obtain ⟨t', rfl⟩ := ry; exact PySem.EqNone.ne_none_str (fin_bl I q (by simp))
    | _ => exact absurd (show false = true from hs) Bool.false_ne_true
  | bl i =>
    cases rx
    cases y with
    | non => cases ry; exact PySem.EqNone.ne_bool_none (fin_bl I q (by simp))
    | bl j => cases ry; exact ne_bool (fin_bl I q (congrArg not dec_bl))
    | str j => obtain ⟨t', rfl⟩ := ry; exact PySem.EqMixed.ne_bool_str (fin_bl I q (by simp))
    | _ => exact absurd (show false = true from hs) Bool.false_ne_true
  | int i =>
    obtain ⟨t, rfl⟩ := rx
    cases y with
    | non => cases ry; exact PySem.EqNone.ne_int_none (fin_bl I q (by simp))
    | int j => obtain ⟨t', rfl⟩ := ry; exact ne_int (fin_bl I q (congrArg not dec_int))
    | str j => obtain ⟨t', rfl⟩ := ry; exact PySem.EqMixed.ne_int_str (fin_bl I q (by simp))
    | _ => exact absurd (show false = true from hs) Bool.false_ne_true
  | str i =>
    obtain ⟨t, rfl⟩ := rx
    cases y with
    | non => cases ry; exact PySem.EqNone.ne_str_none (fin_bl I q (by simp))
    | bl j => cases ry; exact PySem.EqMixed.ne_str_bool (fin_bl I q (by simp))
    | int j => obtain ⟨t', rfl⟩ := ry; exact PySem.EqMixed.ne_str_int (fin_bl I q (by simp))
    | str j => obtain ⟨t', rfl⟩ := ry; exact ne_str (fin_bl I q (congrArg not dec_str))
    | _ => exact absurd (show false = true from hs) Bool.false_ne_true
  | byt i =>
    obtain ⟨t, rfl⟩ := rx
    cases y with
    | byt j => obtain ⟨t', rfl⟩ := ry; exact PySem.W.ne_bytes (fin_bl I q (congrArg not dec_byt))
    | _ => exact absurd (show false = true from hs) Bool.false_ne_true
  | _ => cases y <;> exact absurd (show false = true from hs) Bool.false_ne_true
theorem op_lt : OpR X (compareOp .Lt) (rI0 fun i j => .bl (decide (i < j))) := opB0 fun _ _ _ _ _ _ _ q => lt_int q
theorem op_le : OpR X (compareOp .LtE) (rI0 fun i j => .bl (decide (i ≤ j))) := opB0 fun _ _ _ _ _ _ _ q => le_int q
theorem op_gt : OpR X (compareOp .Gt) (rI0 fun i j => .bl (decide (j < i))) := opB0 fun _ _ _ _ _ _ _ q => gt_int q
theorem op_ge : OpR X (compareOp .GtE) (rI0 fun i j => .bl (decide (j ≤ i))) := opB0 fun _ _ _ _ _ _ _ q => ge_int q
/-- the one string within the other -/
theorem op_in_str : OpR X (compareOp .In) (fun x y H Q => ∃ i j, x = .str i ∧ y = .str j ∧ Q (.bl (!(Builtin.Str.occurrences j i 0 j.length 1).isEmpty)) H) := by
  intro pins s σ H x y v u Q I rx ry h
  obtain ⟨i, j, rfl, rfl, q⟩ := h
  obtain ⟨t, rfl⟩ := rx
  obtain ⟨t', rfl⟩ := ry
  exact in_str (fin_bl I q rfl)
/-- is None, is not None: the right side a value none -/
theorem op_isN : OpR X (compareOp .Is) (fun x y H Q => y = .non ∧ Q (.bl (decide (x = .non))) H) := by
  intro pins s σ H x y v u Q I rx ry h
  obtain ⟨rfl, q⟩ := h
  cases ry
  refine is_none_gen (fin_bl I q ?_)
  cases x <;> first
    | (cases rx; rfl)
    | (obtain ⟨t, rfl⟩ := rx; rfl)
theorem op_notN : OpR X (compareOp .IsNot) (fun x y H Q => y = .non ∧ Q (.bl (!decide (x = .non))) H) := by
  intro pins s σ H x y v u Q I rx ry h
  obtain ⟨rfl, q⟩ := h
  cases ry
  refine isnot_none_gen (fin_bl I q ?_)
  cases x <;> first
    | (cases rx; rfl)
    | (obtain ⟨t, rfl⟩ := rx; rfl)
theorem op_notin_str : OpR X (compareOp .NotIn) (fun x y H Q => ∃ i j, x = .str i ∧ y = .str j ∧ Q (.bl (!(!(Builtin.Str.occurrences j i 0 j.length 1).isEmpty))) H) := by
  intro pins s σ H x y v u Q I rx ry h
  obtain ⟨i, j, rfl, rfl, q⟩ := h
  obtain ⟨t, rfl⟩ := rx
  obtain ⟨t', rfl⟩ := ry
  exact notIn_str (fin_bl I q rfl)
/-- two rules for one operation: by cases -/
theorem OpR.or {f : Value → Value → Sem Value} {r r' : R2} (h : OpR X f r) (h' : OpR X f r') : OpR X f (fun x y H Q => r x y H Q ∨ r' x y H Q) := by
  intro pins s σ H x y v u Q I rx ry q
  rcases q with q | q
  · exact h pins s σ H x y v u Q I rx ry q
  · exact h' pins s σ H x y v u Q I rx ry q
/-- a comparison as a value; hm: nomark b, or (for in, not in) by with_unfolding_all rfl -/
theorem pe_cmpR {op : CmpOp} {r : R2} (ho : OpR X (compareOp op) r) (ha : PE X a ta) (hb : PE X b tb) (hm : behindInMarks op b = false) : PE X (.Compare a [op] [b] pos) (tOp r ta tb) := by
  intro pins s σ H Q I h
  exact wpAny_Compare1 (binT ha hb I h fun v u s2 x y H2 I2 rx ry q => ho pins s2 σ H2 x y v u Q I2 rx ry q) hm
/-- a reading of a value as a test -/
def tTest (t : TE) : TT := fun σ H Q => t σ H fun x H' => ∃ k, x = .bl k ∧ Q k H'
theorem pt_cmpR {op : CmpOp} {r : R2} (ho : OpR X (compareOp op) r) (ha : PE X a ta) (hb : PE X b tb) (hm : behindInMarks op b = false) : PT X (.Compare a [op] [b] pos) (tTest (tOp r ta tb)) := by
  intro pins s σ H Q I h
  refine wpAny_isTrue_Compare1 (thn (ha pins s σ H _ I h) fun v s1 ⟨x, H1, I1, r1, q1⟩ => thn (hb pins s1 σ H1 _ I1 q1) fun u s2 ⟨y, H2, I2, r2, q2⟩ =>
    thn (ho pins s2 σ H2 x y v u _ I2 r1 r2 q2) fun c s3 ⟨z, H3, I3, r3, k, e, q3⟩ => ?_) hm
  subst e
  cases r3
  exact wpAny_truthy_bool ⟨H3, I3, q3⟩
/-- a op1 b op2 c -/
def tChain (r r' : R2) (ta tb tc : TE) : TE := fun σ H Q => ta σ H fun x H1 => tb σ H1 fun y H2 => r x y H2 fun z H3 => ∃ k, z = .bl k ∧
  (if k = true then tc σ H3 fun w' H4 => r' y w' H4 Q else Q (.bl false) H3)
/-! ### truth -/
/-- a value's truth by the abstract heap -/
def TruV (K : PySem.W.Frag) (x : V) (H : Hp) (k : Bool) : Prop :=
  match x with
  | .non => k = false
  | .bl b => k = b
  | .int i => k = (i != 0)
  | .str y => y.length ≤ sizeLine ∧ k = ((y.length : Int) != 0)
  | .byt y => y.size ≤ sizeLine ∧ k = ((y.size : Int) != 0)
  | .ref p => (∃ xs, SqL K H p xs ∧ k = !xs.isEmpty) ∨ (∃ xs, SqT K H p xs ∧ k = !xs.isEmpty) ∨ ∃ kvs, H p = some (.dK kvs) ∧ k = !kvs.isEmpty
  | _ => False
theorem isEmpty_kv {κ : Type} {kvs : List (κ × V)} {vs : List (κ × Value)} (r : KV kvs vs) : (!vs.isEmpty) = !kvs.isEmpty := by
  cases r <;> rfl
theorem isEmpty_of {xs : List V} {its : List Value} (r : Vals xs its) : (!its.toArray.isEmpty) = !xs.isEmpty := by
  cases r <;> simp
theorem line63 : (sizeLine : Nat) < 2 ^ 63 := by rw [sizeLine_eq]; decide
theorem tru_ok : TruR X (fun x H Q => ∃ k, TruV X.K x H k ∧ Q k H) := by
  intro pins s σ H x v Q I rx h
  obtain ⟨k, e, q⟩ := h
  have hl := line63
  have hs : sizeLine = 16777216 := sizeLine_eq
  cases x with
  | non =>
    cases rx
    have e' : k = false := e
    subst e'
    exact truthy_none ⟨H, I, q⟩
  | bl b =>
    cases rx
    have e' : k = b := e
    subst e'
    exact wpAny_truthy_bool ⟨H, I, q⟩
  | int i =>
    obtain ⟨t, rfl⟩ := rx
    have e' : k = (i != 0) := e
    subst e'
    exact PySem.P.truthy_int ⟨H, I, q⟩
  | str y =>
    obtain ⟨t, rfl⟩ := rx
    obtain ⟨hy, e'⟩ : y.length ≤ sizeLine ∧ k = ((y.length : Int) != 0) := e
    subst e'
    exact PySem.P.truthy_str (by omega) ⟨H, I.tok _, q⟩
  | byt y =>
    obtain ⟨t, rfl⟩ := rx
    obtain ⟨hy, e'⟩ : y.size ≤ sizeLine ∧ k = ((y.size : Int) != 0) := e
    subst e'
    exact PySem.W.truthy_bytes (by omega) ⟨H, I.tok _, q⟩
  | ref p =>
    cases rx
    have e' : (∃ xs, SqL X.K H p xs ∧ k = !xs.isEmpty) ∨ (∃ xs, SqT X.K H p xs ∧ k = !xs.isEmpty) ∨ ∃ kvs, H p = some (.dK kvs) ∧ k = !kvs.isEmpty := e
    rcases e' with ⟨xs, hx, e'⟩ | ⟨xs, hx, e'⟩ | ⟨kvs, hx, e'⟩
    · subst e'
      obtain ⟨its, r, pl, hz⟩ := I.list hx
      have hlen := r.length
      exact wpAny_truthy_list pl.isList (by simp only [List.size_toArray]; omega) ⟨H, I.tok _, by rw [isEmpty_of r]; exact q⟩
    · subst e'
      obtain ⟨its, r, pl, hz⟩ := I.tuple hx
      have hlen := r.length
      exact truthy_tuple pl (by simp only [List.size_toArray]; omega) ⟨H, I.tok _, by rw [isEmpty_of r]; exact q⟩
    · subst e'
      obtain ⟨hz, hS, vs, r, m⟩ : kvs.length ≤ sizeLine ∧ (p == sysModules) = false ∧ ∃ vs, KV kvs vs ∧ s.heap.DictOf (mixKind X.prog X.w) p vs := I.hok p _ hx
      have hlen : kvs.length = vs.length := Paired.length r
      exact wpAny_truthy_dict hS m (by omega) ⟨H, I.tok _, by rw [isEmpty_kv r]; exact q⟩
  | _ => exact (show False from e).elim
/-! ### strs and bytes -/
theorem op_add_str : OpR X (binaryOp .Add) (fun x y H Q => ∃ i j, x = .str i ∧ y = .str j ∧ i.length + j.length ≤ sizeLine ∧ Q (.str (i ++ j)) H) := by
  intro pins s σ H x y v u Q I rx ry h
  obtain ⟨i, j, rfl, rfl, hz, q⟩ := h
  obtain ⟨t, rfl⟩ := rx
  obtain ⟨t', rfl⟩ := ry
  exact add_str (fun t' tk => ⟨.str (i ++ j), H, I.tok _, ⟨_, rfl⟩, q⟩) hz
/-! ### scalar builtins, by CallR -/
theorem vals1 {x : V} {us : List Value} (r : Vals [x] us) : ∃ u, us = [u] ∧ RelV x u := by
  cases r with
  | cons r1 r2 => cases r2; exact ⟨_, rfl, r1⟩
theorem vals2 {x y : V} {us : List Value} (r : Vals [x, y] us) : ∃ u w', us = [u, w'] ∧ RelV x u ∧ RelV y w' := by
  cases r with
  | cons r1 r2 =>
    cases r2 with
    | cons r3 r4 => cases r4; exact ⟨_, _, rfl, r1, r3⟩
theorem call_abs : CallR X (.builtin "abs") (fun xs H Q => ∃ i, xs = [.int i] ∧ Q (.int (if i < 0 then -i else i)) H) := by
  intro pins s σ H xs us Q I r h
  obtain ⟨i, rfl, q⟩ := h
  obtain ⟨u, rfl, t, rfl⟩ := vals1 r
  exact call_abs_int fun u tk => ⟨.int (if i < 0 then -i else i), H, I.tok _, ⟨_, rfl⟩, q⟩
theorem call_max2 (hc : X.calm = true) : CallR X (.builtin "max") (fun xs H Q => ∃ i j, xs = [.int i, .int j] ∧ Q (.int (if j > i then j else i)) H) := by
  intro pins s σ H xs us Q I r h
  obtain ⟨i, j, rfl, q⟩ := h
  obtain ⟨u, w', rfl, ⟨t, rfl⟩, ⟨t', rfl⟩⟩ := vals2 r
  refine max_two_ints (I.ok.hd hc) fun h' tk k => ⟨_, H, I.kept k, ?_, q⟩
  by_cases hj : j > i
  · rw [if_pos hj, if_pos hj]; exact ⟨_, rfl⟩
  · rw [if_neg hj, if_neg hj]; exact ⟨_, rfl⟩
theorem call_min2 (hc : X.calm = true) : CallR X (.builtin "min") (fun xs H Q => ∃ i j, xs = [.int i, .int j] ∧ Q (.int (if j < i then j else i)) H) := by
  intro pins s σ H xs us Q I r h
  obtain ⟨i, j, rfl, q⟩ := h
  obtain ⟨u, w', rfl, ⟨t, rfl⟩, ⟨t', rfl⟩⟩ := vals2 r
  refine min_two_ints (I.ok.hd hc) fun h' tk k => ⟨_, H, I.kept k, ?_, q⟩
  by_cases hj : j < i
  · rw [if_pos hj, if_pos hj]; exact ⟨_, rfl⟩
  · rw [if_neg hj, if_neg hj]; exact ⟨_, rfl⟩
theorem call_int1 : CallR X (.type "int") (fun xs H Q => (∃ i, xs = [.int i] ∧ Q (.int i) H) ∨ ∃ k, xs = [.bl k] ∧ Q (.int (if k then 1 else 0)) H) := by
  intro pins s σ H xs us Q I r h
  rcases h with ⟨i, rfl, q⟩ | ⟨k, rfl, q⟩
  · obtain ⟨u, rfl, t, rfl⟩ := vals1 r
    exact call_int_int ⟨.int i, H, I, ⟨_, rfl⟩, q⟩
  · obtain ⟨u, rfl, r1⟩ := vals1 r
    cases r1
    exact call_int_bool ⟨.int (if k then 1 else 0), H, I.tok _, ⟨_, rfl⟩, q⟩
/-- len of a str, a bytes, a list, a tuple -/
def LenV (K : PySem.W.Frag) (x : V) (H : Hp) (n : Nat) : Prop :=
  match x with
  | .str y => y.length ≤ sizeLine ∧ n = y.length
  | .byt y => y.size ≤ sizeLine ∧ n = y.size
  | .ref p => (∃ xs, SqL K H p xs ∧ n = xs.length) ∨ ∃ xs, SqT K H p xs ∧ n = xs.length
  | _ => False
theorem call_len : CallR X (.builtin "len") (fun xs H Q => ∃ x n, xs = [x] ∧ LenV X.K x H n ∧ Q (.int n) H) := by
  intro pins s σ H xs us Q I r h
  obtain ⟨x, n, rfl, e, q⟩ := h
  obtain ⟨u, rfl, rx⟩ := vals1 r
  have hl := line63
  have hs : sizeLine = 16777216 := sizeLine_eq
  cases x with
  | str y =>
    obtain ⟨t, rfl⟩ := rx
    obtain ⟨hy, e'⟩ : y.length ≤ sizeLine ∧ n = y.length := e
    subst e'
    exact len_str (by omega) ⟨.int _, H, I.tok _, ⟨_, rfl⟩, q⟩
  | byt y =>
    obtain ⟨t, rfl⟩ := rx
    obtain ⟨hy, e'⟩ : y.size ≤ sizeLine ∧ n = y.size := e
    subst e'
    exact PySem.W.len_bytes (by omega) ⟨.int _, H, I.tok _, ⟨_, rfl⟩, q⟩
  | ref p =>
    cases rx
    have e' : (∃ xs, SqL X.K H p xs ∧ n = xs.length) ∨ ∃ xs, SqT X.K H p xs ∧ n = xs.length := e
    rcases e' with ⟨xs, hx, e'⟩ | ⟨xs, hx, e'⟩
    · subst e'
      obtain ⟨its, r', pl, hz⟩ := I.list hx
      have hlen := r'.length
      exact Calls.call_len_list pl.isList (by simp only [List.size_toArray]; omega) ⟨.int xs.length, H, I.tok _, ⟨_, by simp only [List.size_toArray]; rw [hlen]⟩, q⟩
    · subst e'
      obtain ⟨its, r', pl, hz⟩ := I.tuple hx
      have hlen := r'.length
      exact len_tuple pl (by simp only [List.size_toArray]; omega) ⟨.int xs.length, H, I.tok _, ⟨_, by simp only [List.size_toArray]; rw [hlen]⟩, q⟩
  | _ => exact (show False from e).elim
end
end L2
namespace L2
open PySem PySem.Spec PyProof.Rows
/-! ### an instance, its attributes a map -/
structure ObjM (h : Heap) (x dx C : Addr) (mA : Str → Option Value) : Prop where
  obj : h.get? x = some (PySem.W.instObj C dx)
  ns : h.Ns1 dx mA
  ne : dx ≠ x
theorem lookIn_ns {h : Heap} {dx : Addr} {mA : Str → Option Value} (n : h.Ns1 dx mA) : ∃ od, h.get? dx = some od ∧ ∀ name, PySem.W.lookIn name od = some (mA name) := by
  obtain ⟨o, es, ep, ho, hd, hk, _, hm⟩ := n
  refine ⟨o, ho, fun name => ?_⟩
  have e := hm name
  unfold nsFind findBy at e
  rw [← Array.find?_toList] at e
  unfold PySem.W.lookIn
  rw [hd]
  dsimp only
  split
  · rename_i y q
    rw [q] at e
    exact congrArg some e
  · rename_i q
    rw [q] at e
    have a : es.toList.any (·.refKey) = false := by
      rw [List.any_eq_false]
      intro y hy
      obtain ⟨z, t, hkey⟩ := hk y (Array.mem_toList_iff.mp hy)
      simp [DictEntry.refKey, hkey]
    have a' : ¬ es.toList.any (·.refKey) = true := by rw [a]; exact Bool.false_ne_true
    rw [if_neg a']
    exact congrArg some e
theorem ObjM.look {h : Heap} {x dx C : Addr} {mA : Str → Option Value} (I : ObjM h x dx C mA) : ∃ od, PySem.W.InstAt h x (PySem.W.instObj C dx) C (some od) ∧ ∀ name, PySem.W.lookIn name od = some (mA name) :=
  let ⟨od, ho, hl⟩ := lookIn_ns I.ns
  ⟨od, ⟨I.obj, rfl, rfl, ho⟩, hl⟩
section
variable {prog : Program} {w : World} {A : Around} {E : Value → Shared → Prop} {s : Shared} {K : PySem.W.Frag} {x dx C f : Addr} {mA : Str → Option Value} {name : Str} {v : Value}
end
/-! ### the attributes as a list of pairs -/
def putF (f : Str) (v : V) : List (Str × V) → List (Str × V)
  | [] => [(f, v)]
  | (g, x) :: r => if g = f then (g, v) :: r else (g, x) :: putF f v r
section
variable {P : Program} {w : World} {H H' : Hp} {h h' : Heap} {a C dx : Addr} {fs fs' : List (Str × V)}
theorem ins_get (hok : HOk P w H h) (e : H a = some (.ins C dx fs)) : ∃ mA, ObjM h a dx C mA ∧ (∀ f, RelO (fs.lookup f) (mA f)) ∧ PySem.Within mA (fs.map (·.1)) ∧ fs.length ≤ 1000 ∧ H dx = some (.own a) := by
  obtain ⟨d, z, ne, ob, mA, n, r, q⟩ := (show ObjOk P w H h a (.ins C dx fs) from hok a _ e)
  exact ⟨mA, ⟨ob, n, ne⟩, r, q, z, d⟩
end
/-! ### what of the text a class must have -/
structure Cls (K : PySem.W.Frag) (C : Addr) : Prop where
  pg : PySem.W.plainGet K C Str.empty = true
  hd : PySem.W.hasDictIn K C = true
  po : PySem.W.plainOver K C = true
  sa : PySem.W.findIn K (.ref C) "__setattr__" = some (some (.builtin "object.__setattr__"))
theorem Cls.get {K : PySem.W.Frag} {C : Addr} (c : Cls K C) (f : Str) : PySem.W.plainGet K C f = true := c.pg
/-- no class of it has the name -/
def NoAttr (K : PySem.W.Frag) (C : Addr) (f : Str) : Prop := PySem.W.findIn K (.ref C) f = some none
/-- a method: a plain def of the class or of one above it -/
structure Meth (K : PySem.W.Frag) (C : Addr) (m : Str) (f : Addr) : Prop where
  at_ : PySem.W.findIn K (.ref C) m = some (some (.ref f))
  fn : PySem.W.isFn K (.ref f) = true
  kp : PySem.W.keepIn K (.ref f) = true
section
variable {X : Cx} {pins : List (Addr × Obj)} {σ : St} {H : Hp} {s : Shared} {a C dx : Addr} {fs : List (Str × V)} {f : Str} {v : V} {A : Around} {E : Value → Shared → Prop}
end
/-! ### readings and rules -/
/-- e.f, an attribute of the instance -/
def tFld (K : PySem.W.Frag) (ta : TE) (f : Str) : TE := fun σ H Q => ta σ H fun x H1 => ∃ a C dx fs v, x = .ref a ∧ H1 a = some (.ins C dx fs) ∧ Cls K C ∧ NoAttr K C f ∧ fs.lookup f = some v ∧ Q v H1
/-- e.f = value -/
def sFld (K : PySem.W.Frag) (ta tv : TE) (f : Str) : TS := fun D σ H => tv σ H fun y H1 => ta σ H1 fun x H2 => ∃ a C dx fs, x = .ref a ∧ H2 a = some (.ins C dx fs) ∧ Cls K C ∧ NoAttr K C f ∧ fs.length < 1000 ∧
  D.nx σ (upd H2 a (.ins C dx (putF f y fs)))
section
variable {X : Cx} {o e value : Expr} {f : Str} {pos pos' tpos : Pos} {ta tv : TE}
end
/-! ### isinstance -/
section
variable {X : Cx} {pins : List (Addr × Obj)} {σ : St} {H : Hp} {s : Shared} {A : Around} {E : Value → Shared → Prop} {Q : Value → Shared → Prop} {c : Value} {b : Bool}
/-- the type of a value, as the fragment's deciders take it; for an instance its class -/
inductive TyOf (K : PySem.W.Frag) (H : Hp) : V → Value → Prop where
  | non : TyOf K H .non (.type "NoneType")
  | bl (x : Bool) : TyOf K H (.bl x) (.type "bool")
  | int (i : Int) : TyOf K H (.int i) (.type "int")
  | str (x : Str) : TyOf K H (.str x) (.type "str")
  | flt (x : UInt64) : TyOf K H (.flt x) (.type "float")
  | lst {a : Addr} {xs : List V} (e : H a = some (.lst xs)) : TyOf K H (.ref a) (.type "list")
  | frz {a : Addr} {o : Obj} {xs : List V} (e : H a = some (.frz o (.lst xs))) : TyOf K H (.ref a) (.type "list")
  | tup {a : Addr} {xs : List V} (e : H a = some (.tup xs)) : TyOf K H (.ref a) (.type "tuple")
  | dK {a : Addr} {kvs : List (Key × V)} (e : H a = some (.dK kvs)) : TyOf K H (.ref a) (.type "dict")
  | dT {a : Addr} {kvs : List (List Key × V)} (e : H a = some (.dT kvs)) : TyOf K H (.ref a) (.type "dict")
  | ins {a C dx : Addr} {fs : List (Str × V)} (e : H a = some (.ins C dx fs)) (cl : Cls K C) (ha : PySem.W.findIn K (.ref C) "__class__" = some (some (.builtin "object.__class__")))
      (hn : PySem.W.specialIn K (.builtin "object.__class__") "__get__" = some (some (.builtin "getset_descriptor.__get__"))) (htk : PySem.W.takesIn K (.builtin "object.__class__") = some true)
      (hm : PySem.W.mroIn K C (.type "object") = some true) : TyOf K H (.ref a) (.ref C)
/-- isinstance(x, c) for one class c, a built-in or an own one: kitOne's answer -/
theorem isinst_ok {x : V} {u t : Value} (I : Inv X pins σ H s) (rx : RelV x u) (ty : TyOf X.K H x t) (e : PySem.W.kitOne X.K t c = some b) (h : ∀ tk, Q (.bool b) { s with toks := tk }) :
    wpAny (model X.prog X.w) A (call (.builtin "isinstance") [u, c]) Q E s := by
  cases ty with
  | non => cases (show u = Value.none from rx); exact PySem.W.kia_one PySem.W.kitx_none I.kIn True.intro e (fun z => nomatch z) h
  | bl y => cases (show u = Value.bool y from rx); exact PySem.W.kia_one PySem.W.kitx_bool I.kIn True.intro e (fun z => nomatch z) h
  | int i => obtain ⟨t, q⟩ := (show ∃ t, u = Value.int i t from rx); cases q; exact PySem.W.kia_one PySem.W.kitx_int I.kIn True.intro e (fun z => nomatch z) h
  | str y => obtain ⟨t, q⟩ := (show ∃ t, u = Value.str y t from rx); cases q; exact PySem.W.kia_one PySem.W.kitx_str I.kIn True.intro e (fun z => nomatch z) h
  | flt y => obtain ⟨t, q⟩ := (show ∃ t, u = Value.float y t from rx); cases q; exact PySem.W.kia_one PySem.W.kitx_float I.kIn True.intro e (fun z => nomatch z) h
  | @lst a xs ea =>
    cases (show u = Value.ref a from rx)
    obtain ⟨_, _, n, _, h1⟩ := (show ObjOk X.prog X.w H s.heap a (.lst xs) from I.hok a _ ea)
    exact PySem.W.kia_one PySem.W.kitx_list I.kIn ⟨_, h1, rfl⟩ e (fun z => nomatch z) h
  | @frz a ob xs ea =>
    cases (show u = Value.ref a from rx)
    obtain ⟨_, _, _, n, _, h1⟩ := (show ObjOk X.prog X.w H s.heap a (.frz ob (.lst xs)) from I.hok a _ ea)
    exact PySem.W.kia_one PySem.W.kitx_list I.kIn ⟨_, h1, rfl⟩ e (fun z => nomatch z) h
  | @tup a xs ea =>
    cases (show u = Value.ref a from rx)
    obtain ⟨_, _, _, p⟩ := (show ObjOk X.prog X.w H s.heap a (.tup xs) from I.hok a _ ea)
    obtain ⟨o, h1, h2, _⟩ := p
    exact PySem.W.kia_one PySem.W.kitx_tuple I.kIn ⟨o, h1, h2⟩ e (fun z => nomatch z) h
  | @dK a kvs ea =>
    cases (show u = Value.ref a from rx)
    obtain ⟨_, _, vs, _, p⟩ := (show ObjOk X.prog X.w H s.heap a (.dK kvs) from I.hok a _ ea)
    obtain ⟨o, es, ep, h1, h2, _⟩ := p
    exact PySem.W.kia_one PySem.W.kitx_dict I.kIn ⟨o, h1, h2.1⟩ e (fun z => nomatch z) h
  | @dT a kvs ea =>
    cases (show u = Value.ref a from rx)
    obtain ⟨_, _, xs, _, o, es, ep, h1, h2, _⟩ := (show ObjOk X.prog X.w H s.heap a (.dT kvs) from I.hok a _ ea)
    exact PySem.W.kia_one PySem.W.kitx_dict I.kIn ⟨o, h1, h2.1⟩ e (fun z => nomatch z) h
  | @ins a C dx fs ea cl ha hn htk hm =>
    cases (show u = Value.ref a from rx)
    obtain ⟨mA, O, _⟩ := ins_get I.hok ea
    obtain ⟨od, J, _⟩ := O.look
    exact PySem.W.kia_one (PySem.W.kitx_own (cl.get _) cl.hd ha hn htk hm) I.kIn J e (fun z => nomatch z) h
end
end L2
namespace L2
open PySem PySem.Spec PyProof.Rows
/-! ### room -/
structure Room (k : Nat) (A : Around) : Prop where
  hd : A.handled = none
  dp : A.depth + 3 * k + 5 < recursionLimit
  un : A.units + 16 * k + 200 < cLine
theorem Room.mono {j k : Nat} {A : Around} (r : Room k A) (h : j ≤ k) : Room j A := ⟨r.hd, by have := r.dp; omega, by have := r.un; omega⟩
theorem Room.deeper {k : Nat} {A : Around} (r : Room (k + 1) A) (env : Env) : Room k (A.deeper env) :=
  ⟨r.hd, by have := r.dp; show A.depth + 1 + 3 * k + 5 < _; omega, by have := r.un; show A.units + 3 + 16 * k + 200 < _; omega⟩
theorem Room.depth {k : Nat} {A : Around} (r : Room k A) : A.depth < recursionLimit := by have := r.dp; omega
theorem Room.units {k : Nat} {A : Around} (r : Room k A) : A.units + 64 < cLine := by have := r.un; omega
/-! ### argument lists and displays -/
def tNil : TA := fun _ H Q => Q [] H
def tCons (ta : TE) (tr : TA) : TA := fun σ H Q => ta σ H fun x H1 => tr σ H1 fun xs H2 => Q (x :: xs) H2
section
variable {X : Cx} {e : Expr} {es : List Expr} {te : TE} {t : TA} {pos : Pos}
theorem pa_nil : PA X [] tNil := fun _ _ _ _ H Q I h => Calls.spliced_nil ⟨[], H, I, .nil, h⟩
theorem pa_cons (ha : PE X e te) (hr : PA X es t) (hs : starEach (e :: es) X.env = (false, eval e X.env) :: starEach es X.env := by rfl) : PA X (e :: es) (tCons te t) := by
  intro pos pins s σ H Q I h
  rw [hs]
  show wpAny _ _ (spliced ((false, eval e X.env) :: backTo pos (starEach es X.env))) _ _ s
  refine Calls.spliced_cons (thn (ha pins s σ H _ I h) fun u s1 ⟨x, H1, I1, r1, q1⟩ => ?_)
  exact thn (hr pos pins s1 σ H1 _ I1 q1) fun us s2 ⟨xs, H2, I2, r2, q2⟩ => ⟨x :: xs, H2, I2, .cons r1 r2, q2⟩
/-- a tuple, a list of written items -/
def tTup (t : TA) : TE := fun σ H Q => t σ H fun xs H1 => xs.length ≤ sizeLine ∧ ∀ p, H1 p = none → Q (.ref p) (upd H1 p (.tup xs))
def tLst (t : TA) : TE := fun σ H Q => t σ H fun xs H1 => xs.length ≤ sizeLine ∧ ∀ p, H1 p = none → Q (.ref p) (upd H1 p (.lst xs))
theorem pe_tup {x1} (h : PA X es t) : PE X (.Tuple es x1 pos) (tTup t) := by
  intro pins s σ H Q I hq
  refine wpAny_Tuple_spliced (thn (h pos pins s σ H _ I hq) fun us s1 ⟨xs, H1, I1, r, z, q⟩ => ⟨by rw [← r.length]; exact z, ?_⟩)
  have hf : H1 s1.heap.objs.size = none := I1.hok.fresh (Nat.le_refl _)
  refine ⟨.ref s1.heap.objs.size, upd H1 s1.heap.objs.size (.tup xs), I1.laid (t' := s1.toks) (fun b u e => Heap.get?_push_of_some _ e) (Nat.le_refl _) ?_, rfl, q _ hf⟩
  exact ⟨z, us, r, ⟨_, Heap.get?_push_size _ rfl, rfl, _, rfl⟩⟩
theorem pe_lst (h : PA X es t) : PE X (.List es pos) (tLst t) := by
  intro pins s σ H Q I hq
  refine wpAny_List_spliced (thn (h pos pins s σ H _ I hq) fun us s1 ⟨xs, H1, I1, r, z, q⟩ => ⟨by rw [← r.length]; exact z, ?_⟩)
  have hf : H1 s1.heap.objs.size = none := I1.hok.fresh (Nat.le_refl _)
  refine ⟨.ref s1.heap.objs.size, upd H1 s1.heap.objs.size (.lst xs), I1.laid (t' := s1.toks) (fun b u e => Heap.get?_push_of_some _ e) (Nat.le_refl _) ?_, rfl, q _ hf⟩
  exact ⟨z, us, 0, r, Heap.get?_push_size _ rfl⟩
end
/-! ### what a def promises -/
/-- a def's promise: the bound arguments in the parameters' order, the heap, the wanted end, the wanted exception -/
abbrev Sp := List V → Hp → VK → XK → Prop
/-- how an exception lies behind a call (file 08 gives it): the callers' frames, abstract heap and state ahead of the call, the wish, the exception, the state -/
abbrev CXT := List Env → Hp → Shared → XK → Value → Shared → Prop
/-- the state at a call -/
structure Env0 (P : Program) (w : World) (K : PySem.W.Frag) (mg : Str → Option Value) (base : Heap) (A : Around) (outer : List Env) (s : Shared) (H : Hp) : Prop where
  frames : A.frames = some outer
  mod : Mod K mg base
  bs : ∀ b o, base.get? b = some o → s.heap.get? b = some o ∧ H b = none
  bsz : base.objs.size ≤ s.heap.objs.size
  funs : s.heap.FunFrames base outer
  frf : ∀ b ∈ frs outer, H b = none
  hok : HOk P w H s.heap
  bare : AllBare s.gens
/-- a call's end -/
def CE (outer : List Env) (P : Program) (w : World) (H : Hp) (s : Shared) (Q : VK) (u : Value) (s' : Shared) : Prop :=
  ∃ v H', s'.os = s.os ∧ AllBare s'.gens ∧ Un (frs outer) [] H H' s.heap s'.heap ∧ HOk P w H' s'.heap ∧ RelV v u ∧ Q v H'
def CR (CX : CXT) (outer : List Env) (P : Program) (w : World) (H : Hp) (s : Shared) (Q : VK) (E : XK) (r : Result) (s' : Shared) : Prop :=
  match r with
  | .ok (.ret u) => CE outer P w H s Q u s'
  | .ok _ => False
  | .error e => CX outer H s E e s'
structure FnOk (P : Program) (w : World) (K : PySem.W.Frag) (mg : Str → Option Value) (base : Heap) (CX : CXT) (k : Nat) (f : Addr) (fd : FuncData) (ps : List Str) (sp : Sp) : Prop where
  len : ∀ vs H Q E, sp vs H Q E → vs.length = ps.length
  run : ∀ (A : Around) (outer : List Env) (s : Shared) (H : Hp) (args : Args) (us : List Value) (vs : List V) (Q : VK) (E : XK), Room k A → Env0 P w K mg base A outer s H → BindsTo s fd args (ps.zip us) → Vals vs us → sp vs H Q E →
    codeAny (model P w) A (.call (.ref f) args) (CR CX outer P w H s Q E) s
theorem FnOk.mono {P : Program} {w : World} {K : PySem.W.Frag} {mg : Str → Option Value} {base : Heap} {CX : CXT} {j k : Nat} {f : Addr} {fd : FuncData} {ps : List Str} {sp : Sp} (F : FnOk P w K mg base CX j f fd ps sp) (h : j ≤ k) :
    FnOk P w K mg base CX k f fd ps sp := ⟨F.len, fun A outer s H args us vs Q E hr => F.run A outer s H args us vs Q E (hr.mono h)⟩
section
variable {X : Cx} {pins : List (Addr × Obj)} {σ : St} {H : Hp} {s s' : Shared}
/-- from a body: what a callee wants -/
theorem Inv.env0 (I : Inv X pins σ H s) : Env0 X.prog X.w X.K X.mg X.base X.A X.stack s H :=
  ⟨I.ok.frames, I.ok.mod, I.bs, Nat.le_trans I.ok.bsz I.sz, I.stack, I.stkFree, I.hok, I.bare⟩
/-- behind a call -/
theorem Inv.after {Q : VK} {u : Value} (I : Inv X pins σ H s) (h : CE X.stack X.prog X.w H s Q u s') : EP X pins σ Q u s' := by
  obtain ⟨v, H', os, bare, un, hok, r, q⟩ := h
  obtain ⟨hh, g, d, t, os'⟩ := s'
  obtain rfl : os' = s.os := os
  exact ⟨v, H', I.call (h' := hh) (g' := g) (d' := d) (t' := t) (ch := []) un hok bare (fun b z => absurd z (by simp)), r, q⟩
end
/-! ### calls -/
/-- f(..): the written arguments, then the defaults dvs; E: what is wanted of an exception -/
def tCall (sp : Sp) (dvs : List V) (E : XK) (t : TA) : TE := fun σ H Q => t σ H fun vs H1 => sp (vs ++ dvs) H1 Q E
/-- o.m(..) of an instance of the class at C -/
def tMeth (C : Addr) (m : Str) (sp : Sp) (dvs : List V) (E : XK) (ta : TE) (t : TA) : TE := fun σ H Q => ta σ H fun x H1 => ∃ a dx fs, x = .ref a ∧ H1 a = some (.ins C dx fs) ∧ fs.lookup m = none ∧
  t σ H1 fun vs H2 => sp (x :: (vs ++ dvs)) H2 Q E
/-- C(..): a new instance and its dict, then __init__ -/
def tMake (C : Addr) (sp : Sp) (dvs : List V) (E : XK) (t : TA) : TE := fun σ H Q => t σ H fun vs H1 => ∀ x dx, H1 x = none → H1 dx = none → dx ≠ x →
  sp (.ref x :: (vs ++ dvs)) (upd (upd H1 dx (.own x)) x (.ins C dx [])) (fun v H2 => v = .non ∧ Q (.ref x) H2) E
/-- how the parameters are bound: us the positional arguments, kw the keywords' values by name, ds the defaults that fill up -/
def Binds (K : PySem.W.Frag) (fd : FuncData) (ps : List Str) (ds : List Value) : Prop :=
  ∀ (s : Shared) (us : List Value), K.In s.heap → (us ++ ds).length = ps.length → BindsTo s fd ⟨us, []⟩ (ps.zip (us ++ ds))
/-- every parameter is given -/
theorem Binds.all {K : PySem.W.Frag} {fd : FuncData} {ps : List Str} (h : ∀ us : List Value, us.length = ps.length → bindArgs fd ⟨us, []⟩ = pure (ps.zip us)) : Binds K fd ps [] := fun s us _ hl => by
  rw [List.append_nil] at hl ⊢
  exact .of_eq (h us hl)
/-- an exception of a callee reaches what this body wants of exceptions -/
def Passes (CX : CXT) (X : Cx) (E : XK) : Prop := ∀ (pins : List (Addr × Obj)) (σ : St) (H : Hp) (s : Shared) (e : Value) (s' : Shared), Inv X pins σ H s → CX X.stack H s E e s' → X.xe e s'
section
variable {X : Cx} {CX : CXT} {k : Nat} {f C : Addr} {fd : FuncData} {ps : List Str} {sp : Sp} {dvs : List V} {ds : List Value} {E : XK} {x m : Str} {p pos apos : Pos} {e o : Expr} {es : List Expr} {ta : TE} {t : TA}
/-- the callee runs -/
theorem run_fn {pins : List (Addr × Obj)} {σ : St} {H : Hp} {s : Shared} {Q : VK} {us : List Value} {vs : List V} (F : FnOk X.prog X.w X.K X.mg X.base CX k f fd ps sp) (hr : Room k X.A) (hb : Binds X.K fd ps ds) (hd : Vals dvs ds) (hx : Passes CX X E)
    (I : Inv X pins σ H s) (r : Vals vs us) (h : sp (vs ++ dvs) H Q E) : wpAny (model X.prog X.w) X.A (call (.ref f) us) (EP X pins σ Q) X.xe s := by
  have r2 : Vals (vs ++ dvs) (us ++ ds) := r.append hd
  have hl : (us ++ ds).length = ps.length := by rw [← r2.length]; exact F.len _ _ _ _ h
  refine wpAny_call (codeAny_mono (F.run X.A X.stack s H ⟨us, []⟩ (us ++ ds) (vs ++ dvs) Q E hr I.env0 (hb s us I.kIn hl) r2 h) fun r s' hq => ?_)
  cases r with
  | error e => exact hx pins σ H s e s' I hq
  | ok fl =>
    cases fl with
    | ret u => exact I.after hq
    | next => exact False.elim hq
    | brk => exact False.elim hq
    | cont => exact False.elim hq
theorem pe_call (F : FnOk X.prog X.w X.K X.mg X.base CX k f fd ps sp) (hr : Room k X.A) (hg : Gl X x) (hm : X.mg x = some (.ref f)) (hk : PySem.W.keepIn X.K (.ref f) = true) (hb : Binds X.K fd ps ds) (hd : Vals dvs ds) (hx : Passes CX X E)
    (ha : PA X (e :: es) t) (hdb : (x == ("__debug__" : Str)) = false := by decide) (he : starEach (e :: es) X.env = (false, eval e X.env) :: starEach es X.env := by rfl) (hpl : (backTo pos (starEach es X.env)).any (·.1) = false := by rfl) :
    PE X (.Call (.Name x p) (e :: es) [] pos) (tCall sp dvs E t) := by
  intro pins s σ H Q I h
  refine wpAny_Call_Name_kw (ld_glob I hg hm ?_ hdb)
  refine PySem.W.callWith_K (h₀ := X.base) I.ok.mod.kin hk (thn (ha pos pins s σ H _ I h) fun us s1 ⟨vs, H1, I1, r, q⟩ => ⟨I1.kIn, ?_⟩) he hpl
  exact run_fn F hr hb hd hx I1 r q
/-- what a class must have to be made -/
structure Mk (K : PySem.W.Frag) (C f : Addr) : Prop where
  makes : PySem.W.makesIn K C = true
  init : PySem.W.findIn K (.ref C) "__init__" = some (some (.ref f))
  fn : PySem.W.isFn K (.ref f) = true
  kp : PySem.W.keepIn K (.ref C) = true
end
/-! ### keywords -/
section
variable {X : Cx} {CX : CXT} {k : Nat} {f C : Addr} {fd : FuncData} {ps ks : List Str} {sp : Sp} {E : XK} {x m : Str} {p pos apos kpos : Pos} {e o : Expr} {es : List Expr} {kws : List Keyword} {te ta : TE} {t tk : TA} {nm : Option Str}
variable {g : List Value → List Value → List Value} {gV : List V → List V → List V}
end
/-! ### a def's body keeps its promise -/
/-- names: the parameters first -/
structure FnScope (N P : List Str) (sc : Scope) : Prop where
  kind : sc.kind = .function
  co : sc.isCoroutine = false
  gen : sc.isGenerator = false
  nd : N.Nodup
  pre : N.take P.length = P
  par : ∀ x ∈ P, sc.names.lookup x = some .local ∨ sc.names.lookup x = some .cell
  nofree : ∀ y ∈ sc.names, y.2 ≠ .free
theorem bindL_out {kindOf : Str → Option NameKind} {x : Str} : ∀ {binds : List (Str × Value)} {m : Str → Option Value}, (∀ v, (x, v) ∉ binds) → bindL kindOf binds m x = m x
  | [], _, _ => rfl
  | (n, v) :: r, m, h => by
    unfold bindL
    rw [bindL_out fun w hw => h w (List.mem_cons_of_mem _ hw)]
    split
    · have : x ≠ n := by rintro rfl; exact h v List.mem_cons_self
      simp [this]
    · rfl
theorem bindC_out {kindOf : Str → Option NameKind} {x : Str} : ∀ {binds : List (Str × Value)} {m : Str → Option Value}, (∀ v, (x, v) ∉ binds) → bindC kindOf binds m x = m x
  | [], _, _ => rfl
  | (n, v) :: r, m, h => by
    unfold bindC
    rw [bindC_out fun w hw => h w (List.mem_cons_of_mem _ hw)]
    split
    · rfl
    · have : x ≠ n := by rintro rfl; exact h v List.mem_cons_self
      simp [this]
theorem bindL_get {kindOf : Str → Option NameKind} {x : Str} {v : Value} : ∀ {P : List Str} {vs : List Value} {i : Nat} {m : Str → Option Value}, P.Nodup → P[i]? = some x → vs[i]? = some v → kindOf x = some .local →
    bindL kindOf (P.zip vs) m x = some v
  | [], _, _, _, _, h, _, _ => by simp at h
  | _ :: _, [], _, _, _, _, h, _ => by simp at h
  | p :: P, w :: vs, 0, m, nd, h1, h2, hk => by
    simp at h1 h2; subst h1; subst h2
    show bindL kindOf ((p, w) :: P.zip vs) m p = _
    unfold bindL
    rw [bindL_out fun v hv => (List.nodup_cons.mp nd).1 (List.of_mem_zip hv).1, if_pos hk]
    simp
  | p :: P, w :: vs, i + 1, m, nd, h1, h2, hk => by
    show bindL kindOf ((p, w) :: P.zip vs) m x = _
    unfold bindL
    exact bindL_get (i := i) (List.nodup_cons.mp nd).2 (by simpa using h1) (by simpa using h2) hk
theorem bindC_get {kindOf : Str → Option NameKind} {x : Str} {v : Value} : ∀ {P : List Str} {vs : List Value} {i : Nat} {m : Str → Option Value}, P.Nodup → P[i]? = some x → vs[i]? = some v → kindOf x ≠ some .local →
    bindC kindOf (P.zip vs) m x = some v
  | [], _, _, _, _, h, _, _ => by simp at h
  | _ :: _, [], _, _, _, _, h, _ => by simp at h
  | p :: P, w :: vs, 0, m, nd, h1, h2, hk => by
    simp at h1 h2; subst h1; subst h2
    show bindC kindOf ((p, w) :: P.zip vs) m p = _
    unfold bindC
    rw [bindC_out fun v hv => (List.nodup_cons.mp nd).1 (List.of_mem_zip hv).1, if_neg hk]
    simp
  | p :: P, w :: vs, i + 1, m, nd, h1, h2, hk => by
    show bindC kindOf ((p, w) :: P.zip vs) m x = _
    unfold bindC
    exact bindC_get (i := i) (List.nodup_cons.mp nd).2 (by simpa using h1) (by simpa using h2) hk
/-- the names' values at the entry -/
def start (N : List Str) (vs : List V) : St := vs.map some ++ List.replicate (N.length - vs.length) none
/-- the context of a def's body, at its entry; an exception leaves the frame, then lies as CX says -/
def cxOf (CX : CXT) (P : Program) (w : World) (K : PySem.W.Frag) (mg : Str → Option Value) (base : Heap) (N : List Str) (qual : Str) (scope : Scope) (f : Addr) (cd : Value) (A : Around) (outer : List Env) (s : Shared) (H : Hp) (E : XK) : Cx where
  prog := P
  w := w
  K := K
  mg := mg
  base := base
  A := A.deeper (envOfC qual scope s.heap.objs.size f cd)
  N := N
  s₀ := s
  H₀ := H
  env := envOfC qual scope s.heap.objs.size f cd
  outer := outer
  stack := envOfC qual scope s.heap.objs.size f cd :: outer
  ex := []
  calm := true
  fn := fun _ => true
  pn := []
  xe := fun e s' => wpAny (model P w) (A.deeper (envOfC qual scope s.heap.objs.size f cd)) (leaving (envOfC qual scope s.heap.objs.size f cd) e) (fun _ s'' => CX outer H s E e s'') (fun e' s'' => CX outer H s E e' s'') s'
theorem cell_has {sc : Scope} {n : Nat} {x : Str} (h : sc.names.lookup x = some .cell) : ∃ c, (cellsFrom n sc.names []).lookup x = some c := by
  have q := PySem.W.cellsFrom_some sc.names n [] (.inl h)
  exact Option.isSome_iff_exists.mp q
theorem inv_start {CX : CXT} {P : Program} {w : World} {K : PySem.W.Frag} {mg : Str → Option Value} {base : Heap} {N ps : List Str} {qual : Str} {scope : Scope} {f : Addr} {cd : Value} {A : Around} {outer : List Env} {s s1 : Shared} {H : Hp} {E : XK} {us : List Value} {vs : List V}
    (S : FnScope N ps scope) (hd : A.handled = none) (e0 : Env0 P w K mg base A outer s H) (hl : vs.length = ps.length) (r : Vals vs us)
    (x : InCallC s s.heap.objs.size (bindL (envOfC qual scope s.heap.objs.size f cd).kindOf (ps.zip us) fun _ => none) (cellsFrom (s.heap.objs.size + 1) scope.names []) (bindC (envOfC qual scope s.heap.objs.size f cd).kindOf (ps.zip us) fun _ => none) s1) :
    Inv (cxOf CX P w K mg base N qual scope f cd A outer s H E) [] (start N vs) H s1 := by
  have hpl : ps.length ≤ N.length := by have := congrArg List.length S.pre; rw [List.length_take] at this; omega
  obtain ⟨h1, tk, rfl, hk⟩ := x.done
  have noA : ∀ b : Addr, b ∉ (cxOf CX P w K mg base N qual scope f cd A outer s H E).ex := fun b z => absurd (show b ∈ ([] : List Addr) from z) (by simp)
  refine ⟨⟨e0.mod, S.kind, rfl, rfl, Nat.le_refl _, fun y z c h1 h2 => ?_, fun y hy => ?_, fun y c _ h => ?_, fun _ => hd, Around.frames_deeper e0.frames, .inr ⟨rfl, rfl⟩, fun b z => absurd z (noA b), e0.bs, e0.bsz, fun b _ _ => noA b, fun b z => absurd z (noA b), e0.funs, e0.frf⟩,
    rfl, e0.bare, Un.kept hk, ⟨_, x.toInCall.ns, fun i y v h1 h2 h3 => ?_⟩, fun y c h => ⟨_, x.cell y c h⟩, e0.hok.fresh (Nat.le_refl _), fun y c h => ?_, fun p hp => absurd (show p ∈ ([] : List (Addr × Obj)) from hp) (by simp), e0.hok.kept hk, ?_⟩
  · exact name_of_addr x.apart (PySem.mem_of_lookup h1) (PySem.mem_of_lookup h2)
  · have hy : scope.names.lookup y = some .cell ∨ scope.names.lookup y = some .free := hy
    rcases hy with hy | hy
    · exact cell_has hy
    · exact absurd rfl (S.nofree _ (PySem.mem_of_lookup hy))
  · exact Nat.le_of_lt (x.above y c (PySem.mem_of_lookup h))
  · have hi : i < vs.length := by
      unfold start at h2
      by_cases hi : i < vs.length
      · exact hi
      · rw [List.getElem?_append_right (by simpa using hi)] at h2
        rw [List.getElem?_replicate] at h2
        split at h2 <;> cases h2
    have ha : vs[i]? = some v := by
      unfold start at h2
      rw [List.getElem?_append_left (by simpa using hi), List.getElem?_map] at h2
      cases e : vs[i]? with
      | none => rw [e] at h2; cases h2
      | some a => rw [e] at h2; cases h2; rfl
    obtain ⟨u, hu, rv⟩ := r.get ha
    have hp : ps[i]? = some y := by
      rw [← S.pre, List.getElem?_take_of_lt (by omega)]; exact h1
    have ndP : ps.Nodup := by rw [← S.pre]; exact S.nd.sublist (List.take_sublist _ _)
    refine ⟨u, rv, ?_⟩
    rcases S.par y (List.mem_of_getElem? hp) with k | k
    · exact .inl ⟨k, bindL_get ndP hp hu k⟩
    · obtain ⟨c, e⟩ := cell_has (n := s.heap.objs.size + 1) k
      refine .inr ⟨.inl k, c, e, ?_⟩
      have q := x.cell y c e
      rw [bindC_get ndP hp hu (by show scope.names.lookup y ≠ _; rw [k]; decide)] at q
      exact q
  · exact e0.hok.fresh (Nat.le_of_lt (x.above y c (PySem.mem_of_lookup h)))
  · unfold start
    show _ = N.length
    rw [List.length_append, List.length_map, List.length_replicate]
    omega
/-- THE RULE: a def (or a method) of the text, by its body. The body's reading t is chosen for each entry; it is run at the parameters' values -/
theorem fn_of {CX : CXT} {P : Program} {w : World} {K : PySem.W.Frag} {mg : Str → Option Value} {base : Heap} {k : Nat} {f : Addr} {name qual : Str} {params : Arguments} {body : List Stmt} {scope : Scope} {dV kV doc pm cdv ct oc : Value} {an od : Option Addr}
    {osl : Array (Option Value)} {N ps : List Str} {sp : Sp} (lk : K.lookup f = some ⟨oc, od, .func (PySem.W.fnOf name qual params body scope dV kV doc pm an cdv ct), osl⟩) (hcd : PySem.W.codeIn K cdv qual = true) (S : FnScope N ps scope)
    (len : ∀ vs H Q E, sp vs H Q E → vs.length = ps.length)
    (hbody : ∀ (A : Around) (outer : List Env) (s : Shared) (H : Hp) (vs : List V) (Q : VK) (E : XK), Room k (A.deeper (envOfC qual scope s.heap.objs.size f cdv)) → sp vs H Q E →
      ∃ t, PSs (cxOf CX P w K mg base N qual scope f cdv A outer s H E) body t ∧ t { nx := fun _ H' => Q .non H', rt := Q } (start N vs) H) :
    FnOk P w K mg base CX (k + 1) f (PySem.W.fnOf name qual params body scope dV kV doc pm an cdv ct) ps sp := by
  refine ⟨len, fun A outer s H args us vs Q E hr e0 hb r hsp => ?_⟩
  have hl := len _ _ _ _ hsp
  have KX : K.In s.heap := e0.mod.kin.keeps fun b o e => (e0.bs b o e).1
  have lim : s.heap.NoLimit := e0.mod.nolimit.keeps fun b o e => (e0.bs b o e).1
  have hkind : ∀ y ∈ ps.zip us, scope.names.lookup y.1 = some .local ∨ (scope.names.lookup y.1 = some .cell ∧ ((cellsFrom (s.heap.objs.size + 1) scope.names []).lookup y.1).isSome = true) := fun ⟨n, v⟩ hy => by
    rcases S.par n (List.of_mem_zip hy).1 with q | q
    · exact .inl q
    · exact .inr ⟨q, PySem.W.cellsFrom_some _ _ _ (.inl q)⟩
  refine codeAny_call_function hr.depth (KX _ _ lk) rfl S.co S.gen rfl (PySem.W.codeRec_of KX hcd) (hb _ _ _ _ ?_)
  refine wpAny_newFunctionEnv_cells S.kind hkind fun env he s1 x => ?_
  subst he
  refine ⟨lim.keeps x.toInCall.keep, codeAny_func ?_⟩
  obtain ⟨t, ht, hq⟩ := hbody A outer s H vs Q E (hr.deeper _) hsp
  have I : Inv (cxOf CX P w K mg base N qual scope f cdv A outer s H E) [] (start N vs) H s1 := inv_start S hr.hd e0 hl r x
  refine wpAny_mono (ht [] s1 (start N vs) H _ I hq) (fun fl s' hs => ?_) fun e s' hs => hs
  have fin : ∀ {σ' : St} {H' : Hp} {v : V} {u : Value}, Inv (cxOf CX P w K mg base N qual scope f cdv A outer s H E) [] σ' H' s' → RelV v u → Q v H' → CE outer P w H s Q u s' :=
    fun {σ' H' v u} J rv q => ⟨v, H', J.os, J.bare, J.base, J.hok, rv, q⟩
  cases fl with
  | ret u =>
    obtain ⟨v, σ', H', J, rv, q⟩ := hs
    exact fin J rv q
  | next =>
    obtain ⟨σ', H', J, q⟩ := hs
    exact fin (v := V.non) (u := Value.none) J rfl q
  | brk =>
    obtain ⟨_, _, _, q⟩ := hs
    exact False.elim q
  | cont =>
    obtain ⟨_, _, _, q⟩ := hs
    exact False.elim q
end L2
namespace L2
open PySem PySem.Spec PyProof.Rows
section
variable {X : Cx} {x : Str} {p pos : Pos} {e : Expr} {es : List Expr} {t : TA} {id T : String} {r : List V → Hp → VK → Prop}
def tCB (r : List V → Hp → VK → Prop) (t : TA) : TE := fun σ H Q => t σ H fun vs H1 => r vs H1 Q
/-- f(e, ..), f a built-in function -/
theorem pe_callB (hc : CallR X (.builtin id) r) (hg : Gl X x) (hm : X.mg x = none) (hv : bootBuiltins x = some (.builtin id)) (ha : PA X (e :: es) t) (hn : x ≠ "__name__" := by decide) (hdb : (x == ("__debug__" : Str)) = false := by decide)
    (he : starEach (e :: es) X.env = (false, eval e X.env) :: starEach es X.env := by rfl) (hpl : (backTo pos (starEach es X.env)).any (·.1) = false := by rfl) : PE X (.Call (.Name x p) (e :: es) [] pos) (tCB r t) := by
  intro pins s σ H Q I h
  refine wpAny_Call_Name_kw (ld_blt I hg hm hv ?_ hn hdb)
  exact PyProof.Rows.callWith_builtin1 (thn (ha pos pins s σ H _ I h) fun us s1 ⟨vs, H1, I1, r1, q1⟩ => hc pins s1 σ H1 vs us Q I1 r1 q1) he hpl
/-- T(e, ..), T a built-in type -/
theorem pe_callTy (hc : CallR X (.type T) r) (hg : Gl X x) (hm : X.mg x = none) (hv : bootBuiltins x = some (.type T)) (ha : PA X (e :: es) t) (hn : x ≠ "__name__" := by decide) (hdb : (x == ("__debug__" : Str)) = false := by decide)
    (he : starEach (e :: es) X.env = (false, eval e X.env) :: starEach es X.env := by rfl) (hpl : (backTo pos (starEach es X.env)).any (·.1) = false := by rfl) : PE X (.Call (.Name x p) (e :: es) [] pos) (tCB r t) := by
  intro pins s σ H Q I h
  refine wpAny_Call_Name_kw (ld_blt I hg hm hv ?_ hn hdb)
  exact PyProof.Rows.callWith_type1 (thn (ha pos pins s σ H _ I h) fun us s1 ⟨vs, H1, I1, r1, q1⟩ => hc pins s1 σ H1 vs us Q I1 r1 q1) he hpl
end
end L2
namespace HT
open PySem PyProof.Rows
section
open PySem.SeqAt
open PySem.AutoSeq1 (wpAny_loadPart')
open PySem.MeetsSeq PySem.MeetsSeq2 PySem.MeetsSeq3
end
section
variable {prog : Program} {w : World} {A : Around} {E : Value → Shared → Prop} {s : Shared}
/-- t + u, t not empty -/
theorem cat_tup {t b : Addr} {vs ws : List Value} {Q : Value → Shared → Prop} (ht : IsTup s.heap t vs.toArray) (hb : IsTup s.heap b ws.toArray) (hv : vs ≠ [])
    (h1 : ws = [] → Q (.ref t) s) (h2 : ws ≠ [] → Q (.ref s.heap.objs.size) { s with heap := s.heap.push { cls := .type "tuple", data := .seq (vs ++ ws).toArray } })
    (hsz : vs.length + ws.length ≤ sizeLine) : wpAny (model prog w) A (binaryOp .Add (.ref t) (.ref b)) Q E s := by
  obtain ⟨⟨cls, dd, data, sl⟩, ho, hc, n, hd⟩ := id ht
  obtain ⟨⟨cls2, dd2, data2, sl2⟩, ho2, hc2, n2, hd2⟩ := id hb
  simp only at hc hd hc2 hd2
  subst hc hd hc2 hd2
  have e : vs.toArray ++ ws.toArray = (vs ++ ws).toArray := by simp
  by_cases hw : ws = []
  · exact concat_meets ⟨_, ho, rfl⟩ ⟨_, ho2, rfl⟩ noFill_tuple_add seq_tuple_add PySem.F.slot_tuple_add PySem.F.entry_tuple_add (PySem.F.args_tuple_add_2 _ _)
      (tuple_addW1 t b vs.toArray ws.toArray n n2 dd dd2 sl sl2 (by simpa using hv) (by simp [hw])) ⟨ho, ho2, h1 hw⟩
  · refine concat_meets ⟨_, ho, rfl⟩ ⟨_, ho2, rfl⟩ noFill_tuple_add seq_tuple_add PySem.F.slot_tuple_add PySem.F.entry_tuple_add (PySem.F.args_tuple_add_2 _ _)
      (tuple_addW2 t b vs.toArray ws.toArray n n2 dd dd2 sl sl2 (by simpa using hv) (by simpa using hw) (by rw [List.size_toArray, List.size_toArray]; exact hsz)) ⟨ho, ho2, ?_⟩
    rw [e]
    exact h2 hw
/-! ### t[a:b], not the whole -/
/-- a slice's bound as a place among n (d where it is left out) -/
def sIx (n d : Nat) : Option Int → Nat
  | none => d
  | some v => if v < 0 then (v + (n : Int)).toNat else min v.toNat n
theorem sIx_nat (n d k : Nat) : sIx n d (some (k : Int)) = min k n := by
  show (if (k : Int) < 0 then ((k : Int) + (n : Int)).toNat else min (k : Int).toNat n) = min k n
  rw [if_neg (by omega), Int.toNat_natCast]
theorem sIx_le (n d : Nat) (hd : d ≤ n) (o : Option Int) : sIx n d o ≤ n := by
  cases o with
  | none => exact hd
  | some v =>
    show (if v < 0 then (v + (n : Int)).toNat else min v.toNat n) ≤ n
    by_cases hv : v < 0
    · rw [if_pos hv]; omega
    · rw [if_neg hv]; exact Nat.min_le_right _ _
theorem clip_eq (v : Int) (n d : Nat) : (if v < 0 then max (v + (n : Int)) 0 else min v (n : Int)) = ((sIx n d (some v) : Nat) : Int) := by
  show (if v < 0 then max (v + (n : Int)) 0 else min v (n : Int)) = (((if v < 0 then (v + (n : Int)).toNat else min v.toNat n) : Nat) : Int)
  by_cases hv : v < 0
  · simp only [if_pos hv]; omega
  · simp only [if_neg hv]; omega
theorem adjust_gen (lo hi : Option Int) (n : Nat) : Builtin.Slice.sliceAdjust lo hi 1 (n : Int) = (((sIx n 0 lo : Nat) : Int), ((sIx n n hi : Nat) : Int)) := by
  have h1 : ¬ ((1 : Int) < 0) := by omega
  unfold Builtin.Slice.sliceAdjust
  simp only [h1, if_false]
  refine Prod.ext ?_ ?_
  · cases lo with
    | none => rfl
    | some v => exact clip_eq v n 0
  · cases hi with
    | none => rfl
    | some v => exact clip_eq v n n
theorem places_gen (i j : Nat) : Builtin.Slice.slicePlaces (i : Int) (j : Int) 1 = j - i := by
  unfold Builtin.Slice.slicePlaces
  have h1 : (1 : Int) > 0 := by omega
  simp only [h1, if_true, Int.ediv_one]
  split <;> omega
theorem slicePart_ {v : Value} {o : Option Int} {Q : Option Int → Shared → Prop} (p : IsPart v o) (h : Q o s) : wpAny (model prog w) A (Builtin.Slice.slicePartIndex v) Q E s := by
  cases p with
  | none => exact slicePart_none h
  | int i t => exact slicePart_int h
theorem sliceApplied_gen {sl : Addr} {vl vu : Value} {lo hi : Option Int} {n : Nat} {Q : Int × Int × Nat → Shared → Prop} (hs : s.heap.IsSliceOf sl vl vu .none) (pl : IsPart vl lo) (pu : IsPart vu hi)
    (h : Q (((sIx n 0 lo : Nat) : Int), 1, sIx n n hi - sIx n 0 lo) s) : wpAny (model prog w) A (Builtin.Slice.sliceApplied (.ref sl) (pure (n : Int))) Q E s := by
  obtain ⟨os, hos, hcs, hds⟩ := id hs
  unfold Builtin.Slice.sliceApplied Builtin.Slice.sliceFields
  refine wpAny_bind (wpAny_bind (wpAny_field hos hds (x := vl) rfl (wpAny_bind (wpAny_field hos hds (x := vu) rfl (wpAny_bind (wpAny_field hos hds (x := .none) rfl (wpAny_pure ?_)))))))
  refine wpAny_bind (slicePart_none ?_)
  show wpAny _ _ (if ((1 : Int) == 0) = true then _ else _) _ _ s
  rw [if_neg (by decide)]
  refine wpAny_bind (slicePart_ pl (wpAny_bind (slicePart_ pu (wpAny_bind (wpAny_pure ?_)))))
  show wpAny _ _ (match Builtin.Slice.sliceAdjust lo hi 1 (n : Int) with | (lo, hi) => pure (lo, (1 : Int), Builtin.Slice.slicePlaces lo hi 1)) _ _ s
  rw [adjust_gen lo hi n]
  show wpAny _ _ (pure (((sIx n 0 lo : Nat) : Int), (1 : Int), Builtin.Slice.slicePlaces ((sIx n 0 lo : Nat) : Int) ((sIx n n hi : Nat) : Int) 1)) _ _ s
  rw [places_gen]
  exact wpAny_pure h
theorem pick_gen (xs : Array Value) (i k : Nat) : ((List.range k).filterMap fun (m : Nat) => xs[((i : Int) + (m : Int) * 1).toNat]?).toArray = ((xs.toList.drop i).take k).toArray := by
  have e : (fun (m : Nat) => xs[((i : Int) + (m : Int) * 1).toNat]?) = fun m => xs[i + m]? := by
    funext m
    have : ((i : Int) + (m : Int) * 1).toNat = i + m := by omega
    rw [this]
  rw [e]
  have := pick_run xs i k
  rw [List.filterMap_map] at this
  have e2 : ((fun x => xs[x]?) ∘ fun x => i + x) = fun m => xs[i + m]? := rfl
  rw [e2] at this
  rw [this]
theorem getItem_tuple_cut {t sl : Addr} {items : Array Value} {vl vu : Value} {lo hi : Option Int} {Q : Value → Shared → Prop} (ht : IsTup s.heap t items) (hs : s.heap.IsSliceOf sl vl vu .none) (pl : IsPart vl lo) (pu : IsPart vu hi)
    (hw : ¬ (sIx items.size 0 lo = 0 ∧ sIx items.size items.size hi = items.size))
    (h : Q (.ref s.heap.objs.size) { s with heap := s.heap.push { cls := .type "tuple", data := .seq ((items.toList.drop (sIx items.size 0 lo)).take (sIx items.size items.size hi - sIx items.size 0 lo)).toArray } })
    (hsz : items.size ≤ sizeLine) : wpAny (model prog w) A (getItem (.ref t) (.ref sl)) Q E s := by
  have htake : sizeOk (.seq ((items.toList.drop (sIx items.size 0 lo)).take (sIx items.size items.size hi - sIx items.size 0 lo)).toArray) := by
    show ((items.toList.drop (sIx items.size 0 lo)).take (sIx items.size items.size hi - sIx items.size 0 lo)).toArray.size ≤ sizeLine
    rw [List.size_toArray, List.length_take, List.length_drop, Array.length_toList]
    omega
  have hj : sIx items.size items.size hi ≤ items.size := sIx_le _ _ (Nat.le_refl _) hi
  obtain ⟨os, hos, hcs, hds⟩ := id hs
  have hTs : s.TypeIs (.ref sl) "slice" := ⟨os, hos, hcs⟩
  unfold getItem
  try with_reducible refine wpAny_holding ?_
  first | refine wpAny_bind (wpAny_pure ?_) | skip
  refine wpAny_bind (wpAny_sequenceKey ht.typeIs (by decide) ?_)
  refine wpAny_bind (wpAny_callSpecial?_slot (name := Str.ofString "__getitem__") ht.typeIs PyProof.Rows.slot_tuple_getitem
    (wpAny_call_entry PyProof.Rows.slot_tuple_getitem ht.typeIs entry_tuple_getitem ?_ (args_tuple_getitem _ _)))
  show wpAny _ _ (Builtin.Tuple.tupleItemsOf (.ref t) >>= _) _ _ s
  refine wpAny_bind (tupleItemsOf_ ht ?_)
  refine wpAny_bind (wpAny_typeOf hTs ?_)
  rw [if_pos (by decide)]
  refine wpAny_bind (sliceApplied_gen hs pl pu ?_)
  have hno : ¬ ((((sIx items.size 0 lo : Nat) : Int) == 0 && (1 : Int) == 1 && (sIx items.size items.size hi - sIx items.size 0 lo) == items.size) = true) := by
    intro q
    rw [Bool.and_eq_true, Bool.and_eq_true] at q
    have q1 : ((sIx items.size 0 lo : Nat) : Int) = 0 := eq_of_beq q.1.1
    have q2 : sIx items.size items.size hi - sIx items.size 0 lo = items.size := eq_of_beq q.2
    exact hw ⟨by omega, by omega⟩
  show wpAny _ _ (if (((sIx items.size 0 lo : Nat) : Int) == 0 && (1 : Int) == 1 && (sIx items.size items.size hi - sIx items.size 0 lo) == items.size) = true then _ else _) _ _ s
  rw [if_neg hno, pick_gen]
  first
    | exact wpAny_bind (m := Builtin.Tuple.tupleExact _) (wpAny_newObj_type (wpAny_pure ⟨_, rfl, wpAny_pure h⟩) htake)
    | exact wpAny_bind (m := Builtin.Tuple.tupleExact _) (wpAny_newObj_type (wpAny_bind (wpAny_pure (wpAny_pure ⟨_, rfl, wpAny_pure h⟩))) htake)
    | exact wpAny_bind (wpAny_bind (m := Builtin.Tuple.tupleExact _) (wpAny_newObj_type (wpAny_pure (wpAny_pure ⟨_, rfl, wpAny_pure h⟩)) htake))
    | exact wpAny_bind (wpAny_bind (m := Builtin.Tuple.tupleExact _) (wpAny_newObj_type (wpAny_pure ⟨_, rfl, wpAny_pure h⟩) htake))
end
end HT
namespace L2
open PySem PySem.Spec PyProof.Rows
/-! ### the parts of a slice -/
abbrev TO := St → Hp → (Option Int → Hp → Prop) → Prop
/-- a slice's part (left out, or an int) -/
def PO (X : Cx) (e : Option Expr) (t : TO) : Prop :=
  ∀ (pins : List (Addr × Obj)) (s : Shared) (σ : St) (H : Hp) (Q : Option Int → Hp → Prop), Inv X pins σ H s → t σ H Q →
    wpAny (model X.prog X.w) X.A (evalPart e X.env) (fun u s' => ∃ o H', Inv X pins σ H' s' ∧ IsPart u o ∧ Q o H') X.xe s
def tNoPart : TO := fun _ H Q => Q none H
def tPart (t : TE) : TO := fun σ H Q => t σ H fun x H1 => ∃ i, x = .int i ∧ Q (some i) H1
theorem intsAre_of {ns : List Int} : ∀ {us : List Value}, Vals (ns.map V.int) us → IntsAre us ns := by
  induction ns with
  | nil => intro us r; rw [List.map_nil] at r; cases r; exact .nil
  | cons n ns ih =>
    intro us r
    rw [List.map_cons] at r
    cases r with
    | cons r1 r2 =>
      obtain ⟨t, e⟩ := r1
      subst e
      exact .cons n t (ih r2)
section
variable {X : Cx} {e : Expr} {te : TE} {lo hi : Option Expr} {tl th : TO} {pos p2 : Pos}
theorem po_none : PO X none tNoPart := by
  intro pins s σ H Q I h
  rw [evalPart_none]
  exact wpAny_pure ⟨none, H, I, .none, h⟩
theorem po_some (h : PE X e te) : PO X (some e) (tPart te) := by
  intro pins s σ H Q I hw
  rw [evalPart_some]
  refine thn (h pins s σ H _ I hw) fun u s1 ⟨x, H1, I1, r1, q1⟩ => ?_
  obtain ⟨i, rfl, q⟩ := q1
  obtain ⟨t, rfl⟩ := r1
  exact ⟨some i, H1, I1, .int i t, q⟩
/-- what a slice of a value is, by values: the slice object stands at sl -/
def SlR (X : Cx) (r : V → Option Int → Option Int → Hp → VK → Prop) : Prop :=
  ∀ (pins : List (Addr × Obj)) (s : Shared) (σ : St) (H : Hp) (x : V) (v vl vu : Value) (lo hi : Option Int) (sl : Addr) (Q : VK), Inv X pins σ H s → RelV x v → s.heap.IsSliceOf sl vl vu .none → IsPart vl lo → IsPart vu hi → r x lo hi H Q →
    ∃ T id, typeLookup (.type T) "__getitem__" = pure (some (.builtin id)) ∧ s.TypeIs v T ∧ wpAny (model X.prog X.w) X.A (getItem v (.ref sl)) (EP X pins σ Q) X.xe s
def tSl (r : V → Option Int → Option Int → Hp → VK → Prop) (te : TE) (tl th : TO) : TE := fun σ H Q => te σ H fun x H1 => tl σ H1 fun l H2 => th σ H2 fun u H3 => r x l u H3 Q
/-- a[lo:hi], any a -/
theorem pe_slice {r : V → Option Int → Option Int → Hp → VK → Prop} (hr : SlR X r) (he : PE X e te) (hl : PO X lo tl) (hu : PO X hi th) : PE X (.Subscript e (.Slice lo hi none p2) pos) (tSl r te tl th) := by
  intro pins s σ H Q I h
  refine Subscript_ (thn (he pins s σ H _ I h) fun v s1 ⟨x, H1, I1, r1, q1⟩ => ?_)
  refine wpAny_Slice (thn (hl pins s1 σ H1 _ I1 q1) fun vl s2 ⟨l, H2, I2, pl, q2⟩ => thn (hu pins s2 σ H2 _ I2 q2) fun vu s3 ⟨u, H3, I3, pu, q3⟩ => ?_)
  rw [evalPart_none]
  refine wpAny_pure ?_
  have I4 : Inv X pins σ H3 { s3 with heap := s3.heap.push { cls := .type "slice", data := .fields #[vl, vu, .none] } } := I3.kept (t' := s3.toks) fun b ob q => Heap.get?_push_of_some _ q
  obtain ⟨T, id, hT, ht, hg⟩ := hr pins { s3 with heap := s3.heap.push { cls := .type "slice", data := .fields #[vl, vu, .none] } } σ H3 x v vl vu l u s3.heap.objs.size Q I4 r1 (Heap.IsSliceOf.new ..) pl pu q3
  show wpAny (model X.prog X.w) X.A (subscriptTail e (.Slice lo hi none p2) v (.ref s3.heap.objs.size)) (EP X pins σ Q) X.xe { s3 with heap := s3.heap.push { cls := .type "slice", data := .fields #[vl, vu, .none] } }
  exact tail_any (ops := [.ref s3.heap.objs.size, v]) ht hT hg (by with_unfolding_all rfl)
/-- the items of xs[lo:hi] -/
def cutV (xs : List V) (lo hi : Option Int) : List V := (xs.drop (HT.sIx xs.length 0 lo)).take (HT.sIx xs.length xs.length hi - HT.sIx xs.length 0 lo)
theorem cutV_length (xs : List V) (lo hi : Option Int) : (cutV xs lo hi).length ≤ xs.length := by
  unfold cutV
  rw [List.length_take, List.length_drop]
  omega
/-- t[lo:hi], not the whole of it (the whole would be t itself) -/
def rSlT (K : PySem.W.Frag) : V → Option Int → Option Int → Hp → VK → Prop := fun x lo hi H Q => ∃ a xs, x = .ref a ∧ SqT K H a xs ∧
  ¬ (HT.sIx xs.length 0 lo = 0 ∧ HT.sIx xs.length xs.length hi = xs.length) ∧ ∀ p, H p = none → Q (.ref p) (upd H p (.tup (cutV xs lo hi)))
theorem sl_tup : SlR X (rSlT X.K) := by
  intro pins s σ H x v vl vu lo hi sl Q I rx hs pl pu h
  obtain ⟨a, xs, rfl, hx, hw, q⟩ := h
  cases rx
  obtain ⟨its, r, ht, hz⟩ := I.tuple hx
  have hlen : its.toArray.size = xs.length := by rw [List.size_toArray]; exact r.length.symm
  refine ⟨"tuple", _, PyProof.Rows.slot_tuple_getitem.lookup, ht.typeIs, ?_⟩
  refine HT.getItem_tuple_cut ht hs pl pu (by rw [hlen]; exact hw) ?_ (by rw [hlen]; exact hz)
  rw [hlen]
  refine ⟨.ref s.heap.objs.size, _, I.laid (t' := s.toks) (o := .tup (cutV xs lo hi)) (fun b ob q => Heap.get?_push_of_some _ q) (Nat.le_refl _) ?_, rfl, q _ (I.hok.fresh (Nat.le_refl _))⟩
  exact ⟨Nat.le_trans (cutV_length xs lo hi) hz, _, (r.drop (HT.sIx xs.length 0 lo)).take (HT.sIx xs.length xs.length hi - HT.sIx xs.length 0 lo), IsTup.new _ _⟩
/-! ### t < u, t + u -/
/-- t + u, t not empty: u empty gives t itself -/
def rCatT (K : PySem.W.Frag) : R2 := fun x y H Q => ∃ a b xs ys, x = .ref a ∧ y = .ref b ∧ SqT K H a xs ∧ SqT K H b ys ∧ xs ≠ [] ∧ xs.length + ys.length ≤ sizeLine ∧
  (ys = [] → Q (.ref a) H) ∧ (ys ≠ [] → ∀ p, H p = none → Q (.ref p) (upd H p (.tup (xs ++ ys))))
theorem Vals.nil_iff {xs : List V} {us : List Value} (r : Vals xs us) : us = [] ↔ xs = [] := by
  cases r with
  | nil => simp
  | cons _ _ => simp
theorem op_catT : OpR X (binaryOp .Add) (rCatT X.K) := by
  intro pins s σ H x y v u Q I rx ry h
  obtain ⟨a, b, xs, ys, rfl, rfl, ha, hb, hx, hz, q1, q2⟩ := h
  cases rx
  cases ry
  obtain ⟨its, r1, p1, _⟩ := I.tuple ha
  obtain ⟨its2, r2, p2, _⟩ := I.tuple hb
  refine HT.cat_tup p1 p2 (fun z => hx (r1.nil_iff.mp z)) (fun z => ⟨.ref a, H, I, rfl, q1 (r2.nil_iff.mp z)⟩) (fun z => ?_) (by rw [← r1.length, ← r2.length]; exact hz)
  refine ⟨.ref s.heap.objs.size, _, I.laid (t' := s.toks) (o := .tup (xs ++ ys)) (fun b ob q => Heap.get?_push_of_some _ q) (Nat.le_refl _) ?_, rfl, q2 (fun w => z (r2.nil_iff.mpr w)) _ (I.hok.fresh (Nat.le_refl _))⟩
  exact ⟨by rw [List.length_append]; exact hz, _, r1.append r2, IsTup.new _ _⟩
end
end L2
namespace L2
open PySem PySem.Spec PyProof.Rows
/-! ### places -/
/-- the place that an index of any sign means -/
def ixN (n : Nat) (i : Int) : Option Nat := if 0 ≤ i then (if i < n then some i.toNat else none) else if -(n : Int) ≤ i then some (i + n).toNat else none
def atI {α : Type} (xs : List α) (i : Int) : Option α := (ixN xs.length i).bind fun j => xs[j]?
theorem ixN_seq {n : Nat} {i : Int} {j : Nat} (h : ixN n i = some j) : seqIndex? i n = some j ∧ j < n ∧ -(n : Int) ≤ i ∧ i < n := by
  unfold ixN at h
  by_cases h0 : 0 ≤ i
  · rw [if_pos h0] at h
    by_cases h1 : i < n
    · rw [if_pos h1] at h
      have e : i.toNat = j := Option.some.inj h
      exact ⟨by rw [seqIndex_of h0 h1, e], by omega, by omega, h1⟩
    · rw [if_neg h1] at h; cases h
  · rw [if_neg h0] at h
    by_cases h1 : -(n : Int) ≤ i
    · rw [if_pos h1] at h
      have e : (i + n).toNat = j := Option.some.inj h
      exact ⟨by rw [seqIndex_neg (by omega) h1, e], by omega, h1, by omega⟩
    · rw [if_neg h1] at h; cases h
theorem atI_get {α : Type} {xs : List α} {i : Int} {v : α} (h : atI xs i = some v) : ∃ j, seqIndex? i xs.length = some j ∧ xs[j]? = some v ∧ j < xs.length ∧ -(xs.length : Int) ≤ i ∧ i < xs.length := by
  unfold atI at h
  cases e : ixN xs.length i with
  | none => rw [e] at h; cases h
  | some j =>
    rw [e] at h
    obtain ⟨h1, h2, h3, h4⟩ := ixN_seq e
    exact ⟨j, h1, h, h2, h3, h4⟩
theorem atI_nat {α : Type} {xs : List α} {j : Nat} {v : α} (h : xs[j]? = some v) : atI xs (j : Int) = some v := by
  have hj : j < xs.length := (List.getElem?_eq_some_iff.mp h).1
  have e : ixN xs.length (j : Int) = some j := by
    unfold ixN
    rw [if_pos (by omega), if_pos (by omega)]; simp
  unfold atI; rw [e]; exact h
theorem atI_last {α : Type} (xs : List α) (v : α) : atI (xs ++ [v]) (-1) = some v := by
  have hl : (xs ++ [v]).length = xs.length + 1 := by simp
  have e : ixN (xs ++ [v]).length (-1) = some xs.length := by
    unfold ixN
    rw [hl, if_neg (by decide), if_pos (by omega)]
    congr 1
    omega
  unfold atI
  rw [e]
  show (xs ++ [v])[xs.length]? = some v
  simp
/-! ### what may be subscripted -/
/-- what stands as an index of a plain subscript -/
def PlainIx (b : Expr) : Prop := ∀ o i, subscripted b false o i = operate [o, i] (getItem o i)
/-- a subscript by values -/
def IxR (X : Cx) (r : R2) : Prop :=
  ∀ (value slice : Expr) (pins : List (Addr × Obj)) (s : Shared) (σ : St) (H : Hp) (x y : V) (v u : Value) (Q : VK), Inv X pins σ H s → RelV x v → RelV y u → r x y H Q →
    subscripted slice false v u = operate [v, u] (getItem v u) → wpAny (model X.prog X.w) X.A (subscriptTail value slice v u) (EP X pins σ Q) X.xe s
/-- a call of a builtin's method by values: the receiver, the arguments -/
def MtR (X : Cx) (id : String) (r : V → List V → Hp → VK → Prop) : Prop :=
  ∀ (pins : List (Addr × Obj)) (s : Shared) (σ : St) (H : Hp) (x : V) (xs : List V) (v : Value) (us : List Value) (Q : VK), Inv X pins σ H s → RelV x v → Vals xs us → r x xs H Q →
    wpAny (model X.prog X.w) X.A (call (.builtin id) (v :: us)) (EP X pins σ Q) X.xe s
section
variable {X : Cx} {a b : Expr} {ta tb : TE} {pos : Pos}
theorem IxR.or {r r' : R2} (h : IxR X r) (h' : IxR X r') : IxR X (fun x y H Q => r x y H Q ∨ r' x y H Q) := by
  intro value slice pins s σ H x y v u Q I rx ry q hs
  rcases q with q | q
  · exact h value slice pins s σ H x y v u Q I rx ry q hs
  · exact h' value slice pins s σ H x y v u Q I rx ry q hs
/-- a[b] -/
theorem pe_ix {r : R2} (hr : IxR X r) (ha : PE X a ta) (hb : PE X b tb) (hs : PlainIx b) : PE X (.Subscript a b pos) (tOp r ta tb) := by
  intro pins s σ H Q I h
  exact Subscript_ (binT ha hb I h fun v u s2 x y H2 I2 rx ry q => hr a b pins s2 σ H2 x y v u Q I2 rx ry q (hs _ _))
def rIxL (K : PySem.W.Frag) : R2 := fun x y H Q => ∃ p xs i v, x = .ref p ∧ y = .int i ∧ SqL K H p xs ∧ atI xs i = some v ∧ Q v H
def rIxT (K : PySem.W.Frag) : R2 := fun x y H Q => ∃ p xs i v, x = .ref p ∧ y = .int i ∧ SqT K H p xs ∧ atI xs i = some v ∧ Q v H
def rIxS : R2 := fun x y H Q => ∃ z i c, x = .str z ∧ y = .int i ∧ z.length ≤ sizeLine ∧ atI z.cps.toList i = some c ∧ Q (.str ⟨#[c]⟩) H
theorem ix_list : IxR X (rIxL X.K) := by
  intro value slice pins s σ H x y v u Q I rx ry h hs
  obtain ⟨p, xs, i, z, rfl, rfl, hq, he, q⟩ := h
  cases rx
  obtain ⟨t, rfl⟩ := ry
  obtain ⟨its, r, pl, hz⟩ := I.list hq
  obtain ⟨j, h1, h2, h3, h4, h5⟩ := atI_get he
  obtain ⟨w, ew, rw'⟩ := r.get h2
  have hl := r.length
  have hn := line63
  have fin : EP X pins σ Q w s := ⟨z, H, I, rw', q⟩
  by_cases h0 : 0 ≤ i
  · have hj : i.toNat = j := by
      rw [seqIndex_of h0 h5] at h1
      exact Option.some.inj h1
    exact item_listR pl.isList h0 (by omega) (by rw [hj]; simpa using ew) fin hs
  · have hj : (i + (its.toArray.size : Int)).toNat = j := by
      rw [seqIndex_neg (by omega) h4] at h1
      rw [List.size_toArray, ← hl]
      exact Option.some.inj h1
    exact subscriptTail_builtinR (x := w) pl.isList.typeIs slot_list_getitem.lookup
      (wpAny_getItem_list_neg (Q := fun r s' => r = w ∧ EP X pins σ Q r s') pl.isList (by omega) (by rw [List.size_toArray] <;> omega) (by omega) (by rw [hj]; simpa using ew) ⟨rfl, fin⟩) hs
theorem ix_tup : IxR X (rIxT X.K) := by
  intro value slice pins s σ H x y v u Q I rx ry h hs
  obtain ⟨p, xs, i, z, rfl, rfl, hq, he, q⟩ := h
  cases rx
  obtain ⟨t, rfl⟩ := ry
  obtain ⟨its, r, pl, hz⟩ := I.tuple hq
  obtain ⟨j, h1, h2, h3, h4, h5⟩ := atI_get he
  obtain ⟨w, ew, rw'⟩ := r.get h2
  have hl := r.length
  have hn := line63
  have fin : EP X pins σ Q w s := ⟨z, H, I, rw', q⟩
  exact subscriptTail_builtinR (x := w) pl.typeIs slot_tuple_getitem.lookup
    (getItem_tuple (j := j) (Q := fun r s' => r = w ∧ EP X pins σ Q r s') pl (by omega) (by omega) (by rw [List.size_toArray, ← hl]; exact h1) (by simpa using ew) ⟨rfl, fin⟩) hs
theorem ix_str : IxR X rIxS := by
  intro value slice pins s σ H x y v u Q I rx ry h hs
  obtain ⟨z, i, c, rfl, rfl, hz, he, q⟩ := h
  obtain ⟨t, rfl⟩ := rx
  obtain ⟨t', rfl⟩ := ry
  obtain ⟨j, h1, h2, h3, h4, h5⟩ := atI_get he
  have hl : z.cps.toList.length = z.length := by simp [Str.length]
  rw [hl] at h1 h4 h5
  have hn := line63
  exact tail_any (typeIs_str s z t) slot_str_getitem.lookup (getItem_str (c := c) (by
    have e1 : decide (i < -(2 ^ 63 : Int)) = false := decide_eq_false (by omega)
    have e2 : decide (i ≥ 2 ^ 63) = false := decide_eq_false (by omega)
    rw [e1, e2, Bool.or_false]) (by rw [h1]; simpa using h2) ⟨.str ⟨#[c]⟩, H, I.tok _, ⟨_, rfl⟩, q⟩) hs
/-! ### xs[i] = v, any sign -/
/-- the list's object behind a store -/
theorem mapSeq_set (its : List Value) (n j : Nat) (u : Value) : Obj.mapSeq (·.setIfInBounds j u) { cls := .type "list", data := .seq its.toArray n } = { cls := .type "list", data := .seq (its.set j u).toArray n } := by
  simp [Obj.mapSeq]
theorem Inv.lst {pins : List (Addr × Obj)} {σ : St} {H : Hp} {s : Shared} {p : Addr} {xs : List V} (I : Inv X pins σ H s) (h : H p = some (.lst xs)) :
    ∃ (its : List Value) (n : Nat), Vals xs its ∧ s.heap.get? p = some { cls := .type "list", data := .seq its.toArray n } ∧ xs.length ≤ sizeLine := by
  obtain ⟨z, its, n, r, e⟩ := I.hok p _ h
  exact ⟨its, n, r, e, z⟩
/-- the list at p is written by an update of its object -/
theorem Inv.lstUpd {pins : List (Addr × Obj)} {σ : St} {H : Hp} {s : Shared} {p : Addr} {xs ys : List V} {its its' : List Value} {n n' : Nat} {f : Obj → Obj} (I : Inv X pins σ H s) (h : H p = some (.lst xs))
    (ho : s.heap.get? p = some { cls := .type "list", data := .seq its.toArray n }) (hf : f { cls := .type "list", data := .seq its.toArray n } = { cls := .type "list", data := .seq its'.toArray n' }) (r : Vals ys its') (hz : ys.length ≤ sizeLine) (t : Nat) :
    Inv X pins σ (upd H p (.lst ys)) { s with heap := s.heap.update p f, toks := t } := by
  have e : (s.heap.update p f).get? p = some { cls := .type "list", data := .seq its'.toArray n' } := by
    rw [Heap.get?_update_self f ho (by rw [hf] <;> rfl), hf]
  refine I.write (x := p) (e := p) (by rw [h]; trivial) (.inl rfl) (fun b u hb q => (Heap.get?_update_other _ _ (Ne.symm hb)).trans q) ⟨_, e⟩ ?_
  exact ⟨hz, its', n', r, e⟩
def rSetL : V → V → V → Hp → (Hp → Prop) → Prop := fun o i v H Q => ∃ p xs k j, o = .ref p ∧ i = .int k ∧ H p = some (.lst xs) ∧ ixN xs.length k = some j ∧ Q (upd H p (.lst (xs.set j v)))
theorem set_list : PSet X rSetL := by
  intro pins s σ H o i v ov iv u Q I ro ri rv h
  obtain ⟨p, xs, k, j, rfl, rfl, hp, hj, q⟩ := h
  cases ro
  obtain ⟨t, rfl⟩ := ri
  obtain ⟨its, n, r, ho, hz⟩ := I.lst hp
  obtain ⟨h1, h2, h3, h4⟩ := ixN_seq hj
  have hl := r.length
  have hn := line63
  have I' : Inv X pins σ (upd H p (.lst (xs.set j v))) { s with heap := s.heap.update p (Obj.mapSeq (·.setIfInBounds j u)) } :=
    I.lstUpd hp ho (mapSeq_set its n j u) (r.set rv j) (by rw [List.length_set]; exact hz) s.toks
  by_cases h0 : 0 ≤ k
  · have hk : k.toNat = j := by
      rw [seqIndex_of h0 h4] at h1
      exact Option.some.inj h1
    exact PySem.W.ki_setAt ho h0 (by omega) (by rw [List.size_toArray, ← hl]; exact h4) (by rw [hk]; exact ⟨_, I', q⟩)
  · have hk : (k + (its.toArray.size : Int)).toNat = j := by
      rw [seqIndex_neg (by omega) h3] at h1
      rw [List.size_toArray, ← hl]
      exact Option.some.inj h1
    exact PySem.W.ki_setBack ho (by omega) (by rw [List.size_toArray, ← hl]; exact h3) (by omega) (by rw [hk]; exact ⟨_, I', q⟩)
/-! ### slices -/
theorem slice_bounds (lo hi : Option Int) (n : Nat) : (sliceBounds lo hi none n).1 = ((HT.sIx n 0 lo : Nat) : Int) ∧ (sliceBounds lo hi none n).2.1 = ((HT.sIx n n hi : Nat) : Int) ∧ (sliceBounds lo hi none n).2.2 = 1 := by
  refine ⟨?_, ?_, rfl⟩
  · cases lo with
    | none => simp [sliceBounds, HT.sIx]
    | some i =>
      simp only [sliceBounds, HT.sIx, Option.getD_none, show (1 : Int) > 0 by decide, if_true]
      by_cases h : i < 0
      · simp only [h, if_true] <;> omega
      · simp only [h, if_false] <;> omega
  · cases hi with
    | none => simp [sliceBounds, HT.sIx]
    | some i =>
      simp only [sliceBounds, HT.sIx, Option.getD_none, show (1 : Int) > 0 by decide, if_true]
      by_cases h : i < 0
      · simp only [h, if_true] <;> omega
      · simp only [h, if_false] <;> omega
theorem slicePick_cut (its : List Value) (lo hi : Option Int) : slicePick its.toArray lo hi none = ((its.drop (HT.sIx its.length 0 lo)).take (HT.sIx its.length its.length hi - HT.sIx its.length 0 lo)).toArray := by
  obtain ⟨h1, h2, h3⟩ := slice_bounds lo hi its.toArray.size
  unfold slicePick
  rw [h1, h2, h3]
  simp only [sliceRange_one, pick_run, List.size_toArray] <;> rfl
/-- xs[lo:hi] of a list: a new list -/
def rSlL (K : PySem.W.Frag) : V → Option Int → Option Int → Hp → VK → Prop := fun x lo hi H Q => ∃ a xs, x = .ref a ∧ SqL K H a xs ∧ ∀ p, H p = none → Q (.ref p) (upd H p (.lst (cutV xs lo hi)))
theorem sl_list : SlR X (rSlL X.K) := by
  intro pins s σ H x v vl vu lo hi sl Q I rx hs pl pu h
  obtain ⟨a, xs, rfl, hx, q⟩ := h
  cases rx
  obtain ⟨its, r, ht, hz⟩ := I.list hx
  have hlen := r.length
  refine ⟨"list", _, slot_list_getitem.lookup, ht.isList.typeIs, ?_⟩
  refine wpAny_getItem_list_slice ht.isList hs pl pu .none (by simp) ?_ (by rw [List.size_toArray] <;> omega)
  rw [slicePick_cut, ← hlen]
  refine ⟨.ref s.heap.objs.size, _, I.laid (t' := s.toks) (o := .lst (cutV xs lo hi)) (fun b ob q => Heap.get?_push_of_some _ q) (Nat.le_refl _) ?_, rfl, q _ (I.hok.fresh (Nat.le_refl _))⟩
  exact ⟨Nat.le_trans (cutV_length xs lo hi) hz, _, 0, (r.drop (HT.sIx xs.length 0 lo)).take (HT.sIx xs.length xs.length hi - HT.sIx xs.length 0 lo), Heap.get?_push_size _ rfl⟩
/-! ### in, not in: flat items -/
def flatV : V → Bool
  | .non => true
  | .bl _ => true
  | .int _ => true
  | .str _ => true
  | _ => false
/-- == of flat values -/
def eqV : V → V → Bool
  | .non, .non => true
  | .bl a, .bl b => a == b
  | .bl a, .int b => (if a then 1 else 0) == b
  | .int a, .bl b => a == (if b then 1 else 0)
  | .int a, .int b => a == b
  | .str a, .str b => a == b
  | _, _ => false
theorem eqAt_V {A : Around} {s : Shared} {y x : V} {u v : Value} (ry : RelV y u) (rx : RelV x v) (fy : flatV y = true) (fx : flatV x = true) : SeqAt.EqAt A s u v (eqV y x) := by
  cases y with
  | non =>
    cases ry
    cases x with
    | non => cases rx; exact SeqAt.EqAt.same _
    | bl b => cases rx; exact SeqAt.EqAt.none_bool b
    | int b => obtain ⟨t, rfl⟩ := rx; exact SeqAt.EqAt.none_int b t
    | str b => obtain ⟨t, rfl⟩ := rx; exact SeqAt.EqAt.none_str b t
    | _ => exact absurd (show false = true from fx) Bool.false_ne_true
  | bl a =>
    cases ry
    cases x with
    | non => cases rx; exact SeqAt.EqAt.bool_none a
    | bl b => cases rx; exact SeqAt.EqAt.bool_bool a b
    | int b => obtain ⟨t, rfl⟩ := rx; exact SeqAt.EqAt.bool_int a b t
    | str b => obtain ⟨t, rfl⟩ := rx; exact SeqAt.EqAt.bool_str a b t
    | _ => exact absurd (show false = true from fx) Bool.false_ne_true
  | int a =>
    obtain ⟨t', rfl⟩ := ry
    cases x with
    | non => cases rx; exact SeqAt.EqAt.int_none a t'
    | bl b => cases rx; exact SeqAt.EqAt.int_bool a t' b
    | int b => obtain ⟨t, rfl⟩ := rx; exact SeqAt.EqAt.int_int a t' b t
    | str b => obtain ⟨t, rfl⟩ := rx; exact SeqAt.EqAt.int_str a t' b t
    | _ => exact absurd (show false = true from fx) Bool.false_ne_true
  | str a =>
    obtain ⟨t', rfl⟩ := ry
    cases x with
    | non => cases rx; exact SeqAt.EqAt.str_none a t'
    | bl b => cases rx; exact SeqAt.EqAt.str_bool a t' b
    | int b => obtain ⟨t, rfl⟩ := rx; exact SeqAt.EqAt.str_int a t' b t
    | str b => obtain ⟨t, rfl⟩ := rx; exact SeqAt.EqAt.str_str a t' b t
    | _ => exact absurd (show false = true from fx) Bool.false_ne_true
  | _ => exact absurd (show false = true from fy) Bool.false_ne_true
/-- the items' answers, read off the values (a value's own answer does not lean on its token) -/
def eqU (x : V) (u : Value) : Bool := match u with
  | .none => eqV .non x
  | .bool b => eqV (.bl b) x
  | .int i _ => eqV (.int i) x
  | .str z _ => eqV (.str z) x
  | _ => false
theorem eqU_of {x y : V} {u : Value} (r : RelV y u) (f : flatV y = true) : eqU x u = eqV y x := by
  cases y with
  | non => cases r; rfl
  | bl b => cases r; rfl
  | int i => obtain ⟨t, rfl⟩ := r; rfl
  | str z => obtain ⟨t, rfl⟩ := r; rfl
  | _ => exact absurd (show false = true from f) Bool.false_ne_true
theorem any_eqU {x : V} : ∀ {xs : List V} {us : List Value}, Vals xs us → xs.all flatV = true → us.any (eqU x) = xs.any fun y => eqV y x
  | _, _, .nil, _ => rfl
  | y :: xs, u :: us, .cons r t, f => by
    rw [List.all_cons, Bool.and_eq_true] at f
    rw [List.any_cons, List.any_cons, eqU_of r f.1, any_eqU t f.2]
theorem mem_eqAt {A : Around} {s : Shared} {x : V} {v : Value} (rx : RelV x v) (fx : flatV x = true) : ∀ {xs : List V} {us : List Value}, Vals xs us → xs.all flatV = true → ∀ u ∈ us, SeqAt.EqAt A s u v (eqU x u)
  | _, _, .nil, _ => fun u hu => by cases hu
  | y :: xs, u :: us, .cons r t, f => fun u' hu => by
    rw [List.all_cons, Bool.and_eq_true] at f
    rcases List.mem_cons.mp hu with rfl | hu
    · rw [eqU_of r f.1]; exact eqAt_V r rx f.1 fx
    · exact mem_eqAt rx fx t f.2 u' hu
def inV (x : V) (xs : List V) : Bool := xs.any fun y => eqV y x
/-- x in a list or tuple of flat items -/
def rIn (K : PySem.W.Frag) (neg : Bool) : R2 := fun x y H Q => ∃ p xs, y = .ref p ∧ (SqL K H p xs ∨ SqT K H p xs) ∧ flatV x = true ∧ xs.all flatV = true ∧ Q (.bl (if neg then !inV x xs else inV x xs)) H
theorem op_in_seq : OpR X (compareOp .In) (rIn X.K false) := by
  intro pins s σ H x y v u Q I rx ry h
  obtain ⟨p, xs, rfl, hq, fx, fs, q⟩ := h
  cases ry
  rcases hq with hq | hq
  · obtain ⟨its, r, pl, hz⟩ := I.list hq
    refine SeqAt.in_listAt (eqU x) pl.isList (fun w hw => mem_eqAt rx fx r fs w (by simpa using hw)) ⟨.bl _, H, I, rfl, ?_⟩
    rw [show its.toArray.any (eqU x) = its.any (eqU x) by simp, any_eqU r fs]
    exact q
  · obtain ⟨its, r, pl, hz⟩ := I.tuple hq
    refine SeqAt.in_tupleAt (eqU x) pl (fun w hw => mem_eqAt rx fx r fs w (by simpa using hw)) ⟨.bl _, H, I, rfl, ?_⟩
    rw [show its.toArray.any (eqU x) = its.any (eqU x) by simp, any_eqU r fs]
    exact q
theorem op_notIn_seq : OpR X (compareOp .NotIn) (rIn X.K true) := by
  intro pins s σ H x y v u Q I rx ry h
  obtain ⟨p, xs, rfl, hq, fx, fs, q⟩ := h
  cases ry
  rcases hq with hq | hq
  · obtain ⟨its, r, pl, hz⟩ := I.list hq
    refine SeqAt.notIn_listAt (eqU x) pl.isList (fun w hw => mem_eqAt rx fx r fs w (by simpa using hw)) ⟨.bl _, H, I, rfl, ?_⟩
    rw [show its.toArray.any (eqU x) = its.any (eqU x) by simp, any_eqU r fs]
    exact q
  · obtain ⟨its, r, pl, hz⟩ := I.tuple hq
    refine SeqAt.notIn_tupleAt (eqU x) pl (fun w hw => mem_eqAt rx fx r fs w (by simpa using hw)) ⟨.bl _, H, I, rfl, ?_⟩
    rw [show its.toArray.any (eqU x) = its.any (eqU x) by simp, any_eqU r fs]
    exact q
/-! ### len, list(x), tuple(x) of any list or tuple that is read -/
theorem CallR.or {f : Value} {r r' : List V → Hp → VK → Prop} (h : CallR X f r) (h' : CallR X f r') : CallR X f (fun xs H Q => r xs H Q ∨ r' xs H Q) := by
  intro pins s σ H xs us Q I rs q
  rcases q with q | q
  · exact h pins s σ H xs us Q I rs q
  · exact h' pins s σ H xs us Q I rs q
theorem call_list_of : CallR X (.type "list") (fun xs H Q => ∃ p ys, xs = [.ref p] ∧ (SqL X.K H p ys ∨ SqT X.K H p ys) ∧ ∀ l, H l = none → Q (.ref l) (upd H l (.lst ys))) := by
  intro pins s σ H xs us Q I r h
  obtain ⟨p, ys, rfl, hq, q⟩ := h
  obtain ⟨u, rfl, rx⟩ := vals1 r
  cases rx
  have fin : ∀ (its : List Value), Vals ys its → ys.length ≤ sizeLine → ∀ (h' : Heap) (c' : Nat), (∀ b o', s.heap.get? b = some o' → h'.get? b = some o') →
      h'.get? s.heap.objs.size = some { cls := .type "list", dict := none, data := .seq its.toArray c', slots := #[] } → EP X pins σ Q (.ref s.heap.objs.size) { s with heap := h' } := fun its r' hz h' c' kp e =>
    ⟨.ref s.heap.objs.size, _, I.laid (t' := s.toks) kp (Nat.le_refl _) (show ObjOk X.prog X.w _ h' _ (.lst ys) from ⟨hz, its, c', r', e⟩), rfl, q _ (I.hok.fresh (Nat.le_refl _))⟩
  rcases hq with hq | hq
  · obtain ⟨its, r', pl, hz⟩ := I.list hq
    have hlen := r'.length
    obtain ⟨o, ho, hc, n, hd⟩ := pl.isList
    exact call_list_seq p (.inl rfl) ho hc hd (fun h' c' kp e => fin its r' hz h' c' kp e) (by simp only [List.size_toArray] <;> omega)
  · obtain ⟨its, r', pl, hz⟩ := I.tuple hq
    have hlen := r'.length
    obtain ⟨o, ho, hc, n, hd⟩ := pl
    exact call_list_seq p (.inr rfl) ho hc hd (fun h' c' kp e => fin its r' hz h' c' kp e) (by simp only [List.size_toArray] <;> omega)
theorem call_tuple_of : CallR X (.type "tuple") (fun xs H Q => ∃ p ys, xs = [.ref p] ∧ ((SqL X.K H p ys ∧ ∀ l, H l = none → Q (.ref l) (upd H l (.tup ys))) ∨ (SqT X.K H p ys ∧ Q (.ref p) H))) := by
  intro pins s σ H xs us Q I r h
  obtain ⟨p, ys, rfl, h⟩ := h
  obtain ⟨u, rfl, rx⟩ := vals1 r
  cases rx
  rcases h with ⟨hq, q⟩ | ⟨hq, q⟩
  · obtain ⟨its, r', pl, hz⟩ := I.list hq
    have hlen := r'.length
    refine call_tuple_list pl.isList (fun h' kp => ?_) (by simp only [List.size_toArray] <;> omega)
    have I1 : Inv X pins σ H { s with heap := h' } := I.kept (t' := s.toks) kp
    have I2 : Inv X pins σ (upd H h'.objs.size (.tup ys)) { s with heap := h'.push { cls := .type "tuple", data := .seq its.toArray } } :=
      I1.laid (t' := s.toks) (fun b o e => Heap.get?_push_of_some _ e) (Nat.le_refl _) (show ObjOk X.prog X.w _ _ _ (.tup ys) from ⟨hz, its, r', IsTup.new _ _⟩)
    exact ⟨.ref h'.objs.size, _, I2, rfl, q _ (I1.hok.fresh (Nat.le_refl _))⟩
  · obtain ⟨its, r', pl, hz⟩ := I.tuple hq
    exact call_tuple_same pl ⟨.ref p, H, I, rfl, q⟩
/-! ### the call of a builtin's method: o.m(..) -/
/-- the value is of that builtin type -/
def tyV (K : PySem.W.Frag) (T : String) (x : V) (H : Hp) : Prop := match x with
  | .str _ => T = "str"
  | .int _ => T = "int"
  | .ref p => (T = "list" ∧ ∃ xs, SqL K H p xs) ∨ (T = "tuple" ∧ ∃ o, K.lookup p = some o ∧ o.cls = .type "tuple" ∧ o.dict = none) ∨
      (T = "dict" ∧ ((∃ kvs, H p = some (.dK kvs)) ∨ ∃ kvs, H p = some (.dT kvs))) ∨ (T = "set" ∧ ∃ S n, H p = some (.set S n))
  | _ => False
theorem tyV_is {pins : List (Addr × Obj)} {σ : St} {H : Hp} {s : Shared} {T : String} {x : V} {v : Value} (I : Inv X pins σ H s) (r : RelV x v) (ty : tyV X.K T x H) :
    s.TypeIs v T ∧ ∀ a, v = .ref a → ∃ ob, s.heap.get? a = some ob ∧ ob.dict = none := by
  cases x with
  | str z =>
    obtain ⟨t, rfl⟩ := r
    cases (show T = "str" from ty)
    exact ⟨typeIs_str s z t, fun _ e => nomatch e⟩
  | int i =>
    obtain ⟨t, rfl⟩ := r
    cases (show T = "int" from ty)
    exact ⟨typeIs_int s i t, fun _ e => nomatch e⟩
  | ref p =>
    cases r
    rcases ty with ⟨rfl, xs, hq⟩ | ⟨rfl, o, hk, hc, hd⟩ | ⟨rfl, hk⟩ | ⟨rfl, S, n, hk⟩
    · obtain ⟨its, _, pl, _⟩ := I.list hq
      refine ⟨pl.isList.typeIs, fun a e => ?_⟩
      cases e
      obtain ⟨o, n, e, c, hd, _⟩ := pl
      exact ⟨o, e, hd⟩
    · refine ⟨⟨o, I.kIn p o hk, hc⟩, fun a e => ?_⟩
      cases e
      exact ⟨o, I.kIn _ o hk, hd⟩
    · have z : ∃ o, s.heap.get? p = some o ∧ o.ExactDict := by
        rcases hk with ⟨kvs, hk⟩ | ⟨kvs, hk⟩
        · obtain ⟨_, _, _, _, o, _, _, e, ex, _⟩ := I.hok p _ hk
          exact ⟨o, e, ex⟩
        · obtain ⟨_, _, _, _, o, _, _, e, ex, _⟩ := I.hok p _ hk
          exact ⟨o, e, ex⟩
      obtain ⟨o, e, ex⟩ := z
      refine ⟨⟨o, e, ex.1⟩, fun a e2 => ?_⟩
      cases e2
      exact ⟨o, e, ex.2.1⟩
    · obtain ⟨o, _, _, _, e, ex, _⟩ := I.hok p _ hk
      refine ⟨⟨o, e, ex.1⟩, fun a e2 => ?_⟩
      cases e2
      exact ⟨o, e, ex.2.1⟩
  | _ => exact False.elim ty
def tBM0 (K : PySem.W.Frag) (T : String) (r : V → List V → Hp → VK → Prop) (to : TE) : TE := fun σ H Q => to σ H fun x H1 => tyV K T x H1 ∧ r x [] H1 Q
def tBM (K : PySem.W.Frag) (T : String) (r : V → List V → Hp → VK → Prop) (to : TE) (t : TA) : TE := fun σ H Q => to σ H fun x H1 => tyV K T x H1 ∧ t σ H1 fun xs H2 => r x xs H2 Q
variable {o e : Expr} {es : List Expr} {to : TE} {t : TA} {name : Str} {apos cpos : Pos} {T id : String} {r : V → List V → Hp → VK → Prop}
theorem pe_bm0 (pa : PlainAttrs T) (slot : Slot T name id) (hty : typeOf (.builtin id) = pure (.type "method_descriptor")) (hm : MtR X id r) (ho : PE X o to)
    (hbase : attributeBase o name X.env (eval o X.env) = eval o X.env := by rfl) (hline : (apos.endLine == cpos.line) = true := by rfl) : PE X (.Call (.Attribute o name apos) [] [] cpos) (tBM0 X.K T r to) := by
  intro pins s σ H Q I h
  refine wpAny_Call_method0_late hbase hline (thn (ho pins s σ H _ I h) fun v s1 ⟨x, H1, I1, r1, ty, q1⟩ => ?_)
  obtain ⟨h1, h2⟩ := tyV_is I1 r1 ty
  exact ⟨T, id, pa, slot, hty, h1, h2, Calls.callWith_builtin rfl (PySem.evalArgs_none (hm pins s1 σ H1 x [] v [] Q I1 r1 .nil q1))⟩
theorem pe_bm (pa : PlainAttrs T) (slot : Slot T name id) (hty : typeOf (.builtin id) = pure (.type "method_descriptor")) (hm : MtR X id r) (ho : PE X o to) (ha : PA X (e :: es) t)
    (hbase : attributeBase o name X.env (eval o X.env) = eval o X.env := by rfl)
    (hfew : ((backTo cpos (starEach (e :: es) X.env)).all (fun x => !x.1) && (backToKw cpos (keywordEach [] X.env)).all (fun x => x.1.isSome)
      && decide ((e :: es).length + ([] : List Keyword).length + (if ([] : List Keyword).isEmpty then 0 else 1) < 30)) = true := by rfl)
    (hline : (apos.endLine == cpos.line) = true := by rfl) (hs : starEach (e :: es) X.env = (false, eval e X.env) :: starEach es X.env := by rfl) (hplain : (backTo cpos (starEach es X.env)).any (·.1) = false := by rfl) :
    PE X (.Call (.Attribute o name apos) (e :: es) [] cpos) (tBM X.K T r to t) := by
  intro pins s σ H Q I h
  refine wpAny_Call_method_late hbase hfew hline rfl (thn (ho pins s σ H _ I h) fun v s1 ⟨x, H1, I1, r1, ty, q1⟩ => ?_)
  obtain ⟨h1, h2⟩ := tyV_is I1 r1 ty
  refine ⟨T, id, pa, slot, hty, h1, h2, ?_⟩
  have hA := ha cpos pins s1 σ H1 _ I1 q1
  rw [hs] at hA ⊢
  refine Calls.callWith_builtin (by show (false || (backTo cpos (starEach es X.env)).any (·.1)) = false; rw [hplain] <;> rfl) (Calls.evalArgs_plain ?_)
  exact thn hA fun us s2 ⟨vs, H2, I2, r2, q2⟩ => hm pins s2 σ H2 x vs v us Q I2 r1 r2 q2
/- xs.append(e), list.index on a module's tuple .. are MtR facts of 06m -/
end
end L2
namespace L2
open PySem PySem.Spec PyProof.Rows
def MtM (X : Cx) (id : String) (r : V → List V → Hp → VK → Prop) : Prop :=
  ∀ (pins : List (Addr × Obj)) (s : Shared) (σ : St) (H : Hp) (x : V) (xs : List V) (v : Value) (us : List Value) (Q : VK), Inv X pins σ H s → RelV x v → Vals xs us → r x xs H Q →
    wpAny (model X.prog X.w) X.A (call (.builtin id) (v :: us)) (EP X pins σ Q) X.xe s
/-! ### lists of values -/
theorem Vals.one : ∀ {x : V} {us : List Value}, Vals [x] us → ∃ u, us = [u] ∧ RelV x u
  | _, _, .cons r .nil => ⟨_, rfl, r⟩
theorem Vals.zero : ∀ {us : List Value}, Vals [] us → us = []
  | _, .nil => rfl
theorem Vals.dropLast {xs : List V} {us : List Value} (h : Vals xs us) : Vals xs.dropLast us.dropLast := by
  induction h with
  | nil => exact .nil
  | cons r t ih =>
    cases t with
    | nil => exact .nil
    | cons q t' => exact .cons r ih
theorem Vals.reverse {xs : List V} {us : List Value} (h : Vals xs us) : Vals xs.reverse us.reverse := by
  induction h with
  | nil => exact .nil
  | cons r t ih => rw [List.reverse_cons, List.reverse_cons]; exact Vals.append ih (.cons r .nil)
theorem Vals.rep {xs : List V} {us : List Value} (h : Vals xs us) : ∀ k : Nat, Vals (List.replicate k xs).flatten (List.replicate k us).flatten
  | 0 => .nil
  | k + 1 => by
    rw [List.replicate_succ, List.replicate_succ, List.flatten_cons, List.flatten_cons]
    exact Vals.append h (Vals.rep h k)
theorem erase_last {α : Type} (l : List α) : l.eraseIdx (l.length - 1) = l.dropLast := by
  induction l with
  | nil => rfl
  | cons a r ih =>
    cases r with
    | nil => rfl
    | cons b r =>
      have e : (a :: b :: r).length - 1 = ((b :: r).length - 1) + 1 := by
        have h1 : (a :: b :: r).length = r.length + 2 := rfl
        have h2 : (b :: r).length = r.length + 1 := rfl
        omega
      rw [e, List.eraseIdx_cons_succ, ih]
      all_goals rfl
theorem foldl_rep (its : List Value) : ∀ (k : Nat) (acc : List Value),
    List.foldl (fun x1 x2 => x1 ++ x2) acc.toArray (List.replicate k its.toArray) = (acc ++ (List.replicate k its).flatten).toArray
  | 0, acc => by simp
  | k + 1, acc => by
    have e : acc.toArray ++ its.toArray = (acc ++ its).toArray := by simp
    have e2 : (acc ++ its) ++ (List.replicate k its).flatten = acc ++ (List.replicate (k + 1) its).flatten := by
      rw [List.replicate_succ, List.flatten_cons, List.append_assoc]
    rw [← e2, ← foldl_rep its k (acc ++ its), ← e, List.replicate_succ, List.foldl_cons]
section
variable {X : Cx} {pins : List (Addr × Obj)} {σ : St} {H : Hp} {s : Shared} {l b : Addr} {xs ys zs : List V}
/-! ### the two steps: a tracked list is rewritten, a new list is laid -/
theorem Inv.lset {its its' : List Value} {n : Nat} {f : Array Value → Array Value} {t' : Nat} (I : Inv X pins σ H s) (hH : H l = some (.lst xs))
    (e : s.heap.get? l = some { cls := .type "list", data := .seq its.toArray n }) (hf : f its.toArray = its'.toArray) (hv : Vals ys its') (hz : ys.length ≤ sizeLine) :
    Inv X pins σ (upd H l (.lst ys)) { s with heap := s.heap.update l (Obj.mapSeq f), toks := t' } := by
  have q := PySem.IsL.update e f
  rw [hf] at q
  refine I.write (x := l) (e := l) (by rw [hH]; exact trivial) (.inl rfl) (fun b' u hb hu => (Heap.get?_update_other s.heap (Obj.mapSeq f) (Ne.symm hb)).trans hu) ⟨_, q⟩ ?_
  exact ⟨hz, its', _, hv, q⟩
theorem Inv.lnew {its : List Value} {t' : Nat} (I : Inv X pins σ H s) (hv : Vals ys its) (hz : ys.length ≤ sizeLine) :
    Inv X pins σ (upd H s.heap.objs.size (.lst ys)) { s with heap := s.heap.push { cls := .type "list", data := .seq its.toArray }, toks := t' } :=
  I.laid (fun _ _ q => Heap.get?_push_of_some _ q) (Nat.le_refl _) ⟨hz, its, 0, hv, Heap.get?_push_size _ rfl⟩
theorem Inv.fresh (I : Inv X pins σ H s) : H s.heap.objs.size = none := I.hok.fresh (Nat.le_refl _)
theorem Inv.lstM (I : Inv X pins σ H s) (hH : H l = some (.lst xs)) : xs.length ≤ sizeLine ∧ ∃ (its : List Value) (n : Nat), Vals xs its ∧ xs.length = its.length ∧ s.heap.get? l = some { cls := .type "list", data := .seq its.toArray n } := by
  obtain ⟨z, its, n, r, e⟩ := I.hok l _ hH
  exact ⟨z, its, n, r, r.length, e⟩
theorem notLongL {n : Nat} (h : n ≤ sizeLine) : Builtin.List.listTooLong n = false := by
  unfold Builtin.List.listTooLong
  exact decide_eq_false (by omega)
end
section
variable {X : Cx}
/-! ### methods -/
def rAppend : V → List V → Hp → VK → Prop := fun x vs H Q => ∃ l xs y, x = .ref l ∧ vs = [y] ∧ H l = some (.lst xs) ∧ xs.length < sizeLine ∧ Q .non (upd H l (.lst (xs ++ [y])))
theorem mt_append : MtM X "list.append" rAppend := by
  intro pins s σ H x vs v us Q I rx rv h
  obtain ⟨l, xs, y, rfl, rfl, hH, hz, q⟩ := h
  cases rx
  obtain ⟨u, rfl, ru⟩ := rv.one
  obtain ⟨z, its, n, r, hl, e⟩ := I.lstM hH
  refine call_meets F.slot_list_append ⟨_, e, rfl⟩ F.entry_list_append (F.args_list_append_2 _ _) (PySem.list_append l its.toArray n u (by rw [List.size_toArray]; omega)) ⟨e, ?_⟩
  refine ⟨.non, _, I.lset (its' := its ++ [u]) hH e (by simp) (r.append (.cons ru .nil)) ?_, rfl, q⟩
  rw [List.length_append, List.length_singleton]
  omega
def rExtend : V → List V → Hp → VK → Prop := fun x vs H Q => ∃ l b xs zs, x = .ref l ∧ vs = [.ref b] ∧ H l = some (.lst xs) ∧ H b = some (.lst zs) ∧ xs.length + zs.length ≤ sizeLine ∧ Q .non (upd H l (.lst (xs ++ zs)))
theorem mt_extend : MtM X "list.extend" rExtend := by
  intro pins s σ H x vs v us Q I rx rv h
  obtain ⟨l, b, xs, zs, rfl, rfl, hH, hB, hz, q⟩ := h
  cases rx
  obtain ⟨u, rfl, ru⟩ := rv.one
  cases ru
  obtain ⟨z, its, n, r, hl, e⟩ := I.lstM hH
  obtain ⟨z2, its2, n2, r2, hl2, e2⟩ := I.lstM hB
  have hsz : its.toArray.size + its2.toArray.size ≤ sizeLine := by rw [List.size_toArray, List.size_toArray]; omega
  have hlong : ¬ (!its.toArray.isEmpty && Builtin.List.listTooLong (its.toArray.size + its2.toArray.size)) = true := by
    rw [notLongL hsz, Bool.and_false]
    exact Bool.false_ne_true
  refine call_meets F.slot_list_extend ⟨_, e, rfl⟩ F.entry_list_extend (F.args_list_extend_2 _ _)
    (AutoSeq1.list_extend_list_list_0 l its.toArray n b its2.toArray n2 hlong (by rw [List.size_toArray]; omega) (by omega)) ⟨e, e2, ?_⟩
  refine ⟨.non, _, I.lset (its' := its ++ its2) hH e (by simp) (r.append r2) ?_, rfl, q⟩
  rw [List.length_append]
  omega
def rPop : V → List V → Hp → VK → Prop := fun x vs H Q => ∃ l xs y, x = .ref l ∧ vs = [] ∧ H l = some (.lst xs) ∧ xs[xs.length - 1]? = some y ∧ Q y (upd H l (.lst xs.dropLast))
theorem mt_pop : MtM X "list.pop" rPop := by
  intro pins s σ H x vs v us Q I rx rv h
  obtain ⟨l, xs, y, rfl, rfl, hH, hy, q⟩ := h
  cases rx
  have hus := rv.zero
  subst hus
  obtain ⟨z, its, n, r, hl, e⟩ := I.lstM hH
  obtain ⟨u, hu, ru⟩ := r.get hy
  have hy' : its.toArray[its.toArray.size - 1]? = some u := by
    show its.toArray[its.length - 1]? = some u
    rw [← Array.getElem?_toList, ← hl]
    exact hu
  refine call_meets F.slot_list_pop ⟨_, e, rfl⟩ F.entry_list_pop (F.args_list_pop_1 _) (MeetsSeq.list_pop_last l its.toArray n u hy' (by rw [List.size_toArray]; omega)) ⟨e, ?_⟩
  refine ⟨y, _, I.lset (its' := its.dropLast) hH e ?_ r.dropLast ?_, ru, q⟩
  · show its.toArray.eraseIdxIfInBounds (its.toArray.size - 1) = its.dropLast.toArray
    rw [List.size_toArray, List.eraseIdxIfInBounds_toArray, erase_last]
  · rw [List.length_dropLast]
    omega
def rReverse : V → List V → Hp → VK → Prop := fun x vs H Q => ∃ l xs, x = .ref l ∧ vs = [] ∧ H l = some (.lst xs) ∧ Q .non (upd H l (.lst xs.reverse))
theorem mt_reverse : MtM X "list.reverse" rReverse := by
  intro pins s σ H x vs v us Q I rx rv h
  obtain ⟨l, xs, rfl, rfl, hH, q⟩ := h
  cases rx
  have hus := rv.zero
  subst hus
  obtain ⟨z, its, n, r, hl, e⟩ := I.lstM hH
  refine call_meets F.slot_list_reverse ⟨_, e, rfl⟩ F.entry_list_reverse (F.args_list_reverse_1 _) (AutoSeq1.list_reverse_list_0 l its.toArray n (by rw [List.size_toArray]; omega)) ⟨e, ?_⟩
  refine ⟨.non, _, I.lset (its' := its.reverse) hH e (by simp) r.reverse ?_, rfl, q⟩
  rw [List.length_reverse]
  omega
def rClear : V → List V → Hp → VK → Prop := fun x vs H Q => ∃ l xs, x = .ref l ∧ vs = [] ∧ H l = some (.lst xs) ∧ Q .non (upd H l (.lst []))
theorem mt_clear : MtM X "list.clear" rClear := by
  intro pins s σ H x vs v us Q I rx rv h
  obtain ⟨l, xs, rfl, rfl, hH, q⟩ := h
  cases rx
  have hus := rv.zero
  subst hus
  obtain ⟨z, its, n, r, hl, e⟩ := I.lstM hH
  refine call_meets F.slot_list_clear ⟨_, e, rfl⟩ F.entry_list_clear (F.args_list_clear_1 _) (AutoSeq1.list_clear_list_0 l its.toArray n (by rw [List.size_toArray]; omega)) ⟨e, ?_⟩
  exact ⟨.non, _, I.lset (its' := []) (ys := []) hH e rfl .nil (Nat.zero_le _), rfl, q⟩
/-! ### list + list, list += list, list * int -/
def rCat : R2 := fun x y H Q => ∃ l b xs zs, x = .ref l ∧ y = .ref b ∧ H l = some (.lst xs) ∧ H b = some (.lst zs) ∧ xs.length + zs.length ≤ sizeLine ∧ ∀ p, H p = none → Q (.ref p) (upd H p (.lst (xs ++ zs)))
theorem op_cat : OpR X (binaryOp .Add) rCat := by
  intro pins s σ H x y v u Q I rx ry h
  obtain ⟨l, b, xs, zs, rfl, rfl, hH, hB, hz, q⟩ := h
  cases rx
  cases ry
  obtain ⟨z, its, n, r, hl, e⟩ := I.lstM hH
  obtain ⟨z2, its2, n2, r2, hl2, e2⟩ := I.lstM hB
  refine PySem.P.add_list e e2 ?_ (by rw [List.size_toArray, List.size_toArray]; omega)
  have ea : its.toArray ++ its2.toArray = (its ++ its2).toArray := by simp
  rw [ea]
  exact ⟨.ref _, _, I.lnew (t' := s.toks) (r.append r2) (by rw [List.length_append]; omega), rfl, q _ I.fresh⟩
/-- a list times an int (a negative one is nothing) -/
def rRep : R2 := fun x y H Q => ∃ l k xs, x = .ref l ∧ y = .int k ∧ H l = some (.lst xs) ∧ -(2 ^ 63) ≤ k ∧ k < 2 ^ 63 ∧ xs.length * k.toNat ≤ sizeLine ∧
  ∀ p, H p = none → Q (.ref p) (upd H p (.lst (List.replicate k.toNat xs).flatten))
theorem len_rep {α : Type} (xs : List α) (k : Nat) : (List.replicate k xs).flatten.length = k * xs.length := by
  induction k with
  | zero => simp
  | succ k ih => rw [List.replicate_succ, List.flatten_cons, List.length_append, ih, Nat.succ_mul, Nat.add_comm]
theorem op_rep : OpR X (binaryOp .Mult) rRep := by
  intro pins s σ H x y v u Q I rx ry h
  obtain ⟨l, k, xs, rfl, rfl, hH, h1, h2, hz, q⟩ := h
  cases rx
  obtain ⟨t, rfl⟩ := ry
  obtain ⟨z, its, n, r, hl, e⟩ := I.lstM hH
  have hlen : its.toArray.size * k.toNat ≤ sizeLine := by rw [List.size_toArray, ← hl]; exact hz
  have hcap : ¬ its.toArray.size * k.toNat > (2 ^ 63 - 1) / 8 := by
    have : (sizeLine : Nat) ≤ (2 ^ 63 - 1) / 8 := by decide
    omega
  have hfit : ¬ (!Builtin.List.listFitsIndex k) = true := by
    rw [fitsIndex_both h1 h2]
    exact Bool.false_ne_true
  have hlong : ¬ Builtin.List.listTooLong (its.toArray.size * k.toNat) = true := by
    rw [notLongL hlen]
    exact Bool.false_ne_true
  have hnew : List.foldl (fun x1 x2 => x1 ++ x2) #[] (List.replicate (if its.toArray.isEmpty = true then 0 else k.toNat) its.toArray) = (List.replicate k.toNat its).flatten.toArray := by
    have f0 : ∀ m : Nat, List.foldl (fun x1 x2 => x1 ++ x2) #[] (List.replicate m its.toArray) = (List.replicate m its).flatten.toArray := fun m => by
      have := foldl_rep its m []
      rw [List.nil_append] at this
      exact this
    rw [f0]
    cases its with
    | nil => simp
    | cons a r' => rw [if_neg (by simp)]
  refine wpAny_binaryOp_repeat_ref (T := "list") (U := "int") (by decide) ⟨_, e, rfl⟩ (fun s' => typeIs_int s' k t) noFill_list_mul F.fills_int_mul F.slot_int_rmul repeat_list F.slot_int_index.lookup
    (call_meets F.slot_int_rmul (typeIs_int s k t) F.entry_int_rmul (F.args_int_rmul_2 _ _) (int___rmul___int_list k t l its.toArray n)
      ⟨e, rfl, ⟨_, e, rfl⟩, call_meets F.slot_list_mul ⟨_, e, rfl⟩ F.entry_list_mul (F.args_list_mul_2 _ _) (AutoListH.list___mul___list_int_3 l its.toArray n k t hfit hcap hlong) ⟨e, ?_⟩⟩)
  rw [hnew]
  exact ⟨.ref _, _, I.lnew (t' := s.toks) (r.rep k.toNat) (by rw [len_rep, Nat.mul_comm]; exact hz), rfl, q _ I.fresh⟩
/-! ### del xs[i] -/
end
/-! ### xs[a:b] = ys -/
section
variable {prog : Program} {w : World} {A : Around} {E : Value → Shared → Prop} {s : Shared}
end
section
variable {X : Cx}
end
end L2
namespace Att
open PySem PySem.W PySem.Calls PyProof.Rows
/-! ### the script -/
theorem ints_of_wellAll {P : Params} {h : Heap} : ∀ (ns : List Int) (vs : List Value), WellAll P h vs (ns.map WData.int) → IntsAre vs ns := by
  intro ns
  induction ns with
  | nil =>
    intro vs w
    rw [List.map_nil] at w
    cases w
    exact .nil
  | cons n ns ih =>
    intro vs w
    rw [List.map_cons] at w
    cases w with
    | cons a b =>
      cases a
      exact .cons _ _ (ih _ b)
theorem script_of {l : OpenLaw} {n : Nat} (hn : l.most = some n) {P : Params} {h : Heap} {args : List WData} {vals : List Value}
    (hpre : l.row.toRowW.claim.pre args = true) (hwl : WellAll P h vals args) :
    ∃ a vs ns, vals = [Value.ref a] ∧ args = [WData.list (ns.map WData.int)] ∧ h.get? a = some { cls := .type "list", data := .seq vs.toArray } ∧ IntsAre vs ns ∧ ns.length ≤ n := by
  have hsh : WShape.hasAll [] args [.list .int] = true := (pre_splitW hpre).1
  have hc : l.pre.holds [] { args := args } = true := (pre_splitW hpre).2
  obtain ⟨d, r, rfl, h1, h2⟩ := hasAllW_cons hsh
  obtain rfl := hasAllW_nil h2
  obtain ⟨xs, rfl, h3⟩ := hasW_list h1
  obtain ⟨ns, rfl⟩ := items_int h3
  have hlen : ns.length ≤ n := by
    unfold OpenLaw.pre at hc
    have h4 : (WTm.not (.lt (.lit (.int (n : Int))) (.len (.arg 0)))).holds [] { args := [.list (ns.map .int)] } = true := by
      have h4 := (holds_andW hc).1
      rw [hn] at h4
      exact h4
    have h5 := condW_of h4 (w_not (w_lt w_lit (w_len_list (w_arg rfl))))
    rw [List.length_map] at h5
    refine Nat.le_of_not_lt fun q => ?_
    have q' : (n : Int) < ((ns.length : Nat) : Int) := by omega
    first
      | (rw [decide_eq_true q'] at h5; exact absurd h5 (by decide))
      | (simp at h5; omega)
  cases hwl with
  | cons w1 w2 =>
    cases w2
    cases w1 with
    | list ho hall => exact ⟨_, _, ns, rfl, rfl, ho, ints_of_wellAll ns _ hall, hlen⟩
theorem post_true (l : OpenLaw) (args : List WData) : l.row.toRowW.claim.post args (.bool true) args = true :=
  postW_of (r := l.row.toRowW) (X := (true == true))
    (show WShape.has [] (.bool true) .bool = true by first | rfl | decide | simp [WShape.has, WShape.arms, WShape.armsAll])
    (show (WTm.eq .res (.lit (.bool true))).value [] { args := args, res := some (.bool true), after := args } = some (.bool (true == true)) from w_eq_bool (w_res rfl) w_lit) rfl
/-! ### the attachment: holds_open's last premise (the goal 'hc' behind k_head) from a wpAny of the law's body -/
/-- the same from a codeAny of the CALL (for a layer whose function contracts speak of calls) -/
theorem attach_call {l : OpenLaw} {n : Nat} {q : Program} {loose : List Str} {XP : (Str → Option Value) → Heap → Prop} {YP : World → Heap → Prop} {d : DefRec}
    (hn : l.most = some n) (hdf : d.params.defaults = [])
    (call : ∀ (w : World) (s₀ s₁ : Shared) (mg mb : Str → Option Value) (fa : Addr) (o : Obj) (pm cd doc : Value) (a : Addr) (vs : List Value) (ns : List Int),
      Ground q loose [] XP w s₀ mg mb s₁.heap → YP w s₁.heap →
      s₁.heap.get? fa = some o → o.data = .func (docDef d.name d.params d.body d.scope pm cd doc) → s₁.heap.CodeRec cd d.name → mg d.name = some (.ref fa) →
      s₁.heap.get? a = some { cls := .type "list", data := .seq vs.toArray } → IntsAre vs ns → ns.length ≤ n → s₁.gens = #[] →
      codeAny (model l.prog w) callerA (.call (.ref fa) ⟨[.ref a], []⟩) (fun r s' => r = .ok (.ret (.bool true)) ∧ OldK s₁.heap s'.heap ∧ s'.os = s₁.os ∧ AllBare s'.gens) s₁) :
    WalkO q loose XP YP l.row.toRowW d [] (fun f vs => PySem.call f vs) := by
  intro w s₀ s₁ mg mb G Y fa o pm cd doc dV kV ho hd hcd hD hmg hg args vals as hpre hlay hrd hwl hlo
  obtain rfl : dV = .none := Dflts.none hD hdf
  obtain rfl : kV = .none := Dflts.noKw hD
  obtain ⟨a, vs, ns, rfl, rfl, hobj, hints, hlen⟩ := script_of hn hpre hwl
  refine enter_call (codeAny_mono (call w s₀ s₁ mg mb fa o pm cd doc a vs ns G Y ho (fd_plain hd) hcd hmg hobj hints hlen hg) fun r s' hq => ?_)
  obtain ⟨rfl, h2, h3, h4⟩ := hq
  exact ⟨.inl ⟨.bool true, .bool true, [], rfl, fun _ => rfl, .bool true, post_true l _, fun _ => ⟨List.Pairwise.nil, fun _ hm => (nomatch hm)⟩⟩, h2, h3, h4⟩
/-! ### rules over ANY heap (no ledger) from facts about the written part K: the library's own take a ledger (News) for what they write -/
section
variable {prog : Program} {w : World} {A : Around} {E : Value → Shared → Prop} {s : Shared} {K : Frag}
/-! the whole heap as the ledger: makes every rule that writes through a ledger a rule over any heap -/
end
end Att
namespace L2
open PySem PySem.Spec PyProof.Rows
theorem vals_ints : ∀ {vs : List Value} {ns : List Int}, IntsAre vs ns → Vals (ns.map V.int) vs
  | _, _, .nil => .nil
  | _, _, .cons n t h => .cons ⟨t, rfl⟩ (vals_ints h)
/-- nothing is tracked but the script, known to the object (or it is an object of the module) -/
def Only (H : Hp) : Prop := ∀ b, H b = none ∨ ∃ o xs, H b = some (.frz o (.lst xs))
/-- THE HEAD: the law's promise, at the heap behind the top. F, the promise of the law's def, may use that base is part of the heap (so K.In base, base.Ns mainGlobals mg stand in Mod) -/
theorem law_call {P : Program} {w : World} {K : PySem.W.Frag} {mg mb : Str → Option Value} {CX : CXT} {k : Nat} {fa a : Addr} {fd : FuncData} {x : Str} {sp : Sp} {s₁ : Shared} {vs : List Value} {ns : List Int}
    (KX : K.In s₁.heap) (hns : s₁.heap.Ns mainGlobals mg) (hb : s₁.heap.Ns builtinsNs mb) (hbb : ∀ x : Str, x ≠ "__name__" → mb x = bootBuiltins x) (hlim : s₁.heap.NoLimit) (hg : s₁.gens = #[])
    (ha : s₁.heap.get? a = some { cls := .type "list", data := .seq vs.toArray }) (hi : IntsAre vs ns) (hl : ns.length ≤ sizeLine) (hr : Room k callerA)
    (F : ∀ base : Heap, K.In base → base.Ns mainGlobals mg → FnOk P w K mg base CX k fa fd [x] sp) (hbind : ∀ (s : Shared) (u : Value), BindsTo s fd ⟨[u], []⟩ [(x, u)])
    (hsp : ∀ H : Hp, Only H → SqL K H a (ns.map V.int) → sp [.ref a] H (fun v _ => v = .bl true) fun _ _ _ => False)
    (hCX : ∀ H e s', CX [] H s₁ (fun _ _ _ => False) e s' → False) :
    codeAny (model P w) callerA (.call (.ref fa) ⟨[.ref a], []⟩) (fun r s' => r = .ok (.ret (.bool true)) ∧ OldK s₁.heap s'.heap ∧ s'.os = s₁.os ∧ AllBare s'.gens) s₁ := by
  have rv := vals_ints hi
  have lenV := hi.length
  -- from an abstract heap in which nothing but the script may be tracked
  have core : ∀ H : Hp, Only H → SqL K H a (ns.map V.int) → HOk P w H s₁.heap → (∀ b, H b ≠ none → b = a) → (H a ≠ none → K.lookup a = none) →
      codeAny (model P w) callerA (.call (.ref fa) ⟨[.ref a], []⟩) (fun r s' => r = .ok (.ret (.bool true)) ∧ OldK s₁.heap s'.heap ∧ s'.os = s₁.os ∧ AllBare s'.gens) s₁ := by
    intro H hO hS hok hA hK
    have base_of : ∀ {b : Addr} {o : Obj}, s₁.heap.get? b = some o → H b = none → (hidT s₁.heap H).get? b = some o := fun e n => hidT_get e n
    have noA : ∀ {b : Addr} {o : Obj} {es : Array DictEntry} {ep : Nat}, s₁.heap.get? b = some o → o.data = .dict es ep → H b = none := fun {b o es ep} e d => by
      cases q : H b with
      | none => rfl
      | some u =>
        have e' : b = a := hA b (by rw [q]; simp)
        subst e'
        rw [ha] at e; cases e
        have d' : Data.seq vs.toArray _ = Data.dict es ep := d
        cases d'
    have nsK : ∀ {b : Addr} {m : Str → Option Value}, s₁.heap.Ns b m → (hidT s₁.heap H).Ns b m := fun {b m} ⟨o, es, ep, e, d, r⟩ => ⟨o, es, ep, base_of e (noA e d), d, r⟩
    have hKb : K.In (hidT s₁.heap H) := fun b o e => base_of (KX b o e) (by
      cases q : H b with
      | none => rfl
      | some u =>
        have e' : b = a := hA b (by rw [q]; simp)
        subst e'
        rw [hK (by rw [q]; simp)] at e; cases e)
    have hM : Mod K mg (hidT s₁.heap H) := ⟨hKb, nsK hns, ⟨mb, nsK hb, hbb⟩, let ⟨mc, h1, h2⟩ := hlim; ⟨mc, nsK h1, h2⟩⟩
    have e0 : Env0 P w K mg (hidT s₁.heap H) callerA [] s₁ H := ⟨rfl, hM, fun b o e => of_hidT e, Nat.le_of_eq (hidT_size _ _), trivial, fun b hb => absurd (show b ∈ ([] : List Addr) from hb) (by simp), hok, .of_eq hg⟩
    refine codeAny_mono ((F _ hKb (nsK hns)).run callerA [] s₁ H ⟨[.ref a], []⟩ [.ref a] [.ref a] _ _ hr e0 (hbind s₁ (.ref a)) (.cons rfl .nil) (hsp H hO hS)) fun r s' h => ?_
    cases r with
    | error e => exact (hCX H e s' h).elim
    | ok fl =>
      cases fl with
      | next => exact False.elim h
      | brk => exact False.elim h
      | cont => exact False.elim h
      | ret u =>
        obtain ⟨v, H', os, bare, un, hok', r', q⟩ := h
        have q' : v = .bl true := q
        subst q'
        obtain rfl : u = Value.bool true := r'
        refine ⟨rfl, OldK.of_keep fun b o e => ?_, os, bare⟩
        cases q : H b with
        | none => exact un.keep b o e q (by intro z; exact absurd (show b ∈ ([] : List Addr) from z) (by simp)) (by simp)
        | some u =>
          rcases hO b with z | ⟨ob, xs, z⟩
          · rw [q] at z; cases z
          · have z2 := un.frzs b ob _ z
            obtain ⟨e1, _⟩ := hok b _ z
            obtain ⟨e2, _⟩ := hok' b _ z2
            rw [e] at e1; cases e1
            exact e2
  cases hk : K.lookup a with
  | some o =>
    -- the script is one of the module's own objects
    have e := KX a o hk
    rw [ha] at e
    cases e
    refine core (fun _ => none) (fun _ => .inl rfl) (.inr ⟨_, vs.toArray, _, hk, rfl, rfl, rfl, by rw [List.size_toArray, lenV]; exact hl, by simpa using rv⟩) (fun b u z => by have z' : (none : Option HO) = some u := z; cases z') (fun b z => absurd rfl z) fun z => absurd rfl z
  | none =>
    refine core (fun b => if b = a then some (.frz { cls := .type "list", data := .seq vs.toArray } (.lst (ns.map V.int))) else none) (fun b => ?_) (.inl (.inr ⟨{ cls := .type "list", data := .seq vs.toArray }, if_pos rfl⟩)) (fun b u z => ?_) (fun b z => ?_) fun _ => hk
    · by_cases hb : b = a
      · exact .inr ⟨_, _, if_pos hb⟩
      · exact .inl (if_neg hb)
    · by_cases hb : b = a
      · have z' := (if_pos hb).symm.trans z
        cases z'
        subst hb
        exact ⟨ha, by rw [List.length_map]; exact hl, vs, _, rv, ha⟩
      · have z' := (if_neg hb).symm.trans z
        cases z'
    · by_cases hb : b = a
      · exact hb
      · exact absurd (if_neg hb) z
end L2
namespace L2
open PySem PySem.Spec PyProof.Rows
/-- the goal that k_head leaves (case hc), from the law's promise. F gives the function object fd (K's own) once, then the promise over every base -/
theorem walk_of {l : PySem.W.OpenLaw} {n k : Nat} {q : Program} {loose : List Str} {XP : (Str → Option Value) → Heap → Prop} {YP : World → Heap → Prop} {d : DefRec} {K : Params → PySem.W.Frag} {CX : World → CXT} {sp : World → Sp} {x : Str}
    (hn : l.most = some n) (hn2 : n ≤ sizeLine) (hdf : d.params.defaults = []) (hr : Room k callerA)
    (hY : ∀ (w : World) (h : Heap), YP w h → (K w.params).In h)
    (F : ∀ (w : World) (mg : Str → Option Value) (fa : Addr) (h : Heap), (K w.params).In h → h.Ns mainGlobals mg → mg d.name = some (.ref fa) →
      ∃ fd : FuncData, (∀ (s : Shared) (u : Value), BindsTo s fd ⟨[u], []⟩ [(x, u)]) ∧
        ∀ base : Heap, (K w.params).In base → base.Ns mainGlobals mg → FnOk l.prog w (K w.params) mg base (CX w) k fa fd [x] (sp w))
    (hsp : ∀ (w : World) (H : Hp) (a : Addr) (ns : List Int), ns.length ≤ n → Only H → SqL (K w.params) H a (ns.map V.int) → sp w [.ref a] H (fun v _ => v = .bl true) fun _ _ _ => False)
    (hCX : ∀ (w : World) (H : Hp) (s : Shared) (e : Value) (s' : Shared), CX w [] H s (fun _ _ _ => False) e s' → False) :
    PySem.W.WalkO q loose XP YP l.row.toRowW d [] (fun f vs => PySem.call f vs) := by
  refine Att.attach_call hn hdf fun w s₀ s₁ mg mb fa o pm cd doc a vs ns G Y ho hd hcd hmg hobj hints hlen hg => ?_
  have KX := hY w _ Y
  obtain ⟨fd, hb, hF⟩ := F w mg fa _ KX G.T.g hmg
  exact law_call KX G.T.g G.T.b G.T.builtins G.T.nolimit hg hobj hints (Nat.le_trans hlen hn2) hr hF hb (fun H hO hS => hsp w H a ns hlen hO hS) fun H e s' => hCX w H s₁ e s'
end L2
/- THE LAST THEOREM (shape; LID, My.* are yours):
   My.Adr: a structure of the addresses that your layer names (classes, functions); My.Txt K t: a structure (Prop) of the equations over K;
   My.txt_mk : {K} {implicit addresses ..} (e1 : nsIn K mainGlobals "law" = some (some (.ref f))) (e2 : K.lookup f = some ⟨oc, od, .func (fnOf "law" "law" params body scope dV kV doc pm an cdv ct), sl⟩) (e3 : codeIn K cdv "law" = true) .. : ∃ t, My.Txt K t
set_option maxRecDepth 100000 in
set_option maxHeartbeats 0 in
theorem PySem.Challenge.cw_LID_holds : PySem.Challenge.rw_LID.Holds := by
  w_on; o_law; k_head; (case hw => w_witness2)
  k_fill
  refine L2.walk_of (l := PySem.Challenge.rw_LID) (n := 63) (k := 40) (x := "script") (CX := fun w => ..) (sp := fun _ => My.sp_law) rfl (by decide) rfl ⟨rfl, by decide, by decide⟩ (fun w h Y => PySem.W.kIn_of Y) ?F ?S ?C
  case F =>
    intro w mg fa h KX G hmg
    have T : ∃ t, My.Txt (L2.KOf KX) t := by
      dsimp only [L2.KOf]                          -- K must stand as «<heap const> w.params» for k_is
      refine' My.txt_mk ?e1 ?e2 ?e3 ..
      (case e1 => PySem.W.k_is)                    -- in the order: a name -> its address -> its object -> its parts
      (case e2 => PySem.W.k_is)
      ..
    obtain ⟨t, T⟩ := T
    have e0 := hmg.symm.trans (PySem.W.mg_of KX G T.law)
    cases e0                                       -- fa is the law's own address
    exact ⟨_, fun s u => .of_eq rfl, fun base kb nb => My.law_fn T kb nb⟩     -- if «.of_eq rfl» comes too early: refine' ⟨_, ?b, fun base kb nb => My.law_fn T kb nb⟩; exact fun s u => .of_eq rfl
  case S => exact fun w H a ns hl hO hS => ..
  case C => exact ..
(the tactic k_is has no namespace: write k_is) -/
/-! SHORT WORDS over the layer: a def of the text, its body, what a loop and a test want. -/
namespace L2
open PySem PySem.Spec PyProof.Rows
/-! ### the text by places -/
def defArgs (s : Stmt) : Arguments := match s with
  | .FunctionDef _ a _ _ _ _ _ _ _ _ => a
  | _ => { posonlyargs := [], args := [], vararg := none, kwonlyargs := [], kw_defaults := [], kwarg := none, defaults := [] }
def defBody (s : Stmt) : List Stmt := match s with
  | .FunctionDef _ _ b _ _ _ _ _ _ _ => b
  | _ => []
def defScope (s : Stmt) : Scope := match s with
  | .FunctionDef _ _ _ _ _ _ sc _ _ _ => sc
  | _ => { kind := .function, names := [], isGenerator := false, isCoroutine := false }
/-! ### no exception leaves a def -/
abbrev CX0 : CXT := fun _ _ _ _ _ _ => False
abbrev E0 : XK := fun _ _ _ => False
/-! ### a def (or method) of the text as it stands behind the top -/
structure Fun (K : PySem.W.Frag) (x qual : Str) (st : Stmt) (f : Addr) (fd : FuncData) : Prop where
  ex : ∃ (oc : Value) (od : Option Addr) (kV doc pm : Value) (an : Option Addr) (cdv ct : Value) (osl : Array (Option Value)),
    fd = PySem.W.fnOf x qual (defArgs st) (defBody st) (defScope st) .none kV doc pm an cdv ct ∧ K.lookup f = some ⟨oc, od, .func fd, osl⟩ ∧ PySem.W.codeIn K cdv qual = true
  kp : PySem.W.keepIn K (.ref f) = true
section
variable {P : Program} {w : World} {K : PySem.W.Frag} {mg : Str → Option Value} {base : Heap}
/-- how its arguments bind (no defaults): h is «fun _ _ _ _ _ _ us hl => match us, hl with | [_, _], _ => rfl», one _ a parameter -/
theorem Fun.binds {x qual : Str} {st : Stmt} {f : Addr} {fd : FuncData} {ps : List Str} (F : Fun K x qual st f fd)
    (h : ∀ (kV doc pm : Value) (an : Option Addr) (cdv ct : Value) (us : List Value), us.length = ps.length → bindArgs (PySem.W.fnOf x qual (defArgs st) (defBody st) (defScope st) .none kV doc pm an cdv ct) ⟨us, []⟩ = pure (ps.zip us)) : Binds K fd ps [] := by
  obtain ⟨oc, od, kV, doc, pm, an, cdv, ct, osl, rfl, lk, hcd⟩ := F.ex
  exact .all (h kV doc pm an cdv ct)
theorem fun_mk {x qual : Str} {st : Stmt} {f : Addr} {oc : Value} {od an : Option Addr} {osl : Array (Option Value)} {kV doc pm cdv ct : Value} (l : K.lookup f = some ⟨oc, od, .func (PySem.W.fnOf x qual (defArgs st) (defBody st) (defScope st) .none kV doc pm an cdv ct), osl⟩)
    (c : PySem.W.codeIn K cdv qual = true) (k : PySem.W.keepIn K (.ref f) = true) : Fun K x qual st f (PySem.W.fnOf x qual (defArgs st) (defBody st) (defScope st) .none kV doc pm an cdv ct) := ⟨⟨oc, od, kV, doc, pm, an, cdv, ct, osl, rfl, l, c⟩, k⟩
end
/-! ### expressions in short: the name that stands in the i-th slot -/
section
variable {X : Cx}
end
/-! ### tests -/
theorem iteF {A B : Prop} (h : B) : if false = true then A else B := by
  rw [if_neg Bool.false_ne_true]
  exact h
theorem iteT {A B : Prop} (h : A) : if true = true then A else B := by
  rw [if_pos rfl]
  exact h
theorem ite2 {c A B : Prop} [Decidable c] (h1 : c → A) (h2 : ¬ c → B) : if c then A else B := by
  by_cases h : c
  · rw [if_pos h]
    exact h1 h
  · rw [if_neg h]
    exact h2 h
/-! ### heaps -/
/-- all that was tracked is as it was -/
def Same (H H' : Hp) : Prop := ∀ b o, H b = some o → H' b = some o
theorem Same.refl (H : Hp) : Same H H := fun _ _ h => h
theorem Same.trans {H H1 H2 : Hp} (a : Same H H1) (b : Same H1 H2) : Same H H2 := fun c o h => b c o (a c o h)
theorem Same.free {H H' : Hp} (e : Same H H') {l : Addr} (h : H' l = Option.none) : H l = Option.none := by
  cases q : H l with
  | none => rfl
  | some o =>
    rw [e l o q] at h
    cases h
theorem Same.seq {K : PySem.W.Frag} {H H' : Hp} {a : Addr} {xs : List V} (e : Same H H') (h : SqL K H a xs) : SqL K H' a xs := by
  rcases h with (h | ⟨o, h⟩) | h
  · exact .inl (.inl (e _ _ h))
  · exact .inl (.inr ⟨o, e _ _ h⟩)
  · exact .inr h
end L2
set_option maxRecDepth 100000
set_option maxHeartbeats 4000000
namespace L2
open PySem PySem.Spec PyProof.Rows
/-! ### an untracked object of ours comes to be tracked -/
section
variable {X : Cx} {pins : List (Addr × Obj)} {σ : St} {H : Hp} {s : Shared} {a : Addr} {o : HO}
theorem Inv.track (I : Inv X pins σ H s) (hn : H a = none) (h0 : X.s₀.heap.objs.size ≤ a) (hL : a ≠ X.env.locals) (hC : ∀ x c, X.env.cells.lookup x = some c → c ≠ a)
    (hp : ∀ p ∈ X.pn ++ pins, p.1 ≠ a) (new : ObjOk X.prog X.w (upd H a o) s.heap a o) : Inv X pins σ (upd H a o) s := by
  have ne0 : ∀ b u, X.s₀.heap.get? b = some u → b ≠ a := fun b u e => Nat.ne_of_lt (Nat.lt_of_lt_of_le (Heap.lt_size e) h0)
  have neH : ∀ b u, H b = some u → b ≠ a := fun b u e => ne_of_none e hn
  refine ⟨I.ok, I.os, I.bare, ⟨I.base.keep, I.base.slot, fun b u e n hx => ?_, I.base.there, fun b xs e => ?_, fun b u xs e => ?_, fun b ps e => ?_⟩, I.loc, I.cell, ?_, fun x c e => ?_, fun p q => ?_, fun b u e => ?_, I.len⟩
  · rw [upd_ne (ne0 b u e)]; exact I.base.free b u e n hx
  · have z := I.base.tups b xs e
    rw [upd_ne (neH b _ z)]; exact z
  · have z := I.base.frzs b u xs e
    rw [upd_ne (neH b _ z)]; exact z
  · obtain ⟨m, z⟩ := I.base.tbls b ps e
    exact ⟨m, by rw [upd_ne (neH b _ z)]; exact z⟩
  · rw [upd_ne (Ne.symm hL)]; exact I.free
  · rw [upd_ne (hC x c e)]; exact I.freeC x c e
  · obtain ⟨z1, z2, z3⟩ := I.pin p q
    exact ⟨z1, by rw [upd_ne (hp p q)]; exact z2, z3⟩
  · by_cases hb : b = a
    · subst hb; rw [upd_same] at e; cases e; exact new
    · rw [upd_ne hb] at e
      exact (I.hok b u e).stay (fun _ _ _ q => q) (fun c q => by rw [upd_ne (neH c _ q)]; exact q) fun c xs q => by rw [upd_ne (neH c _ q)]; exact q
end
/-! ### the cells that a block takes along -/
def closL (cells : List (Str × Addr)) : List (Str × NameKind) → List (Str × Addr) → List (Str × Addr)
  | [], acc => acc
  | (n, k) :: r, acc => closL cells r (if k = .free then (n, (cells.lookup n).getD 0) :: acc else acc)
theorem closureFor_go (env : Env) : ∀ (names : List (Str × NameKind)) (acc : List (Str × Addr)), (∀ y ∈ names, y.2 = .free → ∃ c, env.cells.lookup y.1 = some c) →
    (forIn names acc (fun (x : Str × NameKind) (cs : List (Str × Addr)) => match x with
      | (name, kind) => if (kind == NameKind.free) = true then do let a ← cellOf env name; pure (ForInStep.yield ((name, a) :: cs)) else pure (ForInStep.yield cs)) : Sem (List (Str × Addr))) = pure (closL env.cells names acc)
  | [], acc, _ => rfl
  | (n, k) :: r, acc, h => by
    have hr := fun acc' => closureFor_go env r acc' fun y hy => h y (List.mem_cons_of_mem _ hy)
    rw [List.forIn_cons]
    by_cases hk : k = .free
    · subst hk
      obtain ⟨c, e⟩ := h (n, .free) List.mem_cons_self rfl
      have e' : cellOf env n = pure c := by unfold cellOf; rw [e]
      have ec : closL env.cells ((n, .free) :: r) acc = closL env.cells r ((n, c) :: acc) := by simp [closL, e]
      rw [ec, ← hr]
      simp [e']
    · have hb : (k == NameKind.free) = false := by simpa using hk
      have ec : closL env.cells ((n, k) :: r) acc = closL env.cells r acc := by simp [closL, hk]
      rw [ec, ← hr]
      simp [hb]
theorem closureFor_of {scope : Scope} {env : Env} (h : ∀ y ∈ scope.names, y.2 = .free → ∃ c, env.cells.lookup y.1 = some c) : closureFor scope env = pure (closL env.cells scope.names []) := by
  have := closureFor_go env scope.names [] h
  simp only [closureFor]
  rw [← this]
  simp
theorem closL_look {cells : List (Str × Addr)} : ∀ (names : List (Str × NameKind)) (acc : List (Str × Addr)) (x : Str) (c : Addr), (closL cells names acc).lookup x = some c → (acc.lookup x = some c) ∨ ((x, .free) ∈ names ∧ (cells.lookup x).getD 0 = c)
  | [], acc, x, c, h => .inl h
  | (n, k) :: r, acc, x, c, h => by
    simp only [closL] at h
    rcases closL_look r _ x c h with z | ⟨z1, z2⟩
    · by_cases hk : k = .free
      · subst hk
        simp only [if_true] at z
        rw [List.lookup_cons] at z
        by_cases hx : x == n
        · simp only [hx] at z
          have hxn : x = n := eq_of_beq hx
          subst hxn
          exact .inr ⟨List.mem_cons_self, Option.some.inj z⟩
        · have hx' : (x == n) = false := by simpa using hx
          simp only [hx'] at z
          exact .inl z
      · simp only [if_neg hk] at z
        exact .inl z
    · exact .inr ⟨List.mem_cons_of_mem _ z1, z2⟩
theorem closL_has {cells : List (Str × Addr)} : ∀ (names : List (Str × NameKind)) (acc : List (Str × Addr)) (x : Str), ((x, NameKind.free) ∈ names ∨ ∃ c, acc.lookup x = some c) → ∃ c, (closL cells names acc).lookup x = some c
  | [], acc, x, h => by
    rcases h with h | h
    · cases h
    · exact h
  | (n, k) :: r, acc, x, h => by
    simp only [closL]
    refine closL_has r _ x ?_
    rcases h with h | ⟨c, h⟩
    · rcases List.mem_cons.mp h with e | h
      · cases e
        refine .inr ?_
        simp [List.lookup_cons]
      · exact .inl h
    · refine .inr ?_
      by_cases hk : k = .free
      · simp only [if_pos hk, List.lookup_cons]
        cases hx : x == n
        · exact ⟨c, h⟩
        · exact ⟨_, rfl⟩
      · simp only [if_neg hk]; exact ⟨c, h⟩
theorem relabel_look {env : Env} : ∀ (names : List (Str × NameKind)) (x : Str),
    (names.map fun (n, k) => if (k == NameKind.free && env.scope.kind == .function && env.kindOf n == some .cell) then (n, NameKind.cell) else (n, k)).lookup x =
      (names.lookup x).map fun k => if (k == NameKind.free && env.scope.kind == .function && env.kindOf x == some .cell) then NameKind.cell else k
  | [], _ => rfl
  | (n, k) :: r, x => by
    have ih := relabel_look (env := env) r x
    show List.lookup x ((if (k == NameKind.free && env.scope.kind == .function && env.kindOf n == some .cell) = true then (n, NameKind.cell) else (n, k)) :: _) = _
    cases hx : x == n with
    | true =>
      have e : x = n := eq_of_beq hx
      subst e
      by_cases hc : (k == NameKind.free && env.scope.kind == .function && env.kindOf x == some .cell) = true
      · rw [if_pos hc]; simp only [List.lookup_cons, beq_self_eq_true, Option.map_some]; rw [if_pos hc]
      · rw [if_neg hc]; simp only [List.lookup_cons, beq_self_eq_true, Option.map_some]; rw [if_neg hc]
    | false =>
      by_cases hc : (k == NameKind.free && env.scope.kind == .function && env.kindOf n == some .cell) = true
      · rw [if_pos hc]; simp only [List.lookup_cons, hx]; exact ih
      · rw [if_neg hc]; simp only [List.lookup_cons, hx]; exact ih
/-! ### the loop of a list comprehension, any target, no exception -/
section
variable {prog : Program} {w : World} {A : Around} {R : Result → Shared → Prop} {s : Shared}
theorem compLoop_any {elt target iter : Expr} {ifs : List Expr} {scope : Scope} {pos : Pos} {it acc : Value} {env : Env} (I : Nat → Shared → Prop)
    (turn : ∀ n s, I n s → wpAny (model prog w) A (pyNext it) (fun r s₁ => match r with
      | none => R (.ok .next) s₁
      | some v => wpAny (model prog w) A (letOwnedTupleGo target it v) (fun _ s₁' => wpAny (model prog w) A (assign target env v) (fun _ s₂ =>
          wpAny (model prog w) A (forIn ifs true fun c r => if r = true then do let ok ← isTrue c env (eval c env); pure (ForInStep.yield ok) else pure (ForInStep.yield r)) (fun ok s₃ =>
            if ok = true then wpAny (model prog w) A (eval elt env) (fun x s₄ =>
              wpAny (model prog w) A (call (.builtin "list.append") [acc, x]) (fun _ s₅ => ∃ m, m < n ∧ I m s₅) (fun _ _ => False) s₄) (fun _ _ => False) s₃
            else ∃ m, m < n ∧ I m s₃) (fun _ _ => False) s₂) (fun _ _ => False) s₁') (fun _ _ => False) s₁) (fun _ _ => False) s)
    (n : Nat) (h : I n s) : codeAny (model prog w) A (.compLoop (.ListComp elt [⟨target, iter, ifs, 0⟩] scope pos) 0 it acc env) R s := by
  refine codeAny_loop rfl I (fun n s hI => ?_) n h
  show wpAny _ A ((compTurn (.ListComp elt [⟨target, iter, ifs, 0⟩] scope pos) 0 it acc env).onRaise (fun x => do noteFrame x env; theTreesLotGoes x)) _ _ s
  refine wpAny_noted ?_
  rw [compTurn_list]
  refine wpAny_bind (wpAny_standAt (wpAny_bind (wpAny_mono (turn n s hI) (fun r s₁ h₁ => ?_) fun _ _ h' => h'.elim)))
  cases r with
  | none => exact wpAny_pure h₁
  | some v =>
    refine wpAny_bind (wpAny_mono h₁ (fun _ s₁' h₁' => ?_) fun _ _ h' => h'.elim)
    refine wpAny_bind (wpAny_mono h₁' (fun _ s₂ h₂ => wpAny_bind (wpAny_mono h₂ (fun ok s₃ h₃ => ?_) fun _ _ h' => h'.elim)) fun _ _ h' => h'.elim)
    cases ok with
    | false => exact wpAny_pure ⟨rfl, h₃⟩
    | true =>
      exact wpAny_bind (wpAny_bind (wpAny_mono h₃ (fun x s₄ h₄ => wpAny_bind (wpAny_mono h₄ (fun _ s₅ h₅ => wpAny_pure (wpAny_pure ⟨rfl, h₅⟩)) fun _ _ h' => h'.elim)) fun _ _ h' => h'.elim))
end
/-! ### the context of a block -/
def compCx (X : Cx) (scope : Scope) (N : List Str) (ex : List Addr) (C : Addr) (s : Shared) (H : Hp) : Cx where
  prog := X.prog
  w := X.w
  K := X.K
  mg := X.mg
  base := X.base
  A := X.A
  N := N
  s₀ := s
  H₀ := H
  env := compEnvC scope (closL X.env.cells scope.names []) C X.env
  outer := X.stack
  stack := X.stack
  ex := ex
  fn := fun _ => false
  calm := X.calm
  pn := []
  xe := fun _ _ => False
/-- what the scope of a block must be like: fv are the names that it takes from around, with their slots there -/
structure CompOk (X : Cx) (scope : Scope) (ln : List Str) (fv : List (Str × Nat)) : Prop where
  kind : scope.kind = .function
  nocell : ∀ y ∈ scope.names, y.2 ≠ .cell
  locals : ∀ y ∈ scope.names, y.2 = .local → scope.names.lookup y.1 = some .local
  free : ∀ y ∈ scope.names, y.2 = .free → (X.env.kindOf y.1 = some .cell ∨ X.env.kindOf y.1 = some .free)
  fvs : ∀ p ∈ fv, X.N[p.2]? = some p.1 ∧ scope.names.lookup p.1 = some .free
def fvals (σ : St) (fv : List (Str × Nat)) : St := fv.map fun p => (σ[p.2]?).join
/-- the targets of a block: one name, or a tuple of n names -/
def tgtK (K : PySem.W.Frag) : Option Nat → V → Hp → (List V → Prop) → Prop
  | none, x, _, Q => Q [x]
  | some n, x, H, Q => ∃ a xs, x = .ref a ∧ SqT K H a xs ∧ xs.length = n ∧ Q xs
/-- a block's test -/
def tCond : Option TT → TT
  | none => fun _ H k => k true H
  | some t => t
def tComp (K : PySem.W.Frag) (wi : TI) (tk : Option Nat) (fv : List (Str × Nat)) (tc : Option TT) (te : TE) : TE := fun σ H Q =>
  wi σ H fun J H1 => ∃ W : Nat → Nat → List V → Hp → Prop, (∃ m, W 0 m [] H1) ∧ ∀ i m ys H2, W i m ys H2 →
    (J.stop i H2 ∧ ∀ p, H2 p = none → Q (.ref p) (upd H2 p (.lst ys))) ∨
    (J.go i H2 ∧ ∀ x H3, J.yld i H2 x H3 → tgtK K tk x H3 fun xs =>
      tCond tc (xs.map some ++ fvals σ fv) H3 fun b H5 =>
        if b = true then te (xs.map some ++ fvals σ fv) H5 fun y H6 => ys.length < sizeLine ∧ ∃ m', m' < m ∧ W (i + 1) m' (ys ++ [y]) H6
        else ∃ m', m' < m ∧ W (i + 1) m' ys H5)
section
variable {X : Cx} {pins : List (Addr × Obj)} {σ : St} {H : Hp} {s₂ s₃ : Shared} {scope : Scope} {ln : List Str} {fv : List (Str × Nat)} {fp : List Addr} {h₁ : Heap} {D C : Addr} {m : Str → Option Value} {t : Nat}
theorem CompOk.cells (S : CompOk X scope ln fv) (I : Inv X pins σ H s₂) {x : Str} {c : Addr} (h : (closL X.env.cells scope.names []).lookup x = some c) : X.env.cells.lookup x = some c ∧ (x, NameKind.free) ∈ scope.names := by
  rcases closL_look _ _ _ _ h with z | ⟨z1, z2⟩
  · cases z
  · obtain ⟨c', e⟩ := I.ok.has x (S.free _ z1 rfl)
    rw [e] at z2
    have z3 : c' = c := z2
    subst z3
    exact ⟨e, z1⟩
theorem CompOk.clos (S : CompOk X scope ln fv) (I : Inv X pins σ H s₂) : closureFor scope X.env = pure (closL X.env.cells scope.names []) :=
  closureFor_of fun y hy hk => I.ok.has y.1 (S.free y hy hk)
theorem comp_inv (S : CompOk X scope ln fv) (I : Inv X pins σ H s₂) (f2 : ∀ b ∈ fp, FpOk X pins H b) (hob : ∀ b ∈ fp, ∃ o, s₂.heap.get? b = some o)
    (os : s₃.os = s₂.os) (gens : s₃.gens = s₂.gens) (k3 : ∀ b o, s₂.heap.get? b = some o → s₃.heap.get? b = some o) (hD : D = s₂.heap.objs.size) (h3 : s₃.heap.objs.size = s₂.heap.objs.size + 1) (hC : C = s₃.heap.objs.size)
    (k4 : ∀ b o, s₃.heap.get? b = some o → h₁.get? b = some o) (hns : h₁.Ns C m) :
    Inv (compCx X scope (ln ++ fv.map (·.1)) (D :: fp) C s₃ H) [] (ln.map (fun _ => none) ++ fvals σ fv) H { s₃ with heap := h₁, toks := t } := by
  have cl : ∀ {x c}, (closL X.env.cells scope.names []).lookup x = some c → X.env.cells.lookup x = some c := fun h => (S.cells I h).1
  have ltc : ∀ {x c}, (closL X.env.cells scope.names []).lookup x = some c → c < s₂.heap.objs.size := fun h => by
    obtain ⟨v, q⟩ := I.cell _ _ (cl h)
    exact q.lt
  have ltf : ∀ b ∈ fp, b < s₂.heap.objs.size := fun b hb => by obtain ⟨o, e⟩ := hob b hb; exact Heap.lt_size e
  have exb : ∀ b ∈ D :: fp, b ≤ s₂.heap.objs.size := fun b hb => by
    rcases List.mem_cons.mp hb with e | hb
    · rw [e, hD]; exact Nat.le_refl _
    · exact Nat.le_of_lt (ltf b hb)
  have klook : ∀ x, (relabel scope X.env).names.lookup x = (scope.names.lookup x).map fun k => if (k == NameKind.free && X.env.scope.kind == .function && X.env.kindOf x == some .cell) then NameKind.cell else k := fun x => relabel_look scope.names x
  have kfree : ∀ x, scope.names.lookup x = some .free → ((relabel scope X.env).names.lookup x = some .cell ∨ (relabel scope X.env).names.lookup x = some .free) := fun x e => by
    rw [klook, e]
    simp only [Option.map_some]
    split
    · exact .inl rfl
    · exact .inr rfl
  have kback : ∀ x, ((relabel scope X.env).names.lookup x = some .cell ∨ (relabel scope X.env).names.lookup x = some .free) → (x, NameKind.free) ∈ scope.names := fun x e => by
    rw [klook] at e
    cases q : scope.names.lookup x with
    | none => rw [q] at e; rcases e with e | e <;> cases e
    | some k =>
      rw [q] at e
      have hm : (x, k) ∈ scope.names := PySem.mem_of_lookup q
      simp only [Option.map_some] at e
      by_cases hk : k = .free
      · rw [hk] at hm; exact hm
      · have hb : (k == NameKind.free) = false := by simpa using hk
        simp only [hb, Bool.false_and, Bool.false_eq_true, if_false] at e
        rcases e with e | e
        · exact absurd (Option.some.inj e) (S.nocell _ hm)
        · exact absurd (Option.some.inj e) hk
  refine ⟨⟨I.ok.mod, S.kind, I.ok.glob, I.ok.blt, Nat.le_of_eq hC.symm, fun x y c h1 h2 => I.ok.inj x y c (cl h1) (cl h2), fun x hx => closL_has _ _ x (.inl (kback x hx)), fun x c h _ => (by cases h), I.ok.hd, I.ok.frames, .inl rfl, fun b hb => ⟨?_, fun x c e => ?_⟩, fun b o e => ⟨k3 b o (I.bs b o e).1, (I.bs b o e).2⟩, ?_, fun b o e hb => ?_, fun b hb hf => ?_, ?_, I.stkFree⟩,
    rfl, ?_, Un.kept fun b u e => k4 b u e, ⟨m, hns, fun i x v e1 e2 e3 => ?_⟩, fun x c e => ?_, I.hok.fresh ?_, fun x c e => I.freeC x c (cl e), fun p hp => absurd (show p ∈ ([] : List (Addr × Obj)) from hp) (by simp), I.hok.kept fun b u e => k4 b u (k3 b u e), ?_⟩
  · show b ≠ C
    have := exb b hb
    rw [hC, h3]; exact Nat.ne_of_lt (Nat.lt_succ_of_le this)
  · have q1 := ltc e
    rcases List.mem_cons.mp hb with z | z
    · rw [z, hD]; exact Nat.ne_of_lt q1
    · exact (f2 b z).2.2.2.2.1 x c (cl e)
  · show X.base.objs.size ≤ s₃.heap.objs.size
    have := Nat.le_trans I.ok.bsz I.sz
    omega
  · have e2 := (I.bs b o e).1
    have hb' : b ∈ D :: fp := hb
    rcases List.mem_cons.mp hb' with z | z
    · have := Heap.lt_size e2
      rw [z, hD] at this; exact Nat.lt_irrefl _ this
    · rcases (f2 b z).2.2.2.1 with q | q
      · exact I.ok.noex b o e q
      · exact absurd (Nat.lt_of_lt_of_le (Heap.lt_size (I.ok.bs b o e).1) q) (Nat.lt_irrefl _)
  · have hf' : b ∈ frs X.stack := hf
    have hb' : b ∈ D :: fp := hb
    rcases List.mem_cons.mp hb' with z | z
    · rcases List.mem_cons.mp (I.stkSub b hf') with q | q
      · have := I.lt
        rw [← q, z, hD] at this; exact Nat.lt_irrefl _ this
      · exact I.nofs (by rw [z, hD]; exact Nat.le_refl _) q
    · rcases List.mem_cons.mp (I.stkSub b hf') with q | q
      · exact (f2 b z).2.1 q
      · exact (f2 b z).2.2.1 q
  · exact PySem.Heap.FunFrames.of_keeps (fun b o e _ => ⟨o, k3 b o e, rfl⟩) I.stack
  · show AllBare s₃.gens
    rw [gens]; exact I.bare
  · have hi : ln.length ≤ i := by
      by_cases hi : i < ln.length
      · exfalso
        rw [List.getElem?_append_left (by simpa using hi), List.getElem?_map] at e2
        cases q : ln[i]? with
        | none => rw [q] at e2; cases e2
        | some y => rw [q] at e2; cases e2
      · omega
    have e1' : (ln ++ fv.map (·.1))[i]? = some x := e1
    rw [List.getElem?_append_right hi, List.getElem?_map] at e1'
    rw [List.getElem?_append_right (by simpa using hi), List.length_map] at e2
    unfold fvals at e2
    rw [List.getElem?_map] at e2
    cases q : fv[i - ln.length]? with
    | none => rw [q] at e1'; cases e1'
    | some p =>
      rw [q] at e1' e2
      have ex : p.1 = x := Option.some.inj e1'
      have ev : (σ[p.2]?).join = some v := Option.some.inj e2
      obtain ⟨g1, g2⟩ := S.fvs p (List.mem_of_getElem? q)
      rw [ex] at g1 g2
      have ev' : σ[p.2]? = some (some v) := by
        cases z : σ[p.2]? with
        | none => rw [z] at ev; cases ev
        | some o => rw [z] at ev; rw [show o = some v from ev]
      have hk := S.free _ (PySem.mem_of_lookup g2) rfl
      obtain ⟨m2, hn2, hl⟩ := I.loc
      obtain ⟨u, r, l⟩ := hl p.2 x v g1 ev' (by rcases hk with k | k; exact .inr (.inl k); exact .inr (.inr k))
      refine ⟨u, r, .inr ?_⟩
      rcases l with ⟨k, _⟩ | ⟨_, c, ec, z⟩
      · rcases hk with k' | k' <;> (rw [k] at k'; cases k')
      · refine ⟨kfree x g2, c, ?_, ?_⟩
        · obtain ⟨c', e'⟩ := closL_has (cells := X.env.cells) scope.names [] x (.inl (PySem.mem_of_lookup g2))
          have := cl e'
          rw [ec] at this; cases this
          exact e'
        · obtain ⟨o, ho, hd⟩ := z
          exact ⟨o, k4 c o (k3 c o ho), hd⟩
  · obtain ⟨v, o, ho, hd⟩ := I.cell x c (cl e)
    exact ⟨v, o, k4 c o (k3 c o ho), hd⟩
  · show s₂.heap.objs.size ≤ C
    rw [hC, h3]; exact Nat.le_succ _
  · show (ln.map (fun _ => none) ++ fvals σ fv).length = (ln ++ fv.map (·.1)).length
    simp [fvals]
end
/-! ### walking, under a wish for the context -/
structure TurnP (Φ : Cx → Prop) (P : Program) (w : World) (K : PySem.W.Frag) (tg : Expr) (J : It) (fp : List Addr) (it : Addr) (tn : Nat → Heap → Prop) : Prop where
  mem : it ∈ fp
  obj : ∀ i h, tn i h → ∀ b ∈ fp, ∃ o, h.get? b = some o ∧ ∀ v, o.data ≠ .cell v
  keep : ∀ i h h', tn i h → (∀ b ∈ fp, ∀ o, h.get? b = some o → h'.get? b = some o) → tn i h'
  item : ∀ (X : Cx), X.prog = P → X.w = w → X.K = K → Φ X → ∀ (i : Nat) (pins : List (Addr × Obj)) (s : Shared) (σ : St) (H : Hp) (E : Value → Shared → Prop), Inv X pins σ H s → (∀ b ∈ fp, FpOk X pins H b) → tn i s.heap → J.go i H →
    wpAny (model P w) X.A (pyNext (.ref it)) (fun r s1 => ∃ u, r = some u ∧
      wpAny (model P w) X.A (letOwnedTupleGo tg (.ref it) u) (fun _ s2 => ∃ x H', Inv X pins σ H' s2 ∧ RelV x u ∧ J.yld i H x H' ∧ tn (i + 1) s2.heap ∧ ∀ b ∈ fp, H' b = none) E s1) E s
  done : ∀ (X : Cx), X.prog = P → X.w = w → X.K = K → Φ X → ∀ (i : Nat) (pins : List (Addr × Obj)) (s : Shared) (σ : St) (H : Hp) (E : Value → Shared → Prop), Inv X pins σ H s → (∀ b ∈ fp, FpOk X pins H b) → tn i s.heap → J.stop i H →
    wpAny (model P w) X.A (pyNext (.ref it)) (fun r s1 => r = none ∧ Inv X pins σ H s1) E s
  self : ∀ (A : Around) (i : Nat) (s : Shared) (Q : Value → Shared → Prop) (E : Value → Shared → Prop), tn i s.heap → Q (.ref it) s → wpAny (model P w) A (pyIter (.ref it)) Q E s
def PIP (Φ : Cx → Prop) (X : Cx) (tg iter : Expr) (wi : TI) : Prop :=
  ∀ (pins : List (Addr × Obj)) (s : Shared) (σ : St) (H : Hp) (R : It → Hp → Prop), Inv X pins σ H s → wi σ H R →
    wpAny (model X.prog X.w) X.A (eval iter X.env) (fun v s1 => wpAny (model X.prog X.w) X.A (pyIter v) (fun itv s2 =>
      ∃ (it : Addr) (fp : List Addr) (tn : Nat → Heap → Prop) (J : It) (H' : Hp), itv = .ref it ∧ Inv X pins σ H' s2 ∧ TurnP Φ X.prog X.w X.K tg J fp it tn ∧ tn 0 s2.heap ∧ (∀ b ∈ fp, FpOk X pins H' b) ∧ R J H') X.xe s1) X.xe s
abbrev Calm (X : Cx) : Prop := X.calm = true
theorem PI.p {X : Cx} {tg iter : Expr} {wi : TI} (h : PI X tg iter wi) : PIP Calm X tg iter wi := fun pins s σ H R I q =>
  thn (h pins s σ H R I q) fun v s1 h1 => thn h1 fun itv s2 ⟨it, fp, tn, J, H', e, I', T, st, f, r⟩ => ⟨it, fp, tn, J, H', e, I', ⟨T.mem, T.obj, T.keep, T.item, T.done, T.self⟩, st, f, r⟩
/-! ### the block itself -/
section
variable {X : Cx} {pins : List (Addr × Obj)} {σ : St} {H : Hp} {s₂ : Shared} {scope : Scope} {ln : List Str} {fv : List (Str × Nat)} {elt tg iter : Expr} {ifs : List Expr} {pos : Pos}
  {J : It} {fp : List Addr} {it : Addr} {tn : Nat → Heap → Prop} {tk : Option Nat} {tc : Option TT} {te : TE} {Qv : VK} {RR : Value → Addr → Result → Shared → Prop} {E : Value → Shared → Prop}
/-- the target stores what tgtK says -/
def TgtOkP (Ψ : Hp → Prop) (X : Cx) (scope : Scope) (ln : List Str) (fv : List (Str × Nat)) (tg : Expr) (tk : Option Nat) : Prop :=
  ∀ (ex : List Addr) (C : Addr) (s : Shared) (H : Hp), Ψ H → ∃ g, PG (compCx X scope (ln ++ fv.map (·.1)) ex C s H) tg g ∧
    ∀ (x : V) (pre φ : St) (H' : Hp) (Q : St → Hp → Prop), pre.length = ln.length → tgtK X.K tk x H' (fun xs => xs.length = ln.length → Q (xs.map some ++ φ) H') → g x (pre ++ φ) H' Q
def TgtOk (X : Cx) (scope : Scope) (ln : List Str) (fv : List (Str × Nat)) (tg : Expr) (tk : Option Nat) : Prop :=
  ∀ (ex : List Addr) (C : Addr) (s : Shared) (H : Hp), ∃ g, PG (compCx X scope (ln ++ fv.map (·.1)) ex C s H) tg g ∧
    ∀ (x : V) (pre φ : St) (H' : Hp) (Q : St → Hp → Prop), pre.length = ln.length → tgtK X.K tk x H' (fun xs => xs.length = ln.length → Q (xs.map some ++ φ) H') → g x (pre ++ φ) H' Q
def IfsOk (X : Cx) (scope : Scope) (N : List Str) (ifs : List Expr) (tc : Option TT) : Prop :=
  match tc with
  | none => ifs = []
  | some t => ∃ c, ifs = [c] ∧ ∀ (ex : List Addr) (C : Addr) (s : Shared) (H : Hp), PT (compCx X scope N ex C s H) c t
theorem comp_block {Φ : Cx → Prop} {Ψ : Hp → Prop} (S : CompOk X scope ln fv) (hc : ∀ Xc : Cx, Xc.A = X.A → Xc.calm = X.calm → Xc.H₀ = H → Φ Xc) (hΨ : Ψ H) (hg : TgtOkP Ψ X scope ln fv tg tk) (ht : IfsOk X scope (ln ++ fv.map (·.1)) ifs tc)
    (he : ∀ (ex : List Addr) (C : Addr) (s : Shared) (H : Hp), PE (compCx X scope (ln ++ fv.map (·.1)) ex C s H) elt te)
    (I : Inv X pins σ H s₂) (T : TurnP Φ X.prog X.w X.K tg J fp it tn) (st : tn 0 s₂.heap) (f2 : ∀ b ∈ fp, FpOk X pins H b)
    (h : ∃ W : Nat → Nat → List V → Hp → Prop, (∃ m, W 0 m [] H) ∧ ∀ i m ys H2, W i m ys H2 →
      (J.stop i H2 ∧ ∀ p, H2 p = none → Qv (.ref p) (upd H2 p (.lst ys))) ∨
      (J.go i H2 ∧ ∀ x H3, J.yld i H2 x H3 → tgtK X.K tk x H3 fun xs =>
        tCond tc (xs.map some ++ fvals σ fv) H3 fun b H5 =>
          if b = true then te (xs.map some ++ fvals σ fv) H5 fun y H6 => ys.length < sizeLine ∧ ∃ m', m' < m ∧ W (i + 1) m' (ys ++ [y]) H6
          else ∃ m', m' < m ∧ W (i + 1) m' ys H5))
    (hRR : ∀ D C H' s' m, Inv X pins σ H' s' → s'.heap.Ns C m → H' C = none → C ≠ X.env.locals → X.s₀.heap.objs.size ≤ C → (∀ x c, X.env.cells.lookup x = some c → c ≠ C) → (∀ p ∈ X.pn ++ pins, p.1 ≠ C) → Qv (.ref D) H' → RR (.ref D) C (.ok .next) s') :
    wpAny (model X.prog X.w) X.A (newList []) (fun acc s₃ => wpAny (model X.prog X.w) X.A (newFunctionEnv scope X.env.globals (closL X.env.cells scope.names []) [] X.env.qual none .none (some X.env)) (fun cenv s₄ =>
      codeAny (model X.prog X.w) X.A (.compStart (.ListComp elt [⟨tg, iter, ifs, 0⟩] scope pos) 0 (.ref it) acc { cenv with scope := relabel scope X.env }) (RR acc cenv.locals) s₄) E s₃) E s₂ := by
  obtain ⟨W, ⟨m0, w0⟩, turn⟩ := h
  refine wpAny_newObj_type (wpAny_newFunctionEnv S.nocell (by intro y hy; simp at hy) (fun h₁ hns₁ hsb₁ => ?_) S.kind)
  dsimp only at hns₁ hsb₁ ⊢
  generalize hs3 : ({ s₂ with heap := s₂.heap.push { cls := .type "list", dict := none, data := .seq ([] : List Value).toArray } } : Shared) = s₃
  have hH3 : s₂.heap.push { cls := .type "list", dict := none, data := .seq ([] : List Value).toArray } = s₃.heap := by rw [← hs3]
  rw [hH3] at hns₁ hsb₁ ⊢
  have os3 : s₃.os = s₂.os := by rw [← hs3]
  have ge3 : s₃.gens = s₂.gens := by rw [← hs3]
  have sz3 : s₃.heap.objs.size = s₂.heap.objs.size + 1 := by rw [← hH3, Heap.size_push]
  have k3 : ∀ b o, s₂.heap.get? b = some o → s₃.heap.get? b = some o := fun b o e => by rw [← hH3]; exact Heap.get?_push_of_some _ e
  have k4 : ∀ b o, s₃.heap.get? b = some o → h₁.get? b = some o := fun b o e => hsb₁.extBut b o (Nat.ne_of_lt (Heap.lt_size e)) (Heap.get?_push_of_some _ e)
  have gD : s₃.heap.get? s₂.heap.objs.size = some { cls := .type "list", dict := none, data := .seq ([] : List Value).toArray } := by rw [← hH3]; exact Heap.get?_push_size _ rfl
  generalize eD : s₂.heap.objs.size = D at gD
  generalize eC : s₃.heap.objs.size = C at hns₁ hsb₁ ⊢
  have hDC : D ≠ C := by rw [← eD, ← eC, sz3]; exact Nat.ne_of_lt (Nat.lt_succ_self _)
  have hob : ∀ b ∈ fp, ∃ o, s₂.heap.get? b = some o := fun b hb => by obtain ⟨o, e, _⟩ := T.obj 0 _ st b hb; exact ⟨o, e⟩
  have hbD : ∀ b ∈ fp, b ≠ D := fun b hb => by obtain ⟨o, e⟩ := hob b hb; rw [← eD]; exact Nat.ne_of_lt (Heap.lt_size e)
  have hbC : ∀ b ∈ fp, b ≠ C := fun b hb => by
    obtain ⟨o, e⟩ := hob b hb
    have := Heap.lt_size e
    rw [← eC, sz3]; exact Nat.ne_of_lt (Nat.lt_succ_of_lt this)
  generalize eX : compCx X scope (ln ++ fv.map (·.1)) (D :: fp) C s₃ H = Xc
  have I4 : ∀ t, Inv Xc [] (ln.map (fun _ => none) ++ fvals σ fv) H { s₃ with heap := h₁, toks := t } := fun t => by
    rw [← eX]
    exact comp_inv S I f2 hob os3 ge3 k3 eD.symm sz3 eC.symm k4 hns₁
  have xL : Xc.env.locals = C := by rw [← eX]; rfl
  have xex : Xc.ex = D :: fp := by rw [← eX]; rfl
  have xfs : Xc.fs = frs X.stack := by rw [← eX]; rfl
  have xP : Xc.prog = X.prog := by rw [← eX]; rfl
  have xw : Xc.w = X.w := by rw [← eX]; rfl
  have xK : Xc.K = X.K := by rw [← eX]; rfl
  have xA : Xc.A = X.A := by rw [← eX]; rfl
  have xc : Φ Xc := hc Xc xA (by rw [← eX]; rfl) (by rw [← eX]; rfl)
  have xpn : Xc.pn = [] := by rw [← eX]; rfl
  have xxe : Xc.xe = fun _ _ => False := by rw [← eX]; rfl
  have xcell : Xc.env.cells = closL X.env.cells scope.names [] := by rw [← eX]; rfl
  have xenv : Xc.env = compEnvC scope (closL X.env.cells scope.names []) C X.env := by rw [← eX]; rfl
  have cD : ∀ x c, Xc.env.cells.lookup x = some c → c ≠ D := fun x c e => by
    rw [xcell] at e
    obtain ⟨v, q⟩ := I.cell x c (S.cells I e).1
    rw [← eD]; exact Nat.ne_of_lt q.lt
  have cF : ∀ x c, Xc.env.cells.lookup x = some c → ∀ b ∈ fp, c ≠ b := fun x c e b hb => by
    rw [xcell] at e
    exact (f2 b hb).2.2.2.2.1 x c (S.cells I e).1
  have sF : ∀ b ∈ D :: fp, b ∉ Xc.fs := fun b hb hf => by
    have := (I4 0).ok.exfs b (by rw [xex]; exact hb)
    exact this hf
  -- the iterator's objects, the list
  have stat : ∀ {H' : Hp} {oD : Obj}, (∀ b ∈ fp, H' b = none) → ∀ b ∈ fp, FpOk Xc [(D, oD)] H' b := fun hn b hb =>
    ⟨hn b hb, by rw [xL]; exact hbC b hb, sF b (List.mem_cons_of_mem _ hb), .inl (by rw [xex]; exact List.mem_cons_of_mem _ hb), fun x c e => cF x c e b hb, fun p hp => by
      rw [xpn] at hp
      rcases List.mem_singleton.mp (show p ∈ [(D, _)] from hp) with rfl
      exact (hbD b hb).symm⟩
  have loop : ∀ s₄ : Shared, s₄ = { s₃ with heap := h₁, toks := s₃.toks + ([] : List (Str × Value)).length } →
      codeAny (model X.prog X.w) X.A (.compLoop (.ListComp elt [⟨tg, iter, ifs, 0⟩] scope pos) 0 (.ref it) (.ref D) (compEnvC scope (closL X.env.cells scope.names []) C X.env)) (RR (.ref D) C) s₄ := by
    rintro s₄ rfl
    refine compLoop_any (fun n s' => ∃ i pre ys its nn H', Inv Xc [(D, { cls := .type "list", data := .seq (List.toArray its) nn })] (pre ++ fvals σ fv) H' s' ∧ pre.length = ln.length ∧ tn i s'.heap ∧ (∀ b ∈ fp, H' b = none) ∧ Vals ys its ∧ ys.length ≤ sizeLine ∧ W i n ys H') ?_ m0
      ⟨0, ln.map (fun _ => none), [], [], 0, H, (I4 _).pins_of (fun p hp => ?_), by simp, T.keep 0 _ _ st (fun b _ o e => k4 b o (k3 b o e)), fun b hb => (f2 b hb).1, .nil, Nat.zero_le _, w0⟩
    rotate_left
    · have hp' := List.mem_singleton.mp hp
      subst hp'
      refine ⟨k4 _ _ gD, I.hok.fresh (Nat.le_of_eq eD), by rw [xL]; exact hDC, sF D List.mem_cons_self, fun v z => by cases z⟩
    rintro n s' ⟨i, pre, ys, its, nn, H', I', hpre, st', fr', hv, hz, w'⟩
    have pinD := I'.pin (D, _) (List.mem_append_right _ List.mem_cons_self)
    rcases turn i n ys H' w' with ⟨stop, qn⟩ | ⟨go, step⟩
    · have td := T.done Xc xP xw xK xc i _ s' _ H' (fun _ _ => False) I' (stat fr') st' stop
      rw [xA] at td
      refine thn td fun r s1 ⟨hr, I1⟩ => ?_
      subst hr
      have pinD1 := I1.pin (D, _) (List.mem_append_right _ List.mem_cons_self)
      have b1 := I1.base
      rw [xfs, xex] at b1
      have hs0 : Xc.s₀ = s₃ := by rw [← eX]; rfl
      have hH0 : Xc.H₀ = H := by rw [← eX]; rfl
      rw [hs0, hH0] at b1
      have nD : ∀ b o, s₂.heap.get? b = some o → b ∉ fp → b ∉ D :: fp := fun b o e hb hm => by
        rcases List.mem_cons.mp hm with z | z
        · have := Heap.lt_size e
          rw [z, eD] at this; exact Nat.lt_irrefl _ this
        · exact hb z
      have un : Un (frs X.stack) fp H H' s₂.heap s1.heap := ⟨fun b o e nb hb hx => b1.keep b o (k3 b o e) nb hb (nD b o e hx), fun b o e nb hb hx => b1.slot b o (k3 b o e) nb hb (nD b o e hx), fun b o e nb hx => b1.free b o (k3 b o e) nb (nD b o e hx),
        fun b o e hx => b1.there b o (k3 b o e) (nD b o e hx), b1.tups, b1.frzs, b1.tbls⟩
      have os1 : s1.os = s₂.os := by rw [I1.os, hs0, os3]
      have hok1 := I1.hok
      rw [xP, xw] at hok1
      have J1 : Inv X pins σ H' s1 := I.call' os1 un hok1 I1.bare fun b hb => ⟨(f2 b hb).2.2.2.1, (f2 b hb).2.1, (f2 b hb).2.2.2.2.1, (f2 b hb).2.2.2.2.2⟩
      have cD' : ∀ x c, X.env.cells.lookup x = some c → c ≠ D := fun x c e => by
        obtain ⟨v, q⟩ := I.cell x c e
        rw [← eD]; exact Nat.ne_of_lt q.lt
      have cC' : ∀ x c, X.env.cells.lookup x = some c → c ≠ C := fun x c e => by
        obtain ⟨v, q⟩ := I.cell x c e
        rw [← eC, sz3]; exact Nat.ne_of_lt (Nat.lt_succ_of_lt q.lt)
      have pD : ∀ p ∈ X.pn ++ pins, p.1 ≠ D := fun p hp => by rw [← eD]; exact Nat.ne_of_lt (Heap.lt_size (I.pin p hp).1)
      have pC : ∀ p ∈ X.pn ++ pins, p.1 ≠ C := fun p hp => by
        rw [← eC, sz3]; exact Nat.ne_of_lt (Nat.lt_succ_of_lt (Heap.lt_size (I.pin p hp).1))
      have lD : D ≠ X.env.locals := by rw [← eD]; exact Nat.ne_of_gt I.lt
      have lC : C ≠ X.env.locals := by
        rw [← eC, sz3]; exact Nat.ne_of_gt (Nat.lt_succ_of_lt I.lt)
      have J2 : Inv X pins σ (upd H' D (.lst ys)) s1 := Inv.track J1 pinD1.2.1 (by rw [← eD]; exact I.sz) lD cD' pD ⟨hz, its, nn, hv, pinD1.1⟩
      obtain ⟨mC, nsC, _⟩ := I1.loc
      rw [xL] at nsC
      have fC : H' C = none := by have := I1.free; rw [xL] at this; exact this
      exact hRR D C _ s1 mC J2 nsC (by rw [upd_ne (Ne.symm hDC)]; exact fC) lC (by rw [← eC, sz3]; exact Nat.le_succ_of_le I.sz) cC' pC (qn D pinD1.2.1)
    · have ti := T.item Xc xP xw xK xc i _ s' _ H' (fun _ _ => False) I' (stat fr') st' go
      rw [xA] at ti
      refine thn ti fun r s4 ⟨u, hr, h4⟩ => ?_
      subst hr
      refine thn h4 fun _ s5 ⟨x, H5, I5, r5, y5, st5, fr5⟩ => ?_
      have I5' := I5.pinned (stat fr5) (T.obj _ _ st5)
      obtain ⟨g, pg, gq⟩ := hg (D :: fp) C s₃ H hΨ
      rw [eX] at pg
      have rd := step x H5 y5
      have as1 := pg _ s5 _ H5 x u (fun σ6 H6 => ∃ xs : List V, σ6 = xs.map some ++ fvals σ fv ∧ xs.length = ln.length ∧ H6 = H5 ∧
          tCond tc (xs.map some ++ fvals σ fv) H5 fun b H5 =>
          if b = true then te (xs.map some ++ fvals σ fv) H5 fun y H6 => ys.length < sizeLine ∧ ∃ m', m' < n ∧ W (i + 1) m' (ys ++ [y]) H6
          else ∃ m', m' < n ∧ W (i + 1) m' ys H5) I5' r5 (gq x pre (fvals σ fv) H5 _ hpre (by
            cases tk with
            | none => exact fun hl => ⟨_, rfl, hl, rfl, rd⟩
            | some k =>
              obtain ⟨a, xs, e1, e2, e3, rd⟩ := rd
              exact ⟨a, xs, e1, e2, e3, fun hl => ⟨xs, rfl, hl, rfl, rd⟩⟩))
      rw [xA, xP, xw, xxe, xenv] at as1
      refine thn as1 fun _ s6 ⟨σ6, H6, I6, xs, e6, hxs, eH, rd6⟩ => ?_
      subst e6 eH
      have pinsK : ∀ {H7 : Hp} {σ7 : St} {s7 : Shared}, Inv Xc ([(D, { cls := .type "list", data := .seq (List.toArray its) nn })] ++ pinsAt fp s5.heap) σ7 H7 s7 → tn (i + 1) s7.heap ∧ (∀ b ∈ fp, H7 b = none) ∧ s7.heap.get? D = some { cls := .type "list", data := .seq (List.toArray its) nn } ∧ H7 D = none := fun {H7 σ7 s7} I7 => by
        refine ⟨T.keep _ _ _ st5 fun b hb o e => (I7.pin (b, o) (List.mem_append_right _ (List.mem_append_right _ (mem_pinsAt hb e)))).1, fun b hb => ?_, ?_, ?_⟩
        · obtain ⟨o, e, d⟩ := T.obj _ _ st5 b hb
          exact (I7.pin (b, o) (List.mem_append_right _ (List.mem_append_right _ (mem_pinsAt hb e)))).2.1
        · exact (I7.pin (D, _) (List.mem_append_right _ (List.mem_append_left _ List.mem_cons_self))).1
        · exact (I7.pin (D, _) (List.mem_append_right _ (List.mem_append_left _ List.mem_cons_self))).2.1
      -- the tests
      have tests : wpAny (model X.prog X.w) X.A (forIn ifs true fun c r => if r = true then do let ok ← isTrue c (compEnvC scope (closL X.env.cells scope.names []) C X.env) (eval c (compEnvC scope (closL X.env.cells scope.names []) C X.env)); pure (ForInStep.yield ok) else pure (ForInStep.yield r))
          (fun ok s7 => ∃ H7, Inv Xc ([(D, { cls := .type "list", data := .seq (List.toArray its) nn })] ++ pinsAt fp s5.heap) (xs.map some ++ fvals σ fv) H7 s7 ∧
            if ok = true then te (xs.map some ++ fvals σ fv) H7 fun y H6 => ys.length < sizeLine ∧ ∃ m', m' < n ∧ W (i + 1) m' (ys ++ [y]) H6
            else ∃ m', m' < n ∧ W (i + 1) m' ys H7) (fun _ _ => False) s6 := by
        cases tc with
        | none =>
          have hif : ifs = [] := ht
          subst hif
          exact wpAny_tests_nil ⟨_, I6, rd6⟩
        | some t =>
          obtain ⟨c, hif, pt⟩ := (show ∃ c, ifs = [c] ∧ ∀ (ex : List Addr) (C : Addr) (s : Shared) (H : Hp), PT (compCx X scope (ln ++ fv.map (·.1)) ex C s H) c t from ht)
          subst hif
          have pt' := pt (D :: fp) C s₃ H
          rw [eX] at pt'
          have q := pt' _ s6 _ _ _ I6 rd6
          rw [xA, xP, xw, xxe, xenv] at q
          exact wpAny_tests_one (thn q fun b s7 ⟨H7, I7, q7⟩ => ⟨H7, I7, q7⟩)
      refine thn tests fun ok s7 ⟨H7, I7, q7⟩ => ?_
      cases ok with
      | false =>
        simp only [Bool.false_eq_true, if_false] at q7 ⊢
        obtain ⟨m', hm, w7⟩ := q7
        obtain ⟨t7, f7, d7, n7⟩ := pinsK I7
        refine ⟨m', hm, i + 1, xs.map some, ys, its, nn, H7, I7.pins_of (fun p hp => ?_), by simpa using hxs, t7, f7, hv, hz, w7⟩
        exact I7.pin p (List.mem_append_right _ (List.mem_append_left _ hp))
      | true =>
        simp only [if_true] at q7 ⊢
        have q := he (D :: fp) C s₃ H
        rw [eX] at q
        have q := q _ s7 _ H7 _ I7 q7
        rw [xA, xP, xw, xxe, xenv] at q
        refine thn q fun uy s8 ⟨y, H8, I8, r8, hlt, m', hm, w8⟩ => ?_
        obtain ⟨t8, f8, d8, n8⟩ := pinsK I8
        have hl := hv.length
        refine call_meets F.slot_list_append ⟨_, d8, rfl⟩ F.entry_list_append (F.args_list_append_2 _ _) (PySem.list_append D its.toArray nn uy (by rw [List.size_toArray]; omega)) ⟨d8, ?_⟩
        have I9 : ∀ t, Inv Xc [] (xs.map some ++ fvals σ fv) H8 { s8 with heap := s8.heap.update D (Obj.mapSeq (·.push uy)), toks := t } := fun t =>
          (I8.pins_of (pins' := []) (fun p hp => absurd hp (by simp))).turned (it := D) (t' := t) (fun b o hb e => (Heap.get?_update_other s8.heap (Obj.mapSeq (·.push uy)) (Ne.symm hb)).trans e) n8 (by rw [xL]; exact hDC) (.inl (by rw [xex]; exact List.mem_cons_self)) cD
            (fun p hp => by rw [xpn] at hp; exact absurd hp (by simp))
        have g9 := PySem.IsL.update d8 (·.push uy)
        obtain ⟨n9, g9'⟩ : ∃ n9, (s8.heap.update D (Obj.mapSeq (·.push uy))).get? D = some { cls := .type "list", data := .seq (its ++ [uy]).toArray n9 } :=
          ⟨_, by rw [show (its ++ [uy]).toArray = its.toArray.push uy by simp]; exact g9⟩
        refine ⟨m', hm, i + 1, xs.map some, ys ++ [y], its ++ [uy], n9, H8, (I9 _).pins_of (fun p hp => ?_), by simpa using hxs, ?_, f8, hv.append (.cons r8 .nil), ?_, w8⟩
        · have hp' := List.mem_singleton.mp hp
          subst hp'
          exact ⟨g9', n8, by rw [xL]; exact hDC, sF D List.mem_cons_self, fun v z => by cases z⟩
        · exact T.keep _ _ _ t8 fun b hb o e => (Heap.get?_update_other s8.heap (Obj.mapSeq (·.push uy)) (Ne.symm (hbD b hb))).trans e
        · rw [List.length_append, List.length_singleton]; omega
  have st4 : tn 0 h₁ := T.keep 0 _ _ st fun b _ o e => k4 b o (k3 b o e)
  have e4 : ({ s₂ with heap := h₁, toks := s₂.toks + ([] : List (Str × Value)).length } : Shared) = { s₃ with heap := h₁, toks := s₃.toks + ([] : List (Str × Value)).length } := by rw [← hs3]
  exact codeAny_compStart_list (loop _ e4) (T.self X.A 0 _ _ _ st4 (loop _ e4))
end
section
variable {X : Cx} {scope : Scope} {ln : List Str} {fv : List (Str × Nat)} {elt tg iter : Expr} {ifs : List Expr} {pos : Pos} {wi : TI} {tk : Option Nat} {tc : Option TT} {te : TE}
/-- [elt for tg in iter if ..] -/
theorem pe_compP {Φ : Cx → Prop} {Ψ : Hp → Prop} (S : CompOk X scope ln fv) (hc : ∀ H, Ψ H → ∀ Xc : Cx, Xc.A = X.A → Xc.calm = X.calm → Xc.H₀ = H → Φ Xc) (hΨ : ∀ pins σ H s, Inv X pins σ H s → Ψ H) (hi : PIP Φ X tg iter wi) (hg : TgtOkP Ψ X scope ln fv tg tk) (ht : IfsOk X scope (ln ++ fv.map (·.1)) ifs tc)
    (he : ∀ (ex : List Addr) (C : Addr) (s : Shared) (H : Hp), PE (compCx X scope (ln ++ fv.map (·.1)) ex C s H) elt te) (hs : ∀ x, foldedSetIterable iter X.env x = pure x := by intro _; rfl) :
    PE X (.ListComp elt [⟨tg, iter, ifs, 0⟩] scope pos) (tComp X.K wi tk fv tc te) := by
  intro pins s σ H Q I h
  rw [eval_ListComp]
  refine wpAny_comprehension_free (use := none) rfl hs (S.clos I) S.kind S.locals (thn (hi pins s σ H _ I h) fun v s1 h1 => thn h1 fun itv s2 h2 => ?_)
  obtain ⟨it, fp, tn, J, H2, e, I2, T, st2, f2, hW⟩ := h2
  subst e
  refine comp_block (RR := fun acc C => compPost (model X.prog X.w) X.A X.xe none (EP X pins σ Q) acc C) S (hc H2 (hΨ _ _ _ _ I2)) (hΨ _ _ _ _ I2) hg ht he I2 T st2 f2 hW ?_
  intro D C H' s' m I' ns hn hL h0 hcl hp q
  refine ⟨m, ns, fun h' sb => ⟨.ref D, H', ?_, rfl, q⟩⟩
  exact I'.turned (it := C) (t' := s'.toks) (fun b o hb e => sb.extBut b o hb e) hn hL (.inr h0) hcl hp
/-- y = [elt for ..], stored ahead of the block's end -/
theorem ps_setCompP {Φ : Cx → Prop} {Ψ : Hp → Prop} {i : Nat} {y : Str} {py spos : Pos} (hN : X.N.Nodup) (hi' : X.N[i]? = some y) (hy : Loc X.env.scope y) (hsw : swapsWith (.ListComp elt [⟨tg, iter, ifs, 0⟩] scope pos) (some (.Name y py)) spos.line X.env = pure true)
    (S : CompOk X scope ln fv) (hc : ∀ H, Ψ H → ∀ Xc : Cx, Xc.A = X.A → Xc.calm = X.calm → Xc.H₀ = H → Φ Xc) (hΨ : ∀ pins σ H s, Inv X pins σ H s → Ψ H) (hi : PIP Φ X tg iter wi) (hg : TgtOkP Ψ X scope ln fv tg tk) (ht : IfsOk X scope (ln ++ fv.map (·.1)) ifs tc)
    (he : ∀ (ex : List Addr) (C : Addr) (s : Shared) (H : Hp), PE (compCx X scope (ln ++ fv.map (·.1)) ex C s H) elt te) (hs : ∀ x, foldedSetIterable iter X.env x = pure x := by intro _; rfl)
    (hf : X.fn y = true ∨ X.env.scope.names.lookup y = some .local := by first | exact .inl rfl | exact .inr rfl | assumption) :
    PS X (.Assign [.Name y py] (.ListComp elt [⟨tg, iter, ifs, 0⟩] scope pos) spos) (tAsg (tComp X.K wi tk fv tc te) (gName i)) := by
  intro pins s σ H D I h
  rw [exec_Assign_Name_used _ _ _ _ hsw]
  refine wpAny_bind (wpAny_standAt (wpAny_bind ?_))
  show wpAny _ X.A (do let _ ← comprehension (.ListComp elt [⟨tg, iter, ifs, 0⟩] scope pos) scope X.env _ (newList []) false (eval iter X.env) (some (assign (.Name y py) X.env))) _ _ s
  refine wpAny_bind (wpAny_mono (wpAny_comprehension_free (use := some (assign (.Name y py) X.env)) (Q := fun _ s' => SP X pins D .next s') rfl hs (S.clos I) S.kind S.locals
    (thn (hi pins s σ H _ I h) fun v s1 h1 => thn h1 fun itv s2 h2 => ?_)) (fun _ s' hq => wpAny_pure (wpAny_pure hq)) fun _ _ e => e)
  obtain ⟨it, fp, tn, J, H2, e, I2, T, st2, f2, hW⟩ := h2
  subst e
  refine comp_block (Qv := fun x H1 => gName i x σ H1 D.nx) (RR := fun acc C => compPost (model X.prog X.w) X.A X.xe (some (assign (.Name y py) X.env)) (fun _ s' => SP X pins D .next s') acc C) S (hc H2 (hΨ _ _ _ _ I2)) (hΨ _ _ _ _ I2) hg ht he I2 T st2 f2 hW ?_
  intro Da C H' s' m I' ns hn hL h0 hcl hp q
  show wpAny _ X.A (assign (.Name y py) X.env (.ref Da)) _ _ _
  refine wpAny_assign_Name (store_ok2 I' hN hi' hy (v := .ref Da) rfl (fun s4 I4 ⟨a, sb, ha⟩ => ?_) hf)
  have hCa : C ≠ a := by
    rcases ha with z | z
    · rw [z]; exact hL
    · exact Ne.symm (hcl _ _ z)
  refine ⟨m, ns.sameBut sb hCa, fun h' sb' => ⟨_, H', ?_, q⟩⟩
  exact I4.turned (it := C) (t' := s4.toks) (fun b o hb e => sb'.extBut b o hb e) hn hL (.inr h0) hcl hp
theorem pe_comp (S : CompOk X scope ln fv) (hc : X.calm = true) (hi : PI X tg iter wi) (hg : TgtOk X scope ln fv tg tk) (ht : IfsOk X scope (ln ++ fv.map (·.1)) ifs tc)
    (he : ∀ (ex : List Addr) (C : Addr) (s : Shared) (H : Hp), PE (compCx X scope (ln ++ fv.map (·.1)) ex C s H) elt te) (hs : ∀ x, foldedSetIterable iter X.env x = pure x := by intro _; rfl) :
    PE X (.ListComp elt [⟨tg, iter, ifs, 0⟩] scope pos) (tComp X.K wi tk fv tc te) :=
  pe_compP (Φ := Calm) (Ψ := fun _ => True) S (fun _ _ Xc _ e _ => e.trans hc) (fun _ _ _ _ _ => trivial) hi.p (fun ex C s H _ => hg ex C s H) ht he hs
theorem ps_setComp {i : Nat} {y : Str} {py spos : Pos} (hN : X.N.Nodup) (hi' : X.N[i]? = some y) (hy : Loc X.env.scope y) (hsw : swapsWith (.ListComp elt [⟨tg, iter, ifs, 0⟩] scope pos) (some (.Name y py)) spos.line X.env = pure true)
    (S : CompOk X scope ln fv) (hc : X.calm = true) (hi : PI X tg iter wi) (hg : TgtOk X scope ln fv tg tk) (ht : IfsOk X scope (ln ++ fv.map (·.1)) ifs tc)
    (he : ∀ (ex : List Addr) (C : Addr) (s : Shared) (H : Hp), PE (compCx X scope (ln ++ fv.map (·.1)) ex C s H) elt te) (hs : ∀ x, foldedSetIterable iter X.env x = pure x := by intro _; rfl)
    (hf : X.fn y = true ∨ X.env.scope.names.lookup y = some .local := by first | exact .inl rfl | exact .inr rfl | assumption) :
    PS X (.Assign [.Name y py] (.ListComp elt [⟨tg, iter, ifs, 0⟩] scope pos) spos) (tAsg (tComp X.K wi tk fv tc te) (gName i)) :=
  ps_setCompP (Φ := Calm) (Ψ := fun _ => True) hN hi' hy hsw S (fun _ _ Xc _ e _ => e.trans hc) (fun _ _ _ _ _ => trivial) hi.p (fun ex C s H _ => hg ex C s H) ht he hs hf
end
/-! ### targets of a block -/
section
variable {X : Cx} {scope : Scope} {fv : List (Str × Nat)}
theorem tgt_name {x : Str} {px : Pos} (hl : scope.names.lookup x = some .local) (hnd : (x :: fv.map (·.1)).Nodup) : TgtOk X scope [x] fv (.Name x px) none := by
  intro ex C s H
  have hloc : Loc (compCx X scope ([x] ++ fv.map (·.1)) ex C s H).env.scope x := .inl (lookup_relabel_local hl)
  refine ⟨gName 0, pg_name (X := compCx X scope ([x] ++ fv.map (·.1)) ex C s H) hnd rfl hloc (.inr (lookup_relabel_local hl)), fun v pre φ H' Q hp h => ?_⟩
  obtain ⟨a, rfl⟩ : ∃ a, pre = [a] := by
    match pre, hp with
    | [a], _ => exact ⟨a, rfl⟩
  exact h rfl
theorem tgt_two {x y : Str} {px py pos : Pos} {k : Nat} (hc : X.calm = true) (hx : scope.names.lookup x = some .local) (hy : scope.names.lookup y = some .local) (hnd : (x :: y :: fv.map (·.1)).Nodup) : TgtOk X scope [x, y] fv (.Tuple [.Name x px, .Name y py] k pos) (some 2) := by
  intro ex C s H
  generalize eX : compCx X scope ([x, y] ++ fv.map (·.1)) ex C s H = Xc
  have xN : Xc.N = x :: y :: fv.map (·.1) := by rw [← eX]; rfl
  have xc : Xc.calm = true := by rw [← eX]; exact hc
  have lx : Xc.env.scope.names.lookup x = some .local := by rw [← eX]; exact lookup_relabel_local hx
  have ly : Xc.env.scope.names.lookup y = some .local := by rw [← eX]; exact lookup_relabel_local hy
  have p1 : PG Xc (.Name x px) (gName 0) := pg_name (by rw [xN]; exact hnd) (by rw [xN]; rfl) (.inl lx) (.inr lx)
  have p2 : PG Xc (.Name y py) (gName 1) := pg_name (by rw [xN]; exact hnd) (by rw [xN]; rfl) (.inl ly) (.inr ly)
  have xK : Xc.K = X.K := by rw [← eX]; rfl
  refine ⟨gTup Xc.K 2 (gCons (gName 0) (gCons (gName 1) gNil)), pg_tup xc (pgs_cons p1 (pgs_cons p2 pgs_nil)), fun v pre φ H' Q hp h => ?_⟩
  obtain ⟨a, b, rfl⟩ : ∃ a b, pre = [a, b] := by
    match pre, hp with
    | [a, b], _ => exact ⟨a, b, rfl⟩
  obtain ⟨a', xs, rfl, e2, e3, q⟩ := h
  obtain ⟨v1, v2, rfl⟩ : ∃ v1 v2, xs = [v1, v2] := by
    match xs, e3 with
    | [v1, v2], _ => exact ⟨v1, v2, rfl⟩
  exact ⟨a', _, rfl, by rw [xK]; exact e2, rfl, v1, _, rfl, v2, _, rfl, rfl, q rfl⟩
end
end L2
set_option maxRecDepth 100000
set_option maxHeartbeats 4000000
namespace L2
open PySem PySem.Spec PyProof.Rows
section
variable {X : Cx}
theorem OpR.imp {f : Value → Value → Sem Value} {r r' : R2} (h : OpR X f r) (i : ∀ x y H Q, r' x y H Q → r x y H Q) : OpR X f r' := fun pins s σ H x y v u Q I rx ry q => h pins s σ H x y v u Q I rx ry (i _ _ _ _ q)
theorem CallR.imp {f : Value} {r r' : List V → Hp → VK → Prop} (h : CallR X f r) (i : ∀ xs H Q, r' xs H Q → r xs H Q) : CallR X f r' := fun pins s σ H xs us Q I rv q => h pins s σ H xs us Q I rv (i _ _ _ q)
/-! ### + of ints, texts, lists, tuples -/
def rAddV (K : PySem.W.Frag) : R2 := fun x y H Q => match x, y with
  | .int i, .int j => Q (.int (i + j)) H
  | .str i, .str j => i.length + j.length ≤ sizeLine ∧ Q (.str (i ++ j)) H
  | .ref l, .ref b => rCat (.ref l) (.ref b) H Q ∨ rCatT K (.ref l) (.ref b) H Q
  | _, _ => False
theorem op_addV : OpR X (binaryOp .Add) (rAddV X.K) := by
  refine OpR.imp ((op_add.or op_add_str).or (op_cat.or op_catT)) fun x y H Q h => ?_
  cases x <;> cases y <;> first
    | exact False.elim h
    | exact .inl (.inl ⟨_, _, rfl, rfl, h⟩)
    | exact .inl (.inr ⟨_, _, rfl, rfl, h⟩)
    | exact .inr h
/-! ### ints -/
def rI2 (C : Int → Int → Prop) (g : Int → Int → V) : R2 := fun x y H Q => match x, y with
  | .int i, .int j => C i j ∧ Q (g i j) H
  | _, _ => False
theorem rI2_imp {C : Int → Int → Prop} {g : Int → Int → V} (x y : V) (H : Hp) (Q : VK) (h : rI2 C g x y H Q) : rI C g x y H Q := by
  cases x <;> cases y <;> first
    | exact False.elim h
    | exact ⟨_, _, rfl, rfl, h⟩
theorem rI2_imp0 {g : Int → Int → V} (x y : V) (H : Hp) (Q : VK) (h : rI2 (fun _ _ => True) g x y H Q) : rI0 g x y H Q := by
  cases x <;> cases y <;> first
    | exact False.elim h
    | exact ⟨_, _, rfl, rfl, h.2⟩
/-! ### * of ints, a list times an int -/
def rMulV : R2 := fun x y H Q => match x, y with
  | .int i, .int j => CMul i j ∧ Q (.int (i * j)) H
  | .ref l, .int k => rRep (.ref l) (.int k) H Q
  | _, _ => False
theorem op_mulV : OpR X (binaryOp .Mult) rMulV := by
  refine OpR.imp (op_mul.or op_rep) fun x y H Q h => ?_
  cases x <;> cases y <;> first
    | exact False.elim h
    | exact .inl ⟨_, _, rfl, rfl, h⟩
    | exact .inr h
def rBin (K : PySem.W.Frag) : Operator → R2
  | .Add => rAddV K
  | .Sub => rI2 (fun _ _ => True) fun i j => .int (i - j)
  | .Mult => rMulV
  | .FloorDiv => rI2 CDiv fun i j => .int (i / j)
  | .Mod => rI2 (fun _ j => 0 < j) fun i j => .int (i % j)
  | .Pow => rI2 CPow fun i j => .int (i ^ j.toNat)
  | _ => fun _ _ _ _ => False
theorem op_bin (op : Operator) : OpR X (binaryOp op) (rBin X.K op) := by
  cases op <;> first
    | exact op_addV
    | exact OpR.imp op_sub rI2_imp0
    | exact op_mulV
    | exact OpR.imp op_fdiv rI2_imp
    | exact OpR.imp op_mod rI2_imp
    | exact OpR.imp op_pow rI2_imp
    | exact fun _ _ _ _ _ _ _ _ _ _ _ _ h => False.elim h
/-! ### data of any depth, by the abstract heap -/
mutual
def Is (H : Hp) : PyData → V → Prop
  | .none, v => v = .non
  | .bool b, v => v = .bl b
  | .int i, v => v = .int i
  | .str x, v => v = .str x
  | .list xs, v => ∃ a vs, v = .ref a ∧ H a = some (.lst vs) ∧ IsL H xs vs
  | .tuple xs, v => ∃ a vs, v = .ref a ∧ H a = some (.tup vs) ∧ IsL H xs vs
  | .dict _, _ => False
def IsL (H : Hp) : List PyData → List V → Prop
  | [], vs => vs = []
  | d :: ds, vs => ∃ v r, vs = v :: r ∧ Is H d v ∧ IsL H ds r
end
mutual
theorem Is.reads {pins : List (Addr × Obj)} {σ : St} {H : Hp} {s : Shared} (I : Inv X pins σ H s) : ∀ (d : PyData) (v : V) (u : Value), Is H d v → RelV v u → ∃ as, Reads s.heap u d as
  | .none, v, u, h, r => by rw [show v = .non from h] at r; rw [show u = .none from r]; exact ⟨_, .none⟩
  | .bool b, v, u, h, r => by rw [show v = .bl b from h] at r; rw [show u = .bool b from r]; exact ⟨_, .bool b⟩
  | .int i, v, u, h, r => by rw [show v = .int i from h] at r; obtain ⟨t, e⟩ := r; rw [e]; exact ⟨_, .int i t⟩
  | .str x, v, u, h, r => by rw [show v = .str x from h] at r; obtain ⟨t, e⟩ := r; rw [e]; exact ⟨_, .str x t⟩
  | .list xs, v, u, h, r => by
    obtain ⟨a, vs, e, hH, hl⟩ := (show ∃ a vs, v = .ref a ∧ H a = some (.lst vs) ∧ IsL H xs vs by simpa only [Is] using h)
    rw [e] at r
    rw [show u = .ref a from r]
    obtain ⟨_, its, n, hv, hg⟩ := I.hok a _ hH
    obtain ⟨as, q⟩ := IsL.reads I xs vs its hl hv
    exact ⟨_, .list hg rfl rfl (by simpa using q)⟩
  | .tuple xs, v, u, h, r => by
    obtain ⟨a, vs, e, hH, hl⟩ := (show ∃ a vs, v = .ref a ∧ H a = some (.tup vs) ∧ IsL H xs vs by simpa only [Is] using h)
    rw [e] at r
    rw [show u = .ref a from r]
    obtain ⟨_, its, hv, o, hg, hc, n, hd⟩ := I.hok a _ hH
    obtain ⟨as, q⟩ := IsL.reads I xs vs its hl hv
    exact ⟨_, .tuple hg hc hd (by simpa using q)⟩
  | .dict _, v, u, h, r => by simp only [Is] at h
theorem IsL.reads {pins : List (Addr × Obj)} {σ : St} {H : Hp} {s : Shared} (I : Inv X pins σ H s) : ∀ (ds : List PyData) (vs : List V) (us : List Value), IsL H ds vs → Vals vs us → ∃ as, ReadsAll s.heap us ds as
  | [], vs, us, h, r => by
    rw [show vs = [] from h] at r
    cases r
    exact ⟨_, .nil⟩
  | d :: ds, vs, us, h, r => by
    obtain ⟨v, q, e, h1, h2⟩ := (show ∃ v r, vs = v :: r ∧ Is H d v ∧ IsL H ds r by simpa only [IsL] using h)
    rw [e] at r
    cases r with
    | cons r1 r2 =>
      obtain ⟨as, q1⟩ := Is.reads I d v _ h1 r1
      obtain ⟨bs, q2⟩ := IsL.reads I ds q _ h2 r2
      exact ⟨_, .cons q1 q2⟩
end
/-! ### ==, != -/
/-- what is like itself, whatever its token -/
def likeV : V → Bool
  | .flt _ => false
  | .byt _ => false
  | _ => true
theorem like_eq {A : Around} {s : Shared} {x : V} {u v : Value} (ru : RelV x u) (rv : RelV x v) (h : likeV x = true) : SeqAt.EqAt A s u v true := by
  cases x with
  | non => cases ru; cases rv; exact SeqAt.EqAt.same _
  | bl b => cases ru; cases rv; exact SeqAt.EqAt.same _
  | int i =>
    obtain ⟨t, rfl⟩ := ru
    obtain ⟨t', rfl⟩ := rv
    have := SeqAt.EqAt.int_int (A := A) (s := s) i t i t'
    rw [show (i == i) = true by simp] at this
    exact this
  | str z =>
    obtain ⟨t, rfl⟩ := ru
    obtain ⟨t', rfl⟩ := rv
    have := SeqAt.EqAt.str_str (A := A) (s := s) z t z t'
    rw [show (z == z) = true by simp] at this
    exact this
  | ref a => cases ru; cases rv; exact SeqAt.EqAt.same _
  | ty n => cases ru; cases rv; exact SeqAt.EqAt.same _
  | flt b => cases h
  | byt b => cases h
/-- two lists with the same items -/
def rSameL : R2 := fun x y H Q => ∃ a b xs, x = .ref a ∧ y = .ref b ∧ H a = some (.lst xs) ∧ H b = some (.lst xs) ∧ xs.all likeV = true ∧ Q (.bl true) H
theorem op_sameL (hu : X.A.units + 64 < cLine) : OpR X (compareOp .Eq) rSameL := by
  intro pins s σ H x y v u Q I rx ry h
  obtain ⟨a, b, xs, rfl, rfl, ha, hb, hl, q⟩ := h
  cases rx
  cases ry
  obtain ⟨its, r, pl, _⟩ := I.list (SqL.of ha)
  obtain ⟨its2, r2, pl2, _⟩ := I.list (SqL.of hb)
  have l1 := r.length
  have l2 := r2.length
  refine SeqAt.eq_listAt (e := fun _ => true) pl.isList pl2.isList (by simp; omega) (by omega) (fun j h1 h2 => ?_) ⟨.bl true, H, I, ?_, q⟩
  · have hj : j < xs.length := by simp at h1; omega
    obtain ⟨u1, e1, q1⟩ := r.get (i := j) (x := xs[j]) (by simp [hj])
    obtain ⟨u2, e2, q2⟩ := r2.get (i := j) (x := xs[j]) (by simp [hj])
    have f1 : its.toArray[j] = u1 := by
      have := List.getElem?_eq_getElem (l := its) (i := j) (by simpa using h1)
      rw [e1] at this
      simpa using (Option.some.inj this).symm
    have f2 : its2.toArray[j] = u2 := by
      have := List.getElem?_eq_getElem (l := its2) (i := j) (by simpa using h2)
      rw [e2] at this
      simpa using (Option.some.inj this).symm
    rw [f1, f2]
    exact like_eq q1 q2 (List.all_eq_true.mp hl _ (List.getElem_mem hj))
  · show Value.bool _ = Value.bool true
    congr 1
    simp
def rEqV (neg : Bool) : R2 := fun x y H Q => match scal x y with
  | true => Q (.bl (neg ^^ decide (x = y))) H
  | false => ∃ d e, Is H d x ∧ Is H e y ∧ SeqAt.shaped d = true ∧ SeqAt.shaped e = true ∧ Q (.bl (neg ^^ PyData.eqv d e)) H
/-- == of anything, or of two lists with the same items -/
def rEqW : R2 := fun x y H Q => rEqV false x y H Q ∨ rSameL x y H Q
theorem op_eqV (hu : X.A.units + 64 < cLine) : OpR X (compareOp .Eq) (rEqV false) := by
  intro pins s σ H x y v u Q I rx ry h
  unfold rEqV at h
  by_cases hs : scal x y = true
  · rw [hs] at h
    simp only [Bool.false_xor] at h
    exact op_eq pins s σ H x y v u Q I rx ry ⟨hs, h⟩
  · rw [show scal x y = false by simpa using hs] at h
    obtain ⟨d, e, h1, h2, h3, h4, q⟩ := h
    rw [Bool.false_xor] at q
    obtain ⟨as, r1⟩ := Is.reads I d x v h1 rx
    obtain ⟨bs, r2⟩ := Is.reads I e y u h2 ry
    exact eq_dataH r1 r2 h3 h4 hu ⟨.bl _, H, I, rfl, q⟩
theorem op_neV (hu : X.A.units + 64 < cLine) : OpR X (compareOp .NotEq) (rEqV true) := by
  intro pins s σ H x y v u Q I rx ry h
  unfold rEqV at h
  by_cases hs : scal x y = true
  · rw [hs] at h
    simp only [Bool.true_xor] at h
    exact op_ne pins s σ H x y v u Q I rx ry ⟨hs, h⟩
  · rw [show scal x y = false by simpa using hs] at h
    obtain ⟨d, e, h1, h2, h3, h4, q⟩ := h
    rw [Bool.true_xor] at q
    obtain ⟨as, r1⟩ := Is.reads I d x v h1 rx
    obtain ⟨bs, r2⟩ := Is.reads I e y u h2 ry
    exact ne_dataH r1 r2 h3 h4 hu ⟨.bl _, H, I, rfl, q⟩
theorem op_eqW (hu : X.A.units + 64 < cLine) : OpR X (compareOp .Eq) rEqW := (op_eqV hu).or (op_sameL hu)
/-! ### is, in -/
theorem dict_eq_no_str (l : Addr) (o : Obj) (es : Array DictEntry) (ep : Nat) (hc : o.cls = .type "dict") (hd : o.data = .dict es ep) (b : Str) (u : Tok) :
    Meets (Builtin.«dict.__eq__» ⟨[.ref l, .str b u], []⟩) (fun _ R s => s.heap.get? l = some o ∧ R (.ok (.ret .notImplemented)) s) :=
  .of_wp fun prog w A R s h => by obtain ⟨hp, g, d, tk, os⟩ := s; obtain ⟨hl, h⟩ := h; obtain ⟨cls, dd, data, sl⟩ := o; simp only at hc hd; subst hc hd; have f1 := F.sub_str_dict; wp_walk using AutoSeq1.wpAny_loadPart' hl; exact ⟨_, rfl, h⟩
theorem str_eq_no_dict (b : Str) (u : Tok) (l : Addr) (o : Obj) (es : Array DictEntry) (ep : Nat) (hc : o.cls = .type "dict") (hd : o.data = .dict es ep) :
    Meets (Builtin.«str.__eq__» ⟨[.str b u, .ref l], []⟩) (fun _ R s => s.heap.get? l = some o ∧ R (.ok (.ret .notImplemented)) s) :=
  .of_wp fun prog w A R s h => by obtain ⟨hp, g, d, tk, os⟩ := s; obtain ⟨hl, h⟩ := h; obtain ⟨cls, dd, data, sl⟩ := o; simp only at hc hd; subst hc hd; wp_walk using AutoSeq1.wpAny_loadPart' hl, wpAny_load hl; exact ⟨_, rfl, h⟩
theorem eqAt_str_dict {A : Around} {s : Shared} {l : Addr} {o : Obj} {es : Array DictEntry} {ep : Nat} (b : Str) (u : Tok) (ho : s.heap.get? l = some o) (hc : o.cls = .type "dict") (hd : o.data = .dict es ep) (hu : A.units < cLine) : SeqAt.EqAt A s (.str b u) (.ref l) false := fun prog w E Q h => by
  have rc : SeqAt.RcAt A s (.str b u) (.ref l) false := fun prog w E Q h =>
    SeqAt.rc_eq_decline_or (k := false) (typeIs_str s b u) ⟨_, ho, hc⟩ (by decide) F.sub_dict_str F.slot_str_eq F.slot_dict_eq_refl
      (fun _ hq => call_meets F.slot_str_eq (typeIs_str s b u) F.entry_str_eq (F.args_str_eq_2 _ _) (str_eq_no_dict b u l o es ep hc hd) ⟨ho, hq⟩)
      (fun _ hq => call_meets F.slot_dict_eq_refl ⟨_, ho, hc⟩ F.entry_dict_eq (F.args_dict_eq_2 _ _) (dict_eq_no_str l o es ep hc hd b u) ⟨ho, hq⟩)
      (fun _ hq => wpAny_of_eq (rfl : isSame (.str b u) (.ref l) = pure false) hq) (.inr hu) h
  unfold eqBool
  refine wpAny_holding ?_
  refine wpAny_ite_split (fun hab => absurd (eq_of_beq hab) nofun) (fun _ => ?_)
  exact wpAny_bind (rc prog w E _ (wpAny_truthy_bool h))
/-- a list, a tuple or a dict -/
def Cont (K : PySem.W.Frag) (H : Hp) (a : Addr) : Prop := (∃ xs, SqL K H a xs) ∨ (∃ xs, SqT K H a xs) ∨ ∃ kvs, H a = some (.dK kvs)
theorem str_no_cont {pins : List (Addr × Obj)} {σ : St} {H : Hp} {s : Shared} {a : Addr} (I : Inv X pins σ H s) (hc : Cont X.K H a) (hu : X.A.units + 64 < cLine) : ∀ {ts : List Str} {us : List Value}, Vals (ts.map V.str) us → ∀ u ∈ us, SeqAt.EqAt X.A.in1 s u (.ref a) false
  | [], _, .nil => fun u hu => by cases hu
  | t :: ts, u :: us, .cons r rs => fun u' hu' => by
    rcases List.mem_cons.mp hu' with rfl | hu'
    · obtain ⟨k, rfl⟩ := (show ∃ k, _ = Value.str t k from r)
      have hu1 : X.A.in1.units < cLine := by show X.A.units + 1 < cLine; omega
      rcases hc with ⟨xs, hc⟩ | ⟨xs, hc⟩ | ⟨kvs, hc⟩
      · obtain ⟨its, _, pl, _⟩ := I.list hc
        exact SeqAt.EqAt.str_list t k pl.isList hu1
      · obtain ⟨its, _, pl, _⟩ := I.tuple hc
        exact SeqAt.EqAt.str_tuple t k pl hu1
      · obtain ⟨_, _, vs, _, o, es, ep, ho, hx, hd, _⟩ := (show ObjOk X.prog X.w H s.heap a (.dK kvs) from I.hok a _ hc)
        exact eqAt_str_dict t k ho hx.1 hd hu1
    · exact str_no_cont I hc hu rs u' hu'
def rInV (K : PySem.W.Frag) (neg : Bool) : R2 := fun x y H Q => match y with
  | .str j => ∃ i, x = .str i ∧ Q (.bl (if neg then !(!(Builtin.Str.occurrences j i 0 j.length 1).isEmpty) else !(Builtin.Str.occurrences j i 0 j.length 1).isEmpty)) H
  | .ref p => match x with
    | .ref a => ∃ ts : List Str, (SqL K H p (ts.map V.str) ∨ SqT K H p (ts.map V.str)) ∧ Cont K H a ∧ Q (.bl neg) H
    | x => rIn K neg x (.ref p) H Q
  | _ => False
theorem op_inV (hu : X.A.units + 64 < cLine) : OpR X (compareOp .In) (rInV X.K false) := by
  intro pins s σ H x y v u Q I rx ry h
  cases y with
  | str j =>
    obtain ⟨i, e, q⟩ := h
    exact op_in_str pins s σ H x _ v u Q I rx ry ⟨i, j, e, rfl, q⟩
  | ref p =>
    cases x with
    | ref a =>
      obtain ⟨ts, hq, hc, q⟩ := h
      cases rx
      cases ry
      rcases hq with hq | hq
      · obtain ⟨its, r, pl, hz⟩ := I.list hq
        refine SeqAt.in_listAt (fun _ => false) pl.isList (fun w hw => str_no_cont I hc hu r w (by simpa using hw)) ⟨.bl _, H, I, rfl, ?_⟩
        rw [show (its.toArray.any fun _ => false) = false by simp]; exact q
      · obtain ⟨its, r, pl, hz⟩ := I.tuple hq
        refine SeqAt.in_tupleAt (fun _ => false) pl (fun w hw => str_no_cont I hc hu r w (by simpa using hw)) ⟨.bl _, H, I, rfl, ?_⟩
        rw [show (its.toArray.any fun _ => false) = false by simp]; exact q
    | _ => exact op_in_seq pins s σ H _ _ v u Q I rx ry h
  | _ => exact False.elim h
theorem op_notInV (hu : X.A.units + 64 < cLine) : OpR X (compareOp .NotIn) (rInV X.K true) := by
  intro pins s σ H x y v u Q I rx ry h
  cases y with
  | str j =>
    obtain ⟨i, e, q⟩ := h
    exact op_notin_str pins s σ H x _ v u Q I rx ry ⟨i, j, e, rfl, q⟩
  | ref p =>
    cases x with
    | ref a =>
      obtain ⟨ts, hq, hc, q⟩ := h
      cases rx
      cases ry
      rcases hq with hq | hq
      · obtain ⟨its, r, pl, hz⟩ := I.list hq
        refine SeqAt.notIn_listAt (fun _ => false) pl.isList (fun w hw => str_no_cont I hc hu r w (by simpa using hw)) ⟨.bl _, H, I, rfl, ?_⟩
        rw [show (its.toArray.any fun _ => false) = false by simp]; exact q
      · obtain ⟨its, r, pl, hz⟩ := I.tuple hq
        refine SeqAt.notIn_tupleAt (fun _ => false) pl (fun w hw => str_no_cont I hc hu r w (by simpa using hw)) ⟨.bl _, H, I, rfl, ?_⟩
        rw [show (its.toArray.any fun _ => false) = false by simp]; exact q
    | _ => exact op_notIn_seq pins s σ H _ _ v u Q I rx ry h
  | _ => exact False.elim h
theorem is_bool_gen {M : Model} {A : Around} {E : Value → Shared → Prop} {s : Shared} {Q : Value → Shared → Prop} {v : Value} {d : Bool} (hv : ∀ id, v ≠ .builtin id) (h : Q (.bool (v == .bool d)) s) : wpAny M A (compareOp .Is v (.bool d)) Q E s := by
  cases v <;> first | exact wpAny_pure h | exact absurd rfl (hv _)
theorem isnot_bool_gen {M : Model} {A : Around} {E : Value → Shared → Prop} {s : Shared} {Q : Value → Shared → Prop} {v : Value} {d : Bool} (hv : ∀ id, v ≠ .builtin id) (h : Q (.bool (!(v == .bool d))) s) : wpAny M A (compareOp .IsNot v (.bool d)) Q E s := by
  cases v <;> first | exact wpAny_pure h | exact absurd rfl (hv _)
def rIsV : R2 := fun x y H Q => match y with
  | .bl b => Q (.bl (decide (x = .bl b))) H
  | _ => y = .non ∧ Q (.bl (decide (x = .non))) H
def rIsNotV : R2 := fun x y H Q => match y with
  | .bl b => Q (.bl (!decide (x = .bl b))) H
  | _ => y = .non ∧ Q (.bl (!decide (x = .non))) H
theorem op_isV : OpR X (compareOp .Is) rIsV := by
  intro pins s σ H x y v u Q I rx ry h
  cases y with
  | bl b =>
    cases ry
    have nb : ∀ id, v ≠ .builtin id := fun id z => by
      subst z
      cases x <;> first
        | (obtain ⟨t, e⟩ := rx; cases e; done)
        | (cases rx; done)
    refine is_bool_gen nb (fin_bl I (show Q (.bl (decide (x = .bl b))) H from h) ?_)
    cases x <;> first
      | (cases rx; rfl)
      | (obtain ⟨t, rfl⟩ := rx; rfl)
      | (cases rx; rename_i a; cases a <;> cases b <;> rfl)
  | _ => exact op_isN pins s σ H x _ v u Q I rx ry h
theorem op_isNotV : OpR X (compareOp .IsNot) rIsNotV := by
  intro pins s σ H x y v u Q I rx ry h
  cases y with
  | bl b =>
    cases ry
    have nb : ∀ id, v ≠ .builtin id := fun id z => by
      subst z
      cases x <;> first
        | (obtain ⟨t, e⟩ := rx; cases e; done)
        | (cases rx; done)
    refine isnot_bool_gen nb (fin_bl I (show Q (.bl (!decide (x = .bl b))) H from h) ?_)
    cases x <;> first
      | (cases rx; rfl)
      | (obtain ⟨t, rfl⟩ := rx; rfl)
      | (cases rx; rename_i a; cases a <;> cases b <;> rfl)
  | _ => exact op_notN pins s σ H x _ v u Q I rx ry h
/-! ### all comparisons -/
def rCmp (K : PySem.W.Frag) : CmpOp → R2
  | .Eq => rEqV false
  | .NotEq => rEqV true
  | .Lt => rI2 (fun _ _ => True) fun i j => .bl (decide (i < j))
  | .LtE => rI2 (fun _ _ => True) fun i j => .bl (decide (i ≤ j))
  | .Gt => rI2 (fun _ _ => True) fun i j => .bl (decide (j < i))
  | .GtE => rI2 (fun _ _ => True) fun i j => .bl (decide (j ≤ i))
  | .In => rInV K false
  | .NotIn => rInV K true
  | .Is => rIsV
  | .IsNot => rIsNotV
theorem op_cmp (hu : X.A.units + 64 < cLine) (op : CmpOp) : OpR X (compareOp op) (rCmp X.K op) := by
  cases op with
  | Eq => exact op_eqV hu
  | NotEq => exact op_neV hu
  | Lt => exact OpR.imp op_lt rI2_imp0
  | LtE => exact OpR.imp op_le rI2_imp0
  | Gt => exact OpR.imp op_gt rI2_imp0
  | GtE => exact OpR.imp op_ge rI2_imp0
  | In => exact op_inV hu
  | NotIn => exact op_notInV hu
  | Is => exact op_isV
  | IsNot => exact op_isNotV
/-! ### isinstance(x, T), T one of Python's own -/
inductive Ty where | int | str | bool | list | tuple | dict
  deriving DecidableEq
def Ty.nm : Ty → String
  | .int => "int" | .str => "str" | .bool => "bool" | .list => "list" | .tuple => "tuple" | .dict => "dict"
def isiV (T : Ty) (x : V) (H : Hp) (Q : Bool → Prop) : Prop := match x with
  | .non => Q false
  | .bl _ => Q (T == .bool || T == .int)
  | .int _ => Q (T == .int)
  | .str _ => Q (T == .str)
  | .ref a => match H a with
    | some (.lst _) => Q (T == .list)
    | some (.frz _ (.lst _)) => Q (T == .list)
    | some (.tup _) => Q (T == .tuple)
    | some (.dK _) => Q (T == .dict)
    | some (.dT _) => Q (T == .dict)
    | _ => False
  | _ => False
theorem kit_tys (K : PySem.W.Frag) (S T : Ty) : PySem.W.kitOne K (.type S.nm) (.type T.nm) = some (S == T || (S == .bool && T == .int)) := by
  cases S <;> cases T <;> rfl
theorem kit_none (K : PySem.W.Frag) (T : Ty) : PySem.W.kitOne K (.type "NoneType") (.type T.nm) = some false := by
  cases T <;> rfl
/-! ### sum of ints -/
theorem call_sumI (hc : X.calm = true) : CallR X (.builtin "sum") (fun xs H Q => ∃ (p : Addr) (ns : List Int), xs = [.ref p] ∧ SqL X.K H p (ns.map V.int) ∧ Q (.int ns.sum) H) := by
  intro pins s σ H xs us Q I r h
  obtain ⟨p, ns, rfl, hq, q⟩ := h
  obtain ⟨u, rfl, ru⟩ := vals1 r
  cases ru
  obtain ⟨its, rv, pl, hz⟩ := I.list hq
  have hi := intsAre_of rv
  obtain ⟨xs, hx⟩ := hi.allInts.items
  have hl' : s.heap.IsList p (intItems xs) := hx ▸ pl.isList
  refine sum_intListG (I.ok.hd hc) hl' fun h' tk t' hk => ?_
  have e1 : ns = xs.toList.map (·.1) := by
    rw [← nums_intItems, ← hx]
    exact (show numsOf its.toArray.toList = ns from hi.numsOf).symm
  have e2 : preSum (numAt xs) xs.size = ns.sum := by
    rw [preSum_eq, List.take_of_length_le (by simp), e1]
  rw [e2]
  exact ⟨.int ns.sum, H, I.kept (t' := tk) hk, ⟨t', rfl⟩, q⟩
/-! ### texts -/
theorem strs_of : ∀ {ts : List Str} {us : List Value}, Vals (ts.map V.str) us → ∃ l : List (Str × Tok), us = strValues l ∧ l.map (·.1) = ts
  | [], _, .nil => ⟨[], rfl, rfl⟩
  | x :: ts, _, .cons ⟨t, e⟩ r => by
    obtain ⟨l, e1, e2⟩ := strs_of r
    subst e e1
    exact ⟨(x, t) :: l, rfl, by simp [e2]⟩
def rJoin (K : PySem.W.Frag) : V → List V → Hp → VK → Prop := fun x vs H Q => ∃ (sep : Str) (p : Addr) (ts : List Str), x = .str sep ∧ vs = [.ref p] ∧ SqL K H p (ts.map V.str) ∧ JoinOk sep ts = true ∧ Q (.str (Txt.join sep ts)) H
theorem mt_join : MtR X "str.join" (rJoin X.K) := by
  intro pins s σ H x vs v us Q I rx rv h
  obtain ⟨sep, p, ts, rfl, rfl, hq, hj, q⟩ := h
  obtain ⟨t, rfl⟩ := rx
  obtain ⟨u, rfl, ru⟩ := vals1 rv
  cases ru
  obtain ⟨its, rv, pl, hz⟩ := I.list hq
  obtain ⟨l, rfl, e2⟩ := strs_of rv
  exact SC.join pl.isList e2 hj fun t' k => ⟨.str _, H, I.tok k, ⟨t', rfl⟩, q⟩
def rLstrip : V → List V → Hp → VK → Prop := fun x vs H Q => ∃ z y, x = .str z ∧ vs = [.str y] ∧ z.length ≤ sizeLine ∧ Q (.str (Txt.lstripChars z y)) H
theorem mt_lstrip : MtR X "str.lstrip" rLstrip := by
  intro pins s σ H x vs v us Q I rx rv h
  obtain ⟨z, y, rfl, rfl, hz, q⟩ := h
  obtain ⟨t, rfl⟩ := rx
  obtain ⟨u, rfl, ⟨t2, rfl⟩⟩ := vals1 rv
  refine call_gives F.slot_str_lstrip (typeIs_str _ _ _) F.entry_str_lstrip (F.args_str_lstrip_2 _ _) (gives_str_lstrip_chars z y t t2) (post_val_or_made (fun _ => fits_stripped _ _ _ hz) fun t' k => ?_)
  exact ⟨.str _, H, I.tok k, ⟨t', rfl⟩, q⟩
def rStarts : V → List V → Hp → VK → Prop := fun x vs H Q => ∃ z y i, x = .str z ∧ vs = [.str y, .int i] ∧ Q (.bl (decide (fromIndex z.length i + y.length ≤ z.length) && Builtin.Str.subAt z y (fromIndex z.length i))) H
theorem mt_starts : MtR X "str.startswith" rStarts := by
  intro pins s σ H x vs v us Q I rx rv h
  obtain ⟨z, y, i, rfl, rfl, q⟩ := h
  obtain ⟨t, rfl⟩ := rx
  obtain ⟨u, w, rfl, ⟨t2, rfl⟩, ⟨t3, rfl⟩⟩ := vals2 rv
  exact call_gives F.slot_str_startswith (typeIs_str _ _ _) F.entry_str_startswith (F.args_str_startswith_3 _ _ _) (gives_str_startswith_from z y i t t2 t3) ⟨.bl _, H, I, rfl, q⟩
/-! ### z[lo:hi] -/
def cutL {α : Type} (xs : List α) (lo hi : Option Int) : List α := (xs.drop (HT.sIx xs.length 0 lo)).take (HT.sIx xs.length xs.length hi - HT.sIx xs.length 0 lo)
def cutS (z : Str) (lo hi : Option Int) : Str := ⟨(cutL z.cps.toList lo hi).toArray⟩
theorem picked_cut (z : Str) (lo hi : Option Int) : ((Builtin.Str.strSliceIndices lo hi 1 z.length).filterMap (z.cps[·]?)) = cutL z.cps.toList lo hi := by
  obtain ⟨h1, h2, h3⟩ := slice_bounds lo hi z.length
  have e0 : Builtin.Str.strSliceIndices lo hi 1 z.length = sliceRange (sliceBounds lo hi none z.length).1 (sliceBounds lo hi none z.length).2.1 (sliceBounds lo hi none z.length).2.2 := rfl
  have hz : z.cps.toList.length = z.length := by simp [Str.length]
  rw [e0, h1, h2, h3, sliceRange_one, pick_run]
  unfold cutL
  rw [hz]
end
end L2
set_option maxRecDepth 100000
set_option maxHeartbeats 4000000
namespace L2
open PySem PySem.Spec PyProof.Rows
/-! ### exceptions: what a reading says of them -/
/-- a caught exception stays as it is -/
def excU : HO := .ext fun _ => True
structure ExcObj (ob : Obj) (cls : Value) (vs : Array Value) : Prop where
  cls : ob.cls = cls
  data : ob.data = .fields vs
  noCx : vs[2]? = some .none
  dict : ob.dict = none
/-- the exception at ea, of the class at D -/
def ExcAt (H : Hp) (ea D : Addr) : Prop := ∃ ob vs, H ea = some (.frz ob excU) ∧ ExcObj ob (.ref D) vs
/-- a class of exceptions -/
structure ExcCls (K : PySem.W.Frag) (D : Addr) : Prop where
  hga : PySem.W.findIn K (.ref D) "__getattribute__" = some (some (.builtin "BaseException.__getattribute__"))
  hgn : PySem.W.findIn K (.ref D) "__getattr__" = some none
  hk : (PySem.W.clsIn K D).isSome = true
  ha : PySem.W.findIn K (.ref D) "__class__" = some (some (.builtin "object.__class__"))
  hn : PySem.W.specialIn K (.builtin "object.__class__") "__get__" = some (some (.builtin "getset_descriptor.__get__"))
  htk : PySem.W.takesIn K (.builtin "object.__class__") = some true
  hm : PySem.W.mroIn K D (.type "object") = some true
  hb : PySem.W.mroIn K D (.type "BaseException") = some true
def cV : V → Value
  | .ref a => .ref a
  | .ty n => .type n
  | _ => .none
def rIsx (K : PySem.W.Frag) : List V → Hp → VK → Prop
  | [.ref ea, c], H, Q => ∃ D b, ExcAt H ea D ∧ ExcCls K D ∧ ((∃ C, c = .ref C) ∨ ∃ n, c = .ty n) ∧ PySem.W.kitOne K (.ref D) (cV c) = some b ∧ Q (.bl b) H
  | _, _, _ => False
/-- f(e), f a def that an except suite calls -/
def tWrd (sp : Sp) (hv : Option Addr) (t : TA) : TE := fun σ H Q => t σ H fun vs H1 => (∃ ea D, hv = some ea ∧ ExcAt H1 ea D) ∧ sp vs H1 Q E0
def sRaise (C : Addr) (E : XK) (t : TA) : TS := fun _ σ H => t σ H fun vs H1 => vs.length ≤ sizeLine ∧ E (.ref C) none H1
/-- try: ..; except C as n: .. (which returns) -/
def eTry (K : PySem.W.Frag) (C : Addr) (i n : Nat) (th : Addr → TS) (D : Ends) : XK := fun cls _ H' => PySem.W.exmOne K cls (.ref C) = some true ∧
  ∀ (ea : Addr) (ob : Obj) (vs : Array Value) (σ' : St), H' ea = none → σ'.length = n → ExcObj ob cls vs → th ea { nx := fun _ _ => False, rt := D.rt } (σ'.set i (some (.ref ea))) (upd H' ea (.frz ob excU))
def sTry (K : PySem.W.Frag) (C : Addr) (i n : Nat) (tb : XK → TS) (th : Addr → TS) : TS := fun D σ H => tb (eTry K C i n th D) { nx := D.nx, rt := D.rt } σ H
/-! ### a short language for the program's own rows, and how it is read -/
inductive Blt where | len | min | max | sum | int | list | tuple | abs
  deriving DecidableEq
inductive Mth where | append | pop | extend | join | lstrip | starts | reverse | clear | index | find | count | cntL | idxL
  deriving DecidableEq
inductive IK where | list | tup | rng | rng2 | zip | enm
  deriving DecidableEq
inductive RE where
  | v (i : Nat) | c (x : V) | g (j : Nat)
  | bin (op : Operator) (a b : RE) | neg (a : RE)
  | cmp (op : CmpOp) (a b : RE) | cmp2 (op op' : CmpOp) (a b d : RE) | cmp3 (op op' op2 : CmpOp) (a b d f : RE)
  | and (as : List RE) | or (as : List RE) | not (a : RE) | ife (t a b : RE)
  | call (j : Nat) (as : List RE) | blt (b : Blt) (as : List RE) | isi (T : Ty) (a : RE)
  | mth (m : Mth) (o : RE) (as : List RE)
  | ix (a b : RE) | sl (a : RE) (lo hi : Option RE)
  | tup (as : List RE) | lst (as : List RE)
  | comp (tk : Option Nat) (fv : List (Str × Nat)) (k : IK) (its : List RE) (cond : Option RE) (elt : RE)
  | isx (a c : RE) | wrd (j : Nat) (a : RE) | dct | same (a b : RE)
  | fld (o : RE) (f : Str) | meth (j : Nat) (m : Str) (o : RE) (as : List RE) | make (j : Nat) (as : List RE)
inductive RS where
  | asg (i : Nat) (e : RE) | asgC (i : Nat) (e : RE) | set (o ix e : RE)
  | drop (e : RE) | ret (e : RE) | retN
  | ite (c : RE) (t e : List RS)
  | for1 (i : Nat) (k : IK) (its : List RE) (body : List RS)
  | forT (is : List Nat) (k : IK) (its : List RE) (body : List RS)
  | whl (c : RE) (body : List RS)
  | pass | brk | cont | never
  | setSl (o lo hi e : RE) | setf (o : RE) (f : Str) (e : RE)
  | asgT (is : List Nat) (e : RE) | rais (j : Nat) (as : List RE) | tryr (n i j : Nat) (body su : List RS)
structure RCx where
  K : PySem.W.Frag
  fs : Nat → Sp
  gv : Nat → V
  E : XK
  sd : Addr → List (Key × V) → Prop
  ms : Nat → Addr × Sp
  kt : Nat → Addr × Sp
  ex : Nat → Addr
  hs : Nat → Sp
  hv : Option Addr
abbrev RCx.calm (Γ : RCx) : RCx := { Γ with E := E0 }
/-- a value's truth -/
def tru (K : PySem.W.Frag) (x : V) (H : Hp) (Q : Bool → Prop) : Prop := match x with
  | .non => Q false
  | .bl b => Q b
  | .int i => Q (i != 0)
  | .str y => y.length ≤ sizeLine ∧ Q ((y.length : Int) != 0)
  | .ref p => (∃ xs, SqL K H p xs ∧ Q (!xs.isEmpty)) ∨ (∃ xs, SqT K H p xs ∧ Q (!xs.isEmpty)) ∨ ∃ kvs, H p = some (.dK kvs) ∧ Q (!kvs.isEmpty)
  | _ => False
theorem tru_of {K : PySem.W.Frag} {x : V} {H : Hp} {Q : Bool → Prop} (h : tru K x H Q) : ∃ k, TruV K x H k ∧ Q k := by
  cases x with
  | non => exact ⟨_, rfl, h⟩
  | bl b => exact ⟨_, rfl, h⟩
  | int i => exact ⟨_, rfl, h⟩
  | str y => exact ⟨_, ⟨h.1, rfl⟩, h.2⟩
  | ref p =>
    rcases h with ⟨xs, h1, h2⟩ | ⟨xs, h1, h2⟩ | ⟨xs, h1, h2⟩
    · exact ⟨_, .inl ⟨xs, h1, rfl⟩, h2⟩
    · exact ⟨_, .inr (.inl ⟨xs, h1, rfl⟩), h2⟩
    · exact ⟨_, .inr (.inr ⟨xs, h1, rfl⟩), h2⟩
  | _ => exact False.elim h
def tTru (K : PySem.W.Frag) (t : TE) : TT := fun σ H Q => t σ H fun x H1 => tru K x H1 fun b => Q b H1
def tNotE (K : PySem.W.Frag) (t : TE) : TE := fun σ H Q => t σ H fun x H1 => tru K x H1 fun b => Q (.bl (!b)) H1
def rNeg : V → Hp → VK → Prop := fun x H Q => match x with | .int i => Q (.int (-i)) H | _ => False
def lenV (K : PySem.W.Frag) (x : V) (H : Hp) (Q : Nat → Prop) : Prop := match x with
  | .str y => y.length ≤ sizeLine ∧ Q y.length
  | .ref p => (∃ xs, SqL K H p xs ∧ Q xs.length) ∨ ∃ xs, SqT K H p xs ∧ Q xs.length
  | _ => False
/-- the signs of a text, each a text -/
def signs (x : Str) : List V := x.cps.toList.map fun c => V.str ⟨#[c]⟩
/-- {} -/
def tNewD : TE := fun _ H Q => ∀ p, H p = none → Q (.ref p) (upd H p (.dK []))
def rBlt (K : PySem.W.Frag) : Blt → List V → Hp → VK → Prop
  | .len, [x], H, Q => lenV K x H fun n => Q (.int n) H
  | .min, [.int i, .int j], H, Q => Q (.int (if j < i then j else i)) H
  | .max, [.int i, .int j], H, Q => Q (.int (if j > i then j else i)) H
  | .min, [.ref p], H, Q => ∃ ns : List Int, SqL K H p (ns.map V.int) ∧ ns ≠ [] ∧ ∀ m : Int, m ∈ ns → (∀ n ∈ ns, m ≤ n) → Q (.int m) H
  | .max, [.ref p], H, Q => ∃ ns : List Int, SqL K H p (ns.map V.int) ∧ ns ≠ [] ∧ ∀ m : Int, m ∈ ns → (∀ n ∈ ns, n ≤ m) → Q (.int m) H
  | .sum, [.ref p], H, Q => ∃ ns : List Int, SqL K H p (ns.map V.int) ∧ Q (.int ns.sum) H
  | .int, [.int i], H, Q => Q (.int i) H
  | .int, [.bl k], H, Q => Q (.int (if k then 1 else 0)) H
  | .list, [.ref p], H, Q => ∃ ys, (SqL K H p ys ∨ SqT K H p ys) ∧ ∀ l, H l = none → Q (.ref l) (upd H l (.lst ys))
  | .list, [.str x], H, Q => x.length ≤ sizeLine ∧ ∀ l, H l = none → Q (.ref l) (upd H l (.lst (signs x)))
  | .tuple, [.str x], H, Q => x.length ≤ sizeLine ∧ ∀ l, H l = none → Q (.ref l) (upd H l (.tup (signs x)))
  | .abs, [.int i], H, Q => Q (.int (if i < 0 then -i else i)) H
  | .tuple, [.ref p], H, Q => ∃ ys, (SqL K H p ys ∧ ∀ l, H l = none → Q (.ref l) (upd H l (.tup ys))) ∨ (SqT K H p ys ∧ Q (.ref p) H)
  | _, _, _, _ => False
def rIsi (T : Ty) : List V → Hp → VK → Prop
  | [x, .ty n], H, Q => n = T.nm ∧ isiV T x H fun b => Q (.bl b) H
  | _, _, _ => False
def rMth (K : PySem.W.Frag) : Mth → V → List V → Hp → VK → Prop
  | .append, .ref l, [y], H, Q => ∃ xs, H l = some (.lst xs) ∧ xs.length < sizeLine ∧ Q .non (upd H l (.lst (xs ++ [y])))
  | .pop, .ref l, [], H, Q => ∃ xs y, H l = some (.lst xs) ∧ xs[xs.length - 1]? = some y ∧ Q y (upd H l (.lst xs.dropLast))
  | .extend, .ref l, [.ref b], H, Q => ∃ xs zs, H l = some (.lst xs) ∧ H b = some (.lst zs) ∧ xs.length + zs.length ≤ sizeLine ∧ Q .non (upd H l (.lst (xs ++ zs)))
  | .join, .str sep, [.ref p], H, Q => ∃ ts : List Str, SqL K H p (ts.map V.str) ∧ JoinOk sep ts = true ∧ Q (.str (Txt.join sep ts)) H
  | .lstrip, .str z, [.str y], H, Q => z.length ≤ sizeLine ∧ Q (.str (Txt.lstripChars z y)) H
  | .starts, .str z, [.str y, .int i], H, Q => Q (.bl (decide (fromIndex z.length i + y.length ≤ z.length) && Builtin.Str.subAt z y (fromIndex z.length i))) H
  | .find, .str z, [.str y], H, Q => Q (.int (match Builtin.Str.occurrences z y 0 z.length 1 with | i :: _ => (i : Int) | [] => -1)) H
  | .find, .str z, [.str y, .int i], H, Q => Q (.int (match Builtin.Str.occurrences z y (fromIndex z.length i) z.length 1 with | k :: _ => (k : Int) | [] => -1)) H
  | .count, .str z, [.str y], H, Q => Q (.int (Builtin.Str.occurrences z y 0 z.length (z.length + 1)).length) H
  | .reverse, .ref l, [], H, Q => ∃ xs, H l = some (.lst xs) ∧ Q .non (upd H l (.lst xs.reverse))
  | .index, .ref l, [.str y], H, Q => ∃ ts : List Str, SqL K H l (ts.map V.str) ∧ y ∈ ts ∧ Q (.int (ts.idxOf y : Nat)) H
  | .clear, .ref l, [], H, Q => ∃ xs, H l = some (.lst xs) ∧ Q .non (upd H l (.lst []))
  | .cntL, .ref l, [y], H, Q => ∃ xs, SqL K H l xs ∧ flatV y = true ∧ xs.all flatV = true ∧ Q (.int (xs.countP (fun z => eqV z y) : Nat)) H
  | .idxL, .ref l, [y], H, Q => ∃ xs, SqL K H l xs ∧ flatV y = true ∧ xs.all flatV = true ∧ inV y xs = true ∧ Q (.int (xs.findIdx (fun z => eqV z y) : Nat)) H
  | _, _, _, _, _ => False
def mthTy : Mth → String
  | .join | .lstrip | .starts | .find | .count => "str"
  | _ => "list"
def tMth (K : PySem.W.Frag) (m : Mth) (to : TE) (t : TA) : TE := fun σ H Q => to σ H fun x H1 => tyV K (mthTy m) x H1 ∧ t σ H1 fun xs H2 => rMth K m x xs H2 Q
def rSl (K : PySem.W.Frag) : V → Option Int → Option Int → Hp → VK → Prop := fun x lo hi H Q => match x with
  | .str z => z.length ≤ sizeLine ∧ Q (.str (cutS z lo hi)) H
  | .ref a => (∃ xs, SqL K H a xs ∧ ∀ p, H p = none → Q (.ref p) (upd H p (.lst (cutV xs lo hi)))) ∨
    (∃ xs, SqT K H a xs ∧ ¬ (HT.sIx xs.length 0 lo = 0 ∧ HT.sIx xs.length xs.length hi = xs.length) ∧ ∀ p, H p = none → Q (.ref p) (upd H p (.tup (cutV xs lo hi))))
  | _ => False
/-- the value that a table has for a key -/
def valK (kvs : List (Key × V)) (k : Key) : Option V := (kvs.find? fun kv => decide (kv.1 = k)).map (·.2)
def rIxD (sd : Addr → List (Key × V) → Prop) : R2 := fun x y H Q => ∃ p kvs k v, x = .ref p ∧ y = kV k ∧ sd p kvs ∧ valK kvs k = some v ∧ Q v H
def rIx2 (K : PySem.W.Frag) (sd : Addr → List (Key × V) → Prop) : R2 := fun x y H Q => rIxL K x y H Q ∨ rIxT K x y H Q ∨ rIxS x y H Q ∨ rIxD sd x y H Q
/-- a < b < c < d, as a test -/
def tChain3 (r r' r2 : R2) (ta tb tc td : TE) : TT := fun σ H Q => ta σ H fun x H1 => tb σ H1 fun y H2 => r x y H2 fun z H3 => ∃ k, z = .bl k ∧
  (if k = true then tc σ H3 fun w H4 => r' y w H4 fun z2 H5 => ∃ k2, z2 = .bl k2 ∧ (if k2 = true then td σ H5 fun u H6 => r2 w u H6 fun z3 H7 => ∃ k3, z3 = .bl k3 ∧ Q k3 H7 else Q false H5) else Q false H3)
/-- two lists side by side -/
def Itz (K : PySem.W.Frag) (a b : Addr) : It :=
  ⟨fun i H => ∃ xs ys, SqL K H a xs ∧ SqL K H b ys ∧ i < xs.length ∧ i < ys.length,
   fun i H x H' => ∃ T, H T = none ∧ x = .ref T ∧ ∀ xs ys u v, SqL K H a xs → SqL K H b ys → xs[i]? = some u → ys[i]? = some v → H' = upd H T (.tup [u, v]),
   fun i H => ∃ xs ys, SqL K H a xs ∧ SqL K H b ys ∧ i = min xs.length ys.length⟩
/-- a list's items, each with its number -/
def Itn (K : PySem.W.Frag) (a : Addr) : It :=
  ⟨fun i H => ∃ xs, SqL K H a xs ∧ i < xs.length,
   fun i H x H' => ∃ T, H T = none ∧ x = .ref T ∧ ∀ xs u, SqL K H a xs → xs[i]? = some u → H' = upd H T (.tup [.int (i : Nat), u]),
   fun i H => ∃ xs, SqL K H a xs ∧ i = xs.length⟩
def iEnm (K : PySem.W.Frag) (ta : TA) : TI := fun σ H R => ta σ H fun vs H1 => ∃ a, vs = [.ref a] ∧ (∃ xs, SqL K H1 a xs) ∧ R (Itn K a) H1
def iZip (K : PySem.W.Frag) (ta : TA) : TI := fun σ H R => ta σ H fun vs H1 => ∃ a b, vs = [.ref a, .ref b] ∧ (∃ xs, SqL K H1 a xs) ∧ (∃ ys, SqL K H1 b ys) ∧ R (Itz K a b) H1
mutual
def rdE (Γ : RCx) : RE → TE
  | .v i => tVar i
  | .c x => tC x
  | .g j => tC (Γ.gv j)
  | .bin op a b => tOp (rBin Γ.K op) (rdE Γ a) (rdE Γ b)
  | .neg a => tUn rNeg (rdE Γ a)
  | .cmp op a b => tOp (rCmp Γ.K op) (rdE Γ a) (rdE Γ b)
  | .cmp2 op op' a b d => tChain (rCmp Γ.K op) (rCmp Γ.K op') (rdE Γ a) (rdE Γ b) (rdE Γ d)
  | .cmp3 _ _ _ _ _ _ _ => fun _ _ _ => False
  | .and as => rdAnd Γ as
  | .or as => rdOr Γ as
  | .not a => tNotE Γ.K (rdE Γ a)
  | .ife t a b => tIf (rdT Γ t) (rdE Γ a) (rdE Γ b)
  | .call j as => tCall (Γ.fs j) [] Γ.E (rdA Γ as)
  | .blt b as => tCB (rBlt Γ.K b) (rdA Γ as)
  | .isi T a => tCB (rIsi T) (tCons (rdE Γ a) (tCons (tC (.ty T.nm)) tNil))
  | .mth m o as => tMth Γ.K m (rdE Γ o) (rdA Γ as)
  | .ix a b => tOp (rIx2 Γ.K Γ.sd) (rdE Γ a) (rdE Γ b)
  | .sl a lo hi => tSl (rSl Γ.K) (rdE Γ a) (rdO Γ lo) (rdO Γ hi)
  | .tup as => tTup (rdA Γ as)
  | .lst as => tLst (rdA Γ as)
  | .comp tk fv k its cond elt => tComp Γ.K (rdI Γ k its) tk fv (rdC Γ.calm cond) (rdE Γ.calm elt)
  | .isx a c => tCB (rIsx Γ.K) (tCons (rdE Γ a) (tCons (rdE Γ c) tNil))
  | .dct => tNewD
  | .same a b => tOp rEqW (rdE Γ a) (rdE Γ b)
  | .wrd j a => tWrd (Γ.hs j) Γ.hv (tCons (rdE Γ a) tNil)
  | .fld o f => tFld Γ.K (rdE Γ o) f
  | .meth j m o as => tMeth (Γ.ms j).1 m (Γ.ms j).2 [] Γ.E (rdE Γ o) (rdA Γ as)
  | .make j as => tMake (Γ.kt j).1 (Γ.kt j).2 [] Γ.E (rdA Γ as)
def rdT (Γ : RCx) : RE → TT
  | .not a => tNot (rdT Γ a)
  | .and as => rdTAnd Γ as
  | .or as => rdTOr Γ as
  | .cmp op a b => tTest (tOp (rCmp Γ.K op) (rdE Γ a) (rdE Γ b))
  | .cmp2 op op' a b d => tTest (tChain (rCmp Γ.K op) (rCmp Γ.K op') (rdE Γ a) (rdE Γ b) (rdE Γ d))
  | .cmp3 op op' op2 a b d f => tChain3 (rCmp Γ.K op) (rCmp Γ.K op') (rCmp Γ.K op2) (rdE Γ a) (rdE Γ b) (rdE Γ d) (rdE Γ f)
  | .v i => tTru Γ.K (tVar i)
  | .call j as => tTru Γ.K (tCall (Γ.fs j) [] Γ.E (rdA Γ as))
  | .isi T a => tTru Γ.K (tCB (rIsi T) (tCons (rdE Γ a) (tCons (tC (.ty T.nm)) tNil)))
  | .isx a c => tTru Γ.K (tCB (rIsx Γ.K) (tCons (rdE Γ a) (tCons (rdE Γ c) tNil)))
  | .mth m o as => tTru Γ.K (tMth Γ.K m (rdE Γ o) (rdA Γ as))
  | .ix a b => tTru Γ.K (tOp (rIx2 Γ.K Γ.sd) (rdE Γ a) (rdE Γ b))
  | .bin op a b => tTru Γ.K (tOp (rBin Γ.K op) (rdE Γ a) (rdE Γ b))
  | .fld o f => tTru Γ.K (tFld Γ.K (rdE Γ o) f)
  | .meth j m o as => tTru Γ.K (tMeth (Γ.ms j).1 m (Γ.ms j).2 [] Γ.E (rdE Γ o) (rdA Γ as))
  | _ => fun _ _ _ => False
def rdA (Γ : RCx) : List RE → TA
  | [] => tNil
  | a :: r => tCons (rdE Γ a) (rdA Γ r)
def rdAnd (Γ : RCx) : List RE → TE
  | [] => fun _ _ _ => False
  | [a] => rdE Γ a
  | a :: r => tAndV (rdE Γ a) (rdAnd Γ r)
def rdOr (Γ : RCx) : List RE → TE
  | [] => fun _ _ _ => False
  | [a] => rdE Γ a
  | a :: r => tOrV (rdE Γ a) (rdOr Γ r)
def rdTAnd (Γ : RCx) : List RE → TT
  | [] => fun _ _ _ => False
  | [a] => rdT Γ a
  | a :: r => tAnd (rdT Γ a) (rdTAnd Γ r)
def rdTOr (Γ : RCx) : List RE → TT
  | [] => fun _ _ _ => False
  | [a] => rdT Γ a
  | a :: r => tOr (rdT Γ a) (rdTOr Γ r)
def rdO (Γ : RCx) : Option RE → TO
  | none => tNoPart
  | some a => tPart (rdE Γ a)
def rdC (Γ : RCx) : Option RE → Option TT
  | none => none
  | some a => some (rdT Γ a)
def rdI (Γ : RCx) (k : IK) : List RE → TI
  | [] => fun _ _ _ => False
  | a :: r => match k with
    | .list => iList Γ.K (rdE Γ a)
    | .tup => iTup Γ.K (rdE Γ a)
    | .rng => iRng1 (tCons (rdE Γ a) (rdA Γ r))
    | .rng2 => iRng2 (tCons (rdE Γ a) (rdA Γ r))
    | .zip => iZip Γ.K (tCons (rdE Γ a) (rdA Γ r))
    | .enm => iEnm Γ.K (tCons (rdE Γ a) (rdA Γ r))
end
end L2
set_option maxRecDepth 100000
set_option maxHeartbeats 4000000
namespace L2
open PySem PySem.Spec PyProof.Rows
/-! ### is this the reading of that row? -/
structure SCx where
  N : List Str
  sc : Scope
  fn : List Str
  gn : List Str
  bl : List Str
  mn : List Str
  kn : List Str
  en : List Str
  hn : List Str
  md : Nat
def vis (sc : Scope) (x : Str) : Bool := match sc.names.lookup x with
  | some .local => true | some .cell => true | some .free => true | _ => false
def loc (sc : Scope) (x : Str) : Bool := match sc.names.lookup x with
  | some .local => true | some .cell => true | _ => false
def glo (sc : Scope) (x : Str) : Bool := match sc.names.lookup x with
  | some .globalImplicit => true | _ => false
theorem vis_of {sc : Scope} {x : Str} (h : vis sc x = true) : Vis sc x := by
  unfold vis at h
  unfold Vis
  cases e : sc.names.lookup x with
  | none => rw [e] at h; cases h
  | some k => rw [e] at h; cases k <;> first | exact .inl rfl | exact .inr (.inl rfl) | exact .inr (.inr rfl) | cases h
theorem loc_of {sc : Scope} {x : Str} (h : loc sc x = true) : Loc sc x := by
  unfold loc at h
  unfold Loc
  cases e : sc.names.lookup x with
  | none => rw [e] at h; cases h
  | some k => rw [e] at h; cases k <;> first | exact .inl rfl | exact .inr rfl | cases h
theorem glo_of {sc : Scope} {x : Str} (h : glo sc x = true) : sc.names.lookup x = some .globalImplicit := by
  unfold glo at h
  cases e : sc.names.lookup x with
  | none => rw [e] at h; cases h
  | some k => rw [e] at h; cases k <;> first | rfl | cases h
structure CompP where
  elt : Expr
  tg : Expr
  iter : Expr
  ifs : List Expr
  sc : Scope
def Blt.nm : Blt → Str
  | .len => "len" | .min => "min" | .max => "max" | .sum => "sum" | .int => "int" | .list => "list" | .tuple => "tuple" | .abs => "abs"
def Mth.nm : Mth → Str
  | .append => "append" | .pop => "pop" | .extend => "extend" | .join => "join" | .lstrip => "lstrip" | .starts => "startswith" | .reverse => "reverse" | .clear => "clear" | .index => "index" | .find => "find" | .count => "count" | .cntL => "count" | .idxL => "index"
def noSuper : Expr → Bool
  | .Call (.Name _ _) [] [] _ => false
  | _ => true
def noStar : Expr → Bool
  | .Starred .. => false
  | _ => true
def noSet : Expr → Bool
  | .Set .. => false
  | _ => true
def relabelS (sc' sc : Scope) : Scope :=
  { sc' with names := sc'.names.map fun (n, k) => if (k == .free && sc.kind == .function && sc.names.lookup n == some .cell) then (n, .cell) else (n, k) }
/-- the names of a block's target -/
def tgNames (tk : Option Nat) (tg : Expr) : Option (List Str) := match tk, tg with
  | none, .Name x _ => some [x]
  | some 2, .Tuple [.Name x _, .Name y _] _ _ => some [x, y]
  | _, _ => none
def compS (S : SCx) (c : CompP) (ln : List Str) (fv : List (Str × Nat)) : SCx := { S with N := ln ++ fv.map (·.1), sc := relabelS c.sc S.sc, en := [], md := if S.md = 0 then 0 else 2 }
def compB (S : SCx) (c : CompP) (ln : List Str) (fv : List (Str × Nat)) : Bool :=
  decide (c.sc.kind = .function) && c.sc.names.all (fun y => decide (y.2 ≠ .cell)) && c.sc.names.all (fun y => decide (y.2 ≠ .local) || decide (c.sc.names.lookup y.1 = some .local))
  && c.sc.names.all (fun y => decide (y.2 ≠ .free) || decide (S.sc.names.lookup y.1 = some .cell) || decide (S.sc.names.lookup y.1 = some .free))
  && fv.all (fun p => decide (S.N[p.2]? = some p.1) && decide (c.sc.names.lookup p.1 = some .free))
  && ln.all (fun x => decide (c.sc.names.lookup x = some .local)) && decide ((ln ++ fv.map (·.1)).Nodup) && noSet c.iter
end L2
set_option maxRecDepth 100000
set_option maxHeartbeats 4000000
namespace L2
open PySem PySem.Spec PyProof.Rows
/-! ### for .. in zip(xs, ys), the target a tuple -/
/-! ### for .. in enumerate(xs), the target a tuple -/
end L2
set_option maxRecDepth 100000
set_option maxHeartbeats 400000
namespace L2
open PySem PySem.Spec PyProof.Rows
/-! ### within an except suite: a new exception takes the caught one as its context -/
/-- nothing is being handled, or an exception that bears no context -/
def Hdl (A : Around) (h : Heap) : Prop := A.handled = none ∨ ∃ e o vs, A.handled = some (.ref e) ∧ h.get? e = some o ∧ o.data = .fields vs ∧ vs[2]? = some .none
theorem Hdl.keeps {A : Around} {h h' : Heap} (x : Hdl A h) (k : ∀ b o vs, h.get? b = some o → o.data = .fields vs → vs[2]? = some .none → h'.get? b = some o) : Hdl A h' := by
  rcases x with x | ⟨e, o, vs, a, b, c, d⟩
  · exact .inl x
  · exact .inr ⟨e, o, vs, a, k e o vs b c d, c, d⟩
theorem entry_unchain : entryFor table "proto.unchain" = some Builtin.«proto.unchain» := entryFor_of_fast (by kernel_rfl)
section
variable {prog : Program} {w : World} {A : Around} {E : Value → Shared → Prop} {s : Shared}
theorem wpAny_updateField {a : Addr} {o : Obj} {vs : Array Value} {i : Nat} {v : Value} {Q : Unit → Shared → Prop} (ho : s.heap.get? a = some o) (hd : o.data = .fields vs) (hi : i < vs.size) (h : Q () { s with heap := s.heap.update a (Obj.mapFields (·.setIfInBounds i v)) }) :
    wpAny (model prog w) A (updateField a i v) Q E s := by
  unfold updateField
  refine wpAny_bind (wpAny_load ho ?_)
  rw [hd]
  show wpAny _ _ (if i < vs.size then _ else _) _ _ s
  rw [if_pos hi]
  exact wpAny_update ho h
theorem wpAny_raiseNew_h {α : Type} {a : Addr} {o : Obj} {vs : Array Value} {Q : α → Shared → Prop} (hh : Hdl A s.heap) (ho : s.heap.get? a = some o) (hd : o.data = .fields vs) (h2 : 2 < vs.size) (hne : ∀ e, A.handled = some (.ref e) → e ≠ a)
    (hE : ∀ h', Heap.SameBut a s.heap h' → (∃ o', h'.get? a = some o' ∧ o'.cls = o.cls) → E (.ref a) { s with heap := h' }) : wpAny (model prog w) A (raiseNew (.ref a) : Sem α) Q E s := by
  unfold raiseNew
  refine wpAny_bind (wpAny_handled ?_)
  rcases hh with hh | ⟨e, oe, ve, hh, he, hde, hve⟩
  · rw [hh]
    exact wpAny_bind (wpAny_pure (wpAny_throw (hE s.heap (Heap.SameBut.refl ..) ⟨o, ho, rfl⟩)))
  · rw [hh]
    have ne : e ≠ a := hne e hh
    have hb : ((Value.ref e) != (Value.ref a)) = true := by
      simp only [bne_iff_ne, ne_eq, Value.ref.injEq]
      exact ne
    dsimp only
    rw [if_pos hb]
    refine wpAny_bind (wpAny_holding (wpAny_runValue (codeAny_builtin entry_unchain ?_)))
    unfold Builtin.«proto.unchain»
    dsimp only
    refine wpAny_bind (wpAny_field he hde hve ?_)
    rw [if_pos (by rfl)]
    refine wpAny_bind (wpAny_pure (wpAny_pure ?_))
    dsimp only
    refine wpAny_bind (wpAny_updateField ho hd h2 ?_)
    refine wpAny_throw (hE _ (Heap.SameBut.update ..) ⟨_, Heap.get?_update_self _ ho (Obj.isFreed_of_fields (Obj.data_mapFields hd _)), Obj.cls_mapFields ..⟩)
theorem stop_h {it : Addr} {f : Obj → Obj} {Qf : Fin → Shared → Prop} {Q : Option Value → Shared → Prop} (hh : Hdl A s.heap) (hn : ∀ vs : Array Value, ¬ ∃ o, s.heap.get? it = some o ∧ o.data = .fields vs ∧ vs[2]? = some .none)
    (hQ : ∀ h', Heap.ExtBut it s.heap h' → Q none { s with heap := h' }) :
    wpAny (model prog w) A.in1 Builtin.SmallTypes.stopIteration Qf (fun e s' => wpAny (model prog w) A (do let b ← isInstance e (.type "StopIteration"); if b = true then pure none else throw e) Q E s') { s with heap := s.heap.update it f } := by
  show wpAny _ _ (newExc (.type "StopIteration") [] >>= _) _ _ _
  refine wpAny_bind ?_
  simp only [newExc, newTuple]
  refine wpAny_bind (wpAny_newObj_type ?_ (by size_fits))
  refine wpAny_bind (m := firstArgMember _ _) (wpAny_of_eq (a := Value.none) (by first | rfl | (simp only [firstArgMember]; rfl)) ?_)
  refine wpAny_newObj_type ?_ (by size_fits)
  dsimp only
  have lt : ∀ b o, s.heap.get? b = some o → b ≠ it → (s.heap.update it f).get? b = some o := fun b o e hb => (Heap.get?_update_other _ _ (Ne.symm hb)).trans e
  have hh' : Hdl A.in1 (((s.heap.update it f).push { cls := .type "tuple", data := .seq ([] : List Value).toArray }).push
      { cls := .type "StopIteration", data := .fields (#[.ref (s.heap.update it f).objs.size, .none, .none, .none, .bool false, .none] ++ ownMembersOf (.type "StopIteration") []) }) := by
    rcases hh with hh | ⟨e, oe, ve, h1, h2, h3, h4⟩
    · exact .inl hh
    · refine .inr ⟨e, oe, ve, h1, Heap.get?_push_of_some _ (Heap.get?_push_of_some _ (lt e oe h2 fun z => ?_)), h3, h4⟩
      subst z
      exact hn ve ⟨oe, h2, h3, h4⟩
  refine wpAny_raiseNew_h hh' (Heap.get?_push_size _ rfl) rfl (Nat.lt_of_lt_of_le (show 2 < 6 by decide) (by rw [Array.size_append]; exact Nat.le_add_right 6 _)) (fun e he => ?_) (fun h' sb ⟨o', q1, q2⟩ => ?_)
  · rcases hh with hh | ⟨e', oe, ve, h1, h2, h3, h4⟩
    · rw [show A.in1.handled = none from hh] at he; cases he
    · rw [show A.in1.handled = _ from h1] at he
      cases he
      have := Heap.lt_size h2
      refine Nat.ne_of_lt (Nat.lt_of_lt_of_le this ?_)
      rw [Heap.size_push, Heap.size_update]
      exact Nat.le_succ _
  · refine wpAny_bind (wpAny_isInstance (T := "StopIteration") (b := true) ⟨_, q1, q2⟩ isSubtype_stop ?_)
    refine wpAny_pure (hQ _ fun b o hb e => ?_)
    have e3 := lt b o e hb
    have e4 := Heap.get?_push_of_some { cls := .type "StopIteration", data := .fields (#[.ref (s.heap.update it f).objs.size, .none, .none, .none, .bool false, .none] ++ ownMembersOf (.type "StopIteration") []) } (Heap.get?_push_of_some { cls := .type "tuple", data := .seq ([] : List Value).toArray } e3)
    refine (sb.2 b (Nat.ne_of_lt (Nat.lt_of_lt_of_le (Heap.lt_size e3) ?_))).trans e4
    rw [Heap.size_push]
    exact Nat.le_succ _
theorem next_list_end_h {it l : Addr} {i : Nat} {items} {Q : Option Value → Shared → Prop} (hh : Hdl A s.heap)
    (hit : s.heap.IsListIter it l i) (hl : s.heap.IsList l items) (hx : items[i]? = none)
    (hQ : ∀ h', Heap.ExtBut it s.heap h' → Q none { s with heap := h' }) : wpAny (model prog w) A (pyNext (.ref it)) Q E s := by
  obtain ⟨o, ho, hc, hd⟩ := id hit
  obtain ⟨ol, hol, _, nl, hdl⟩ := hl
  unfold pyNext
  refine wpAny_bind (wpAny_attempt (wpAny_callSpecial?_slot (name := Str.ofString "__next__") hit.typeIs slot_listiter_next
    (wpAny_call_entry slot_listiter_next hit.typeIs entry_listiter_next ?_ (args_listiter_next _))))
  show wpAny _ _ (field (.ref it) 0 >>= _) _ _ s
  refine wpAny_bind (wpAny_field ho hd (x := .ref l) rfl ?_)
  show wpAny _ _ (if (Value.ref l == Value.none) = true then _ else _) _ _ s
  rw [if_neg (show ¬ ((Value.ref l == Value.none) = true) from Bool.false_ne_true)]
  show wpAny _ _ (field (.ref it) 1 >>= _) _ _ s
  refine wpAny_bind (wpAny_field ho hd (x := .int i 0) rfl ?_)
  show wpAny _ _ (seqItems? (.ref l) >>= _) _ _ s
  refine wpAny_bind (wpAny_seqItems hol hdl ?_)
  simp only [Int.toNat_natCast, hx]
  refine wpAny_bind (wpAny_rule (wpAny_bind (wpAny_setField ho hd (by simp) ?_)))
  exact stop_h hh (fun vs z => by obtain ⟨o', h1, h2, h3⟩ := z; rw [ho] at h1; cases h1; rw [hd] at h2; cases h2; cases h3) hQ
theorem next_tuple_end_h {it t : Addr} {i : Nat} {items} {Q : Option Value → Shared → Prop} (hh : Hdl A s.heap)
    (hit : IsTupIter s.heap it t i) (ht : IsTup s.heap t items) (hx : items[i]? = none)
    (hQ : ∀ h', Heap.ExtBut it s.heap h' → Q none { s with heap := h' }) : wpAny (model prog w) A (pyNext (.ref it)) Q E s := by
  obtain ⟨o, ho, hc, hd⟩ := id hit
  obtain ⟨ol, hol, _, nl, hdl⟩ := ht
  unfold pyNext
  refine wpAny_bind (wpAny_attempt (wpAny_callSpecial?_slot (name := Str.ofString "__next__") hit.typeIs slot_tupleiter_next
    (wpAny_call_entry slot_tupleiter_next hit.typeIs entry_tupleiter_next ?_ (args_tupleiter_next _))))
  show wpAny _ _ (field (.ref it) 0 >>= _) _ _ s
  refine wpAny_bind (wpAny_field ho hd (x := .ref t) rfl ?_)
  show wpAny _ _ (if (Value.ref t == Value.none) = true then _ else _) _ _ s
  rw [if_neg (show ¬ ((Value.ref t == Value.none) = true) from Bool.false_ne_true)]
  show wpAny _ _ (field (.ref it) 1 >>= _) _ _ s
  refine wpAny_bind (wpAny_field ho hd (x := .int i 0) rfl ?_)
  show wpAny _ _ (seqItems? (.ref t) >>= _) _ _ s
  refine wpAny_bind (wpAny_seqItems hol hdl ?_)
  simp only [Int.toNat_natCast, hx]
  refine wpAny_bind (wpAny_rule (wpAny_bind (wpAny_setField ho hd (by simp) ?_)))
  exact stop_h hh (fun vs z => by obtain ⟨o', h1, h2, h3⟩ := z; rw [ho] at h1; cases h1; rw [hd] at h2; cases h2; cases h3) hQ
theorem unpackItems_tuple_h {t : Addr} {items : Array Value} {Q : List Value → Shared → Prop} (hh : Hdl A s.heap) (ht : IsTup s.heap t items)
    (hQ : ∀ h', Heap.ExtBut s.heap.objs.size s.heap h' → Q items.toList { s with heap := h' }) : wpAny (model prog w) A (unpackItems (.ref t) items.size none) Q E s := by
  have hlt : t ≠ s.heap.objs.size := by obtain ⟨o, ho, _⟩ := ht; exact Nat.ne_of_lt (Heap.lt_size ho)
  unfold unpackItems
  refine wpAny_bind ?_
  · unfold notIterableAtAll
    refine wpAny_bind (wpAny_specialOf ht.typeIs slot_tuple_iter.lookup ?_)
    refine wpAny_pure ?_
    simp only [Bool.false_eq_true, if_false]
    refine wpAny_bind (wpAny_holding (iter_tuple ht ?_))
    refine wpAny_bind (wpAny_holding (draw_tuple hlt items.size 0 _ _ ⟨_, Heap.get?_push_size _ rfl, rfl, rfl⟩ (ht.push _) (by omega) fun h₁ hit₁ hs₁ => ?_))
    have hall : List.take items.size (List.drop 0 items.toList) = items.toList := by
      rw [List.drop_zero]; exact List.take_of_length_le (by simp)
    rw [hall]
    rw [if_neg (by simp)]
    have ht₁ : IsTup h₁ t items := (ht.push _).extBut hs₁.extBut hlt
    have hh₁ : Hdl A h₁ := hh.keeps fun b o vs e _ _ => hs₁.extBut b o (Nat.ne_of_lt (Heap.lt_size e)) (Heap.get?_push_of_some _ e)
    refine wpAny_bind (wpAny_holding (next_tuple_end_h hh₁ hit₁ ht₁ (by simp) fun h₂ he₂ => ?_))
    simp only [Option.isSome_none, Bool.false_eq_true, if_false]
    refine wpAny_pure (hQ h₂ fun b o hb e => he₂ b o hb (hs₁.extBut b o hb (Heap.get?_push_of_some _ e)))
theorem assign_Tuple_tuple_h {env : Env} {elts : List Expr} {x1} {pos : Pos} {t : Addr} {items : Array Value} {Q : Unit → Shared → Prop} (hh : Hdl A s.heap) (ht : IsTup s.heap t items)
    (hn : (assignEach elts env).length = items.size) (hstar : (assignEach elts env).findIdx? (·.1) = none)
    (h : ∀ h', Heap.ExtBut s.heap.objs.size s.heap h' → wpAny (model prog w) A (assignInOrder ((assignEach elts env).map (·.2)) items.toList) Q E { s with heap := h' }) :
    wpAny (model prog w) A (assign (.Tuple elts x1 pos) env (.ref t)) Q E s := by
  rw [assign_Tuple]
  refine wpAny_bind (wpAny_standAt ?_)
  unfold unpack
  rw [hn, hstar]
  exact wpAny_bind (wpAny_holding (unpackItems_tuple_h hh ht h))
end
end L2
set_option maxRecDepth 100000
set_option maxHeartbeats 1000000
namespace L2
open PySem PySem.Spec PyProof.Rows PySem.W
section
variable {prog : Program} {w : World} {A : Around} {E : Value → Shared → Prop} {s : Shared} {K : Frag} {x D : Addr} {ox : Obj}
theorem exc_class {Q : Option Value → Shared → Prop} (X : K.In s.heap) (I : PySem.W.InstAt s.heap x ox D none) (hga : findIn K (.ref D) "__getattribute__" = some (some (.builtin "BaseException.__getattribute__"))) (hgn : findIn K (.ref D) "__getattr__" = some none)
    (hk : (clsIn K D).isSome = true) (ha : findIn K (.ref D) "__class__" = some (some (.builtin "object.__class__"))) (hn : specialIn K (.builtin "object.__class__") "__get__" = some (some (.builtin "getset_descriptor.__get__"))) (htk : takesIn K (.builtin "object.__class__") = some true)
    (hm : mroIn K D (.type "object") = some true) (hb : mroIn K D (.type "BaseException") = some true)
    (h : Q (some (.ref D)) { s with toks := s.toks + 1 }) : wpAny (model prog w) A (getAttr? (.ref x) "__class__") Q E s := by
  have hf : findObj K D none "__class__" = some (.bind (.builtin "getset_descriptor.__get__") (.builtin "object.__class__")) := by
    obtain ⟨cd, hc⟩ := Option.isSome_iff_exists.mp hk
    unfold findObj
    rw [hc, Option.bind_some, ha, Option.bind_some]
    simp only [hn, htk, Option.bind_some]
  obtain ⟨hh, g, d, t, os⟩ := s
  have L0 := I.type (M := model prog w)
  have L1 := looks_findIn (M := model prog w) X hga
  have L2 := looks_findIn (M := model prog w) X hgn
  have L3 := looks_find (M := model prog w) X I hf
  unfold getAttr? getAttrBy? getAttrBy
  refine wpAny_bind (wpAny_mkText (wpAny_bind (wpAny_attempt (wpAny_holding (wpAny_bind (L0.at (wpAny_bind (L1.at ?_))))))))
  have hx2 : (Value.builtin "BaseException.__getattribute__" == Value.builtin "object.__getattribute__") = false := by decide +kernel
  show wpAny _ _ (if (onTheHeap (Value.ref D) && Value.builtin "BaseException.__getattribute__" == Value.builtin "object.__getattribute__") = true then _ else _) _ _ _
  rw [hx2, Bool.and_false, if_neg (by decide)]
  unfold getAttrByItsOwn hookBefore
  refine wpAny_bind (L2.at ?_)
  refine wpAny_bind (wpAny_attempt (wpAny_holding ?_))
  show wpAny _ _ (boundAndCalled _ _ _) _ _ _
  unfold boundAndCalled
  rw [F.excAttr_ValueError.ga.bind (.ref x)]
  refine wpAny_bind (wpAny_pure ?_)
  refine wpAny_call (codeAny_call_builtin F.excAttr_ValueError.ga.plain F.entry_bexc_ga ?_)
  have L4 := looks_mroIn (M := model prog w) X hb
  have hk' : builtinKind "BaseException.__getattribute__" = some .slot := by decide +kernel
  have hsplit : splitId "BaseException.__getattribute__" = some ("BaseException", "__getattribute__") := by decide +kernel
  have hargs := F.args_bexc_ga (.ref x) (.str "__class__" t)
  simp only [checkBuiltinCall, hk', hsplit]
  have L5 : Looks (model prog w) hh (isInstance (.ref x) (.type "BaseException")) true := L0.andThen L4
  refine wpAny_bind (L5.at ?_)
  repeat (any_goals (first | assumption | (with_reducible refine wpAny_loadPart_at I.at_ ?_; rw [I.cls]; refine wpAny_pure (wpAny_bind (L3.at ?_))) | wp_step))
  refine class_get (s := ⟨hh, g, d, t + 1, os⟩) (ox := ox) (od := none) X I hm ?_
  exact wpAny_pure (wpAny_pure (wpAny_pure h))
/-- the type of an exception of an own class, for isinstance -/
theorem kitx_exc (hga : findIn K (.ref D) "__getattribute__" = some (some (.builtin "BaseException.__getattribute__"))) (hgn : findIn K (.ref D) "__getattr__" = some none)
    (hk : (clsIn K D).isSome = true) (ha : findIn K (.ref D) "__class__" = some (some (.builtin "object.__class__"))) (hn : specialIn K (.builtin "object.__class__") "__get__" = some (some (.builtin "getset_descriptor.__get__"))) (htk : takesIn K (.builtin "object.__class__") = some true)
    (hm : mroIn K D (.type "object") = some true) (hb : mroIn K D (.type "BaseException") = some true) : KitX K (.ref x) (.ref D) (fun h => PySem.W.InstAt h x ox D none) where
  ty := fun _ _ _ I => I.type
  it := fun _ _ X _ => by
    obtain ⟨cdD, hcD⟩ := Option.isSome_iff_exists.mp hk
    unfold clsIn at hcD
    split at hcD
    · rename_i c' d' cd' sl' ho
      intro A' Q' E' s' k q
      unfold isType loadHead
      exact wpAny_bind (wpAny_loadPart (k _ _ (X _ _ ho)) (wpAny_pure q))
    · cases hcD
  ne := fun h tp dd its n sl X htp => by
    obtain ⟨cdD, hcD⟩ := Option.isSome_iff_exists.mp hk
    refine Bool.eq_false_iff.mpr fun q => ?_
    have e : D = tp := Value.ref.inj (beq_iff_eq.mp q)
    subst e
    unfold clsIn at hcD
    split at hcD
    · rename_i c' d' cd' sl' ho
      have z := (X _ _ ho).symm.trans htp
      cases z
    · cases hcD
  ca := fun X I k => exc_class X I hga hgn hk ha hn htk hm hb k
end
end L2
set_option maxRecDepth 100000
set_option maxHeartbeats 400000
namespace L2
open PySem PySem.Spec PyProof.Rows
/-! ### what a tree without calls never touches -/
inductive KeepsT (J : Shared → Prop) {α : Type} : Sem α → Prop
  | pure (a : α) : KeepsT J (.pure a)
  | raise (e : Value) : KeepsT J (.raise e)
  | unsupported (w : String) : KeepsT J (.unsupported w)
  | rule {t : String} {k : Unit → Sem α} : KeepsT J (k ()) → KeepsT J (.rule t k)
  | load {a : Addr} {p : Option Value} {k : Obj → Sem α} : (∀ o, KeepsT J (k o)) → KeepsT J (.load a p k)
  | update {a : Addr} {p : Option Value} {f : Obj → Obj} {k : Unit → Sem α} : (∀ s, J s → J { s with heap := s.heap.update a f }) → KeepsT J (k ()) → KeepsT J (.update a p f k)
  | alloc {o : Obj} {k : Addr → Sem α} : (∀ s, J s → J { s with heap := s.heap.push o }) → (∀ a, KeepsT J (k a)) → KeepsT J (.alloc o k)
  | stack {k : List (Code × Pos) → Sem α} : (∀ t, KeepsT J (k t)) → KeepsT J (.stack k)
theorem wp_keepsT {M : Model} {Γ : PySem.Ctx} {J : Shared → Prop} {α : Type} {t : Sem α} (kt : KeepsT J t) : ∀ {Q : α → Pos → Shared → Prop} {E : Value → Pos → Shared → Prop} {p : Pos} {s : Shared}, J s → Sem.wp M Γ t Q E p s →
    Sem.wp M Γ t (fun a p s => Q a p s ∧ J s) (fun e p s => E e p s ∧ J s) p s := by
  induction kt with
  | pure a => intro Q E p s j h; rw [Sem.wp] at h ⊢; exact ⟨h, j⟩
  | raise e => intro Q E p s j h; rw [Sem.wp] at h ⊢; exact ⟨h, j⟩
  | unsupported w => intro Q E p s j h; rw [Sem.wp] at h; exact h.elim
  | rule _ ih => intro Q E p s j h; rw [Sem.wp] at h ⊢; exact ih j h
  | load _ ih => intro Q E p s j h; rw [Sem.wp] at h ⊢; obtain ⟨o, e, h⟩ := h; exact ⟨o, e, ih o j h⟩
  | update f _ ih => intro Q E p s j h; rw [Sem.wp] at h ⊢; exact ⟨h.1, ih (f _ j) h.2⟩
  | alloc f _ ih => intro Q E p s j h; rw [Sem.wp] at h ⊢; exact ih _ (f _ j) h
  | stack _ ih => intro Q E p s j h; rw [Sem.wp] at h ⊢; exact ih _ j h
theorem wpAny_keepsT {M : Model} {A : Around} {J : Shared → Prop} {α : Type} {t : Sem α} {Q : α → Shared → Prop} {E : Value → Shared → Prop} {s : Shared} (k : KeepsT J t) (j : J s) (h : wpAny M A t Q E s) :
    wpAny M A t (fun a s => Q a s ∧ J s) (fun e s => E e s ∧ J s) s := fun Γ p hΓ => wp_keepsT k j (h Γ p hΓ)
/-- no context is told of the exception at e -/
def NoCx (e : Addr) (s : Shared) : Prop := ∃ o vs, s.heap.get? e = some o ∧ o.data = .fields vs ∧ vs[2]? = some .none ∧ o.dict = none
theorem dict_mapFields (f : Array Value → Array Value) (o : Obj) : (Obj.mapFields f o).dict = o.dict := by
  unfold Obj.mapFields
  split <;> rfl
theorem noCx_set {e a : Addr} {i : Nat} {v : Value} (hi : i ≠ 2) (s : Shared) (j : NoCx e s) : NoCx e { s with heap := s.heap.update a (Obj.mapFields (·.setIfInBounds i v)) } := by
  obtain ⟨o, vs, h1, h2, h3, h4⟩ := j
  by_cases z : a = e
  · subst z
    have d := Obj.data_mapFields h2 (·.setIfInBounds i v)
    exact ⟨_, _, Heap.get?_update_self _ h1 (Obj.isFreed_of_fields d), d, by rw [Array.getElem?_setIfInBounds_ne hi]; exact h3, (dict_mapFields _ _).trans h4⟩
  · exact ⟨o, vs, (Heap.get?_update_other _ _ z).trans h1, h2, h3, h4⟩
theorem noCx_slots {e a : Addr} {f : Obj → Obj} (hf : ∀ o, (f o).data = o.data ∧ (f o).dict = o.dict) (s : Shared) (j : NoCx e s) : NoCx e { s with heap := s.heap.update a f } := by
  obtain ⟨o, vs, h1, h2, h3, h4⟩ := j
  by_cases z : a = e
  · subst z
    exact ⟨_, vs, Heap.get?_update_self _ h1 (Obj.isFreed_of_fields ((hf o).1.trans h2)), (hf o).1.trans h2, h3, (hf o).2.trans h4⟩
  · exact ⟨o, vs, (Heap.get?_update_other _ _ z).trans h1, h2, h3, h4⟩
theorem noCx_push {e : Addr} {ob : Obj} (s : Shared) (j : NoCx e s) : NoCx e { s with heap := s.heap.push ob } := by
  obtain ⟨o, vs, h1, h2, h3, h4⟩ := j
  exact ⟨o, vs, Heap.get?_push_of_some _ h1, h2, h3, h4⟩
end L2
set_option maxRecDepth 100000
set_option maxHeartbeats 400000
namespace L2
open PySem PySem.Spec PyProof.Rows
theorem KeepsT.bind {J : Shared → Prop} {α β : Type} {t : Sem α} {f : α → Sem β} (kt : KeepsT J t) (h : ∀ a, KeepsT J (f a)) : KeepsT J (t >>= f) := by
  show KeepsT J (t.bind f)
  induction kt with
  | pure a => exact h a
  | raise e => exact .raise e
  | unsupported w => exact .unsupported w
  | rule _ ih => exact .rule ih
  | load _ ih => exact .load ih
  | update g _ ih => exact .update g ih
  | alloc g _ ih => exact .alloc g ih
  | stack _ ih => exact .stack ih
section
variable {e : Addr}
theorem kt_load {a : Addr} : KeepsT (NoCx e) (load a) := .load fun o => .pure o
theorem kt_setField {v x : Value} {i : Nat} (hi : i ≠ 2) : KeepsT (NoCx e) (setField v i x) := by
  unfold setField
  split
  · rename_i a
    unfold updateField
    refine kt_load.bind fun o => ?_
    split
    · split
      · exact .update (fun s j => noCx_set hi s j) (.pure ())
      · exact .unsupported _
    · exact .unsupported _
  · exact .unsupported _
theorem kt_fieldsOf {v : Value} : KeepsT (NoCx e) (fieldsOf v) := by
  unfold fieldsOf
  split
  · refine kt_load.bind fun o => ?_
    split
    · exact .pure _
    · exact .unsupported _
  · exact .unsupported _
theorem kt_field {v : Value} {i : Nat} : KeepsT (NoCx e) (field v i) := by
  unfold field
  refine kt_fieldsOf.bind fun vs => ?_
  split
  · exact .pure _
  · exact .unsupported _
theorem kt_flight {v : Value} {f : Option Addr} : KeepsT (NoCx e) (setFlight v f) := by
  unfold setFlight
  refine kt_field.bind fun tb => ?_
  split
  · exact kt_setField (by decide)
  · exact .pure _
theorem kt_stack : KeepsT (NoCx e) stack := .stack fun t => .pure t
theorem kt_newFields {ty : String} {vs : List Value} : KeepsT (NoCx e) (newFields ty vs) := by
  unfold newFields newObj newObjAsIs
  show KeepsT (NoCx e) (if vs.toArray.size > sizeLine + 2 then (unsupported "record:memory" >>= _) else _)
  split
  · exact .unsupported _
  · exact KeepsT.bind (.alloc (fun s j => noCx_push s j) fun a => .pure a) fun a => .pure _
theorem kt_place {f : Addr} {b : Bool} : KeepsT (NoCx e) (entryPlaceOf f b) := by
  unfold entryPlaceOf
  refine kt_stack.bind fun acts => ?_
  split
  · exact .pure _
  · exact .pure _
theorem kt_ready : ∀ l : List Env, KeepsT (NoCx e) (readyFrames l)
  | [] => .pure _
  | env :: outer => by
    unfold readyFrames
    split
    · refine kt_load.bind fun o => ?_
      split
      · exact .pure _
      · refine KeepsT.bind ?_ fun im => KeepsT.bind ?_ fun bk => KeepsT.bind (.update (fun s j => noCx_slots (by intro o; exact ⟨rfl, rfl⟩) s j) (.pure ())) fun _ => kt_ready outer
        · unfold behindIsImport
          split
          · exact .pure _
          · split
            · exact .pure _
            · exact kt_field.bind fun _ => .pure _
        · unfold keptBack
          split
          · split
            · exact .pure _
            · unfold underTheClaimsCaller
              exact KeepsT.bind (kt_stack.bind fun _ => .pure _) fun _ => .pure _
          · exact .pure _
    · exact .unsupported _
theorem kt_frameOf {env : Env} : KeepsT (NoCx e) (PySem.frameOf env) := by
  unfold PySem.frameOf frameEnvs
  refine KeepsT.bind (kt_stack.bind fun _ => .pure _) fun l => ?_
  refine KeepsT.bind ?_ fun r => ?_
  · unfold frameObject
    split
    · exact .pure _
    · exact (kt_ready _).bind fun _ => .pure _
  · split
    · exact .pure _
    · exact .unsupported _
theorem kt_note {v : Value} {env : Env} : KeepsT (NoCx e) (noteFrame v env) := by
  unfold noteFrame
  split
  · rename_i x d hq
    refine kt_field.bind fun hd => ?_
    have tail : KeepsT (NoCx e) (do let a ← PySem.frameOf env; let pl ← entryPlaceOf d (hd != .none); let b ← EntryCells.newEntry hd a .none (rawInt d) .none pl; setField v 1 b) :=
      kt_frameOf.bind fun a => kt_place.bind fun pl => KeepsT.bind kt_newFields fun b => kt_setField (by decide)
    dsimp only
    split
    · refine kt_field.bind fun x => ?_
      split
      · exact .pure _
      · exact (kt_setField (by decide)).bind fun _ => tail
    · exact tail
  · exact .unsupported _
theorem kt_leaving {v : Value} {env : Env} : KeepsT (NoCx e) (leaving env v) := by
  unfold leaving
  exact kt_note.bind fun _ => kt_flight
end
end L2
set_option maxRecDepth 100000
set_option maxHeartbeats 4000000
namespace L2
open PySem PySem.Spec PyProof.Rows
/-! ### an exception on its way -/
theorem ObjOk.have' {P : Program} {w : World} {H : Hp} {h : Heap} {a : Addr} {o : HO} (x : ObjOk P w H h a o) : ∃ ob, h.get? a = some ob := by
  cases o with
  | lst xs => obtain ⟨_, _, _, _, e⟩ := x; exact ⟨_, e⟩
  | tup xs => obtain ⟨_, _, _, ob, e, _⟩ := x; exact ⟨_, e⟩
  | dK kvs => obtain ⟨_, _, _, _, o, _, _, e, _⟩ := x; exact ⟨_, e⟩
  | dT kvs => obtain ⟨_, _, _, _, o, _, _, e, _⟩ := x; exact ⟨_, e⟩
  | set S n => obtain ⟨o, _, _, _, e, _⟩ := x; exact ⟨_, e⟩
  | ins C dx fs => obtain ⟨_, _, _, e, _⟩ := x; exact ⟨_, e⟩
  | own y => obtain ⟨_, e⟩ := x; exact ⟨_, e⟩
  | xd fs => obtain ⟨_, ⟨_, _, _, e, _⟩, _⟩ := x; exact ⟨_, e⟩
  | rng lo hi => obtain ⟨_, _, _, e⟩ := x; exact ⟨_, e⟩
  | frz ob u => obtain ⟨e, _⟩ := x; exact ⟨_, e⟩
  | tbl ps => exact ⟨_, (show h.get? a = some _ from x)⟩
  | met f y => exact ⟨_, (show h.get? a = some _ from x)⟩
  | ext φ => obtain ⟨_, ⟨_, e⟩, _⟩ := x; exact ⟨_, e⟩
/-- the tracked things stay where all their objects do -/
theorem HOk.stay' {P : Program} {w : World} {H : Hp} {h h' : Heap} (ok : HOk P w H h) (k : ∀ b u, H b ≠ none → h.get? b = some u → h'.get? b = some u) : HOk P w H h' := fun a o e =>
  (ok a o e).stay (fun b u hb hu => k b u (by
    rcases hb with rfl | hb
    · rw [e]; exact Option.some_ne_none _
    · rw [hb]; exact Option.some_ne_none _) hu) (fun _ z => z) (fun _ _ z => z)
/-- where an exception is: raised in a call made at (H, s), behind which the frames of outer stand -/
def CXe (P : Program) (w : World) : CXT := fun outer H s E e s' => ∃ (ea : Addr) (cls : Value) (t : Addr) (B : Heap) (H' : Hp),
  e = .ref ea ∧ s'.os = s.os ∧ AllBare s'.gens ∧ Un (frs outer) [] H H' s.heap s'.heap ∧ HOk P w H' s'.heap ∧ Heap.FlyingW B outer ea cls (.ref t) s'.heap ∧ NoCx ea s' ∧ H' ea = none ∧
  (∀ b, H' b ≠ none → ∀ o, s'.heap.get? b = some o → B.get? b = some o) ∧ (∀ b o, s.heap.get? b = some o → b ∉ frs outer → ∀ o', s'.heap.get? b = some o' → B.get? b = some o') ∧ E cls none H'
theorem cxe_none {P : Program} {w : World} {outer : List Env} {H : Hp} {s : Shared} {e : Value} {s' : Shared} (h : CXe P w outer H s E0 e s') : False := by
  obtain ⟨_, _, _, _, _, _, _, _, _, _, _, _, _, _, _, h⟩ := h
  exact h
section
variable {P : Program} {w : World} {K : PySem.W.Frag} {mg : Str → Option Value} {base : Heap} {N : List Str} {qual : Str} {scope : Scope} {f : Addr} {cd : Value} {A : Around} {outer : List Env} {s₀ : Shared} {H₀ : Hp} {E : XK}
/-- an exception that came out of a call leaves the frame -/
theorem passE : Passes (CXe P w) (cxOf (CXe P w) P w K mg base N qual scope f cd A outer s₀ H₀ E) E := by
  intro pins σ H s e s' I hx
  obtain ⟨ea, cls, t, B, H', rfl, os, bare, u, hok, fl, ncx, hea, c1, c2, hE⟩ := hx
  have hfr := I.ok.frames
  have hL : s₀.heap.objs.size ≤ (envOfC qual scope s₀.heap.objs.size f cd).locals := I.ok.above
  have nL : ∀ b o, s₀.heap.get? b = some o → b ∉ frs outer → b ∉ frs (envOfC qual scope s₀.heap.objs.size f cd :: outer) := fun b o hb hn hm => by
    have hm' : b ∈ (envOfC qual scope s₀.heap.objs.size f cd).locals :: frs outer := hm
    rcases List.mem_cons.mp hm' with rfl | z
    · exact absurd (Heap.lt_size hb) (Nat.not_lt.mpr hL)
    · exact hn z
  have stk : ∀ b ∈ frs (envOfC qual scope s₀.heap.objs.size f cd :: outer), H' b = none := fun b hb => by
    obtain ⟨o, ho, _⟩ := (I.stack.mem hb).2
    exact u.free b o ho (I.stkFree b hb) List.not_mem_nil
  refine wpAny_mono (wpAny_keepsT kt_leaving ncx (wpAny_leaves_onW (Q := fun _ s'' => ∃ h', s'' = { s' with heap := h' } ∧ Heap.FlyingW B outer ea cls (.ref t) h' ∧ s'.heap.UpToSlots h') (E := fun _ _ => False) hfr rfl fl fun h' fl' up => ⟨h', rfl, fl', up⟩))
    (fun _ s'' hq => ?_) (fun _ _ z => z.1.elim)
  obtain ⟨⟨h', rfl, fl', up⟩, nc'⟩ := hq
  have into : ∀ b o, s.heap.get? b = some o → b ∉ frs (envOfC qual scope s₀.heap.objs.size f cd :: outer) → ∀ o', s'.heap.get? b = some o' → h'.get? b = some o' := fun b o hb hn o' ho' => fl'.1 b o' (c2 b o hb hn o' ho')
  have trk : ∀ b o, H' b ≠ none → s'.heap.get? b = some o → h'.get? b = some o := fun b o hb ho => fl'.1 b o (c1 b hb o ho)
  have frm : ∀ b ∈ frs (envOfC qual scope s₀.heap.objs.size f cd :: outer), ∀ o, s'.heap.get? b = some o → ∃ sl, h'.get? b = some { o with slots := sl } := fun b hb o ho => by
    obtain ⟨o1, ho1, hd⟩ := (fl.2.2.1.mem hb).2
    rw [ho] at ho1
    cases ho1
    exact up b o ho hd
  refine ⟨ea, cls, t, B, H', rfl, os.trans I.os, bare, ⟨fun b o q n hn _ => ?_, fun b o q n hn _ => ?_, fun b o q n _ => ?_, fun b o q _ => ?_, fun b xs q => u.tups b xs (I.base.tups b xs q), fun b o v q => u.frzs b o v (I.base.frzs b o v q), fun b ps q => ?_⟩,
    hok.stay' (fun b o hb ho => trk b o hb ho), fl', nc', hea, fun b hb o ho => ?_, fun b o q hn o' ho' => ?_, hE⟩
  · have q1 := I.base.keep b o q n hn List.not_mem_nil
    have n1 := I.base.free b o q n List.not_mem_nil
    have hn1 := nL b o q hn
    exact into b o q1 hn1 o (u.keep b o q1 n1 hn1 List.not_mem_nil)
  · obtain ⟨sl, q1⟩ := I.base.slot b o q n hn List.not_mem_nil
    have n1 := I.base.free b o q n List.not_mem_nil
    have hn1 : b ∈ frs (envOfC qual scope s₀.heap.objs.size f cd :: outer) := List.mem_cons_of_mem _ hn
    obtain ⟨sl2, q2⟩ := u.slot b _ q1 n1 hn1 List.not_mem_nil
    obtain ⟨sl3, q3⟩ := frm b hn1 _ q2
    exact ⟨sl3, q3⟩
  · obtain ⟨o1, q1⟩ := I.base.there b o q List.not_mem_nil
    exact u.free b o1 q1 (I.base.free b o q n List.not_mem_nil) List.not_mem_nil
  · obtain ⟨o1, q1⟩ := I.base.there b o q List.not_mem_nil
    obtain ⟨o2, q2⟩ := u.there b o1 q1 List.not_mem_nil
    by_cases hm : b ∈ frs (envOfC qual scope s₀.heap.objs.size f cd :: outer)
    · obtain ⟨sl, q3⟩ := frm b hm o2 q2
      exact ⟨_, q3⟩
    · exact ⟨o2, into b o1 q1 hm o2 q2⟩
  · obtain ⟨m1, e1⟩ := I.base.tbls b ps q
    obtain ⟨m2, e2⟩ := u.tbls b _ e1
    exact ⟨m1 ++ m2, by rw [e2, Array.append_assoc]⟩
  · obtain ⟨ho2, hH⟩ := Option.ne_none_iff_exists'.mp hb
    obtain ⟨o2, q2⟩ := (hok b ho2 hH).have'
    have q3 := trk b o2 hb q2
    have q3' : h'.get? b = some o := ho
    rw [q3] at q3'
    cases q3'
    exact c1 b hb _ q2
  · obtain ⟨o1, q1⟩ := I.base.there b o q List.not_mem_nil
    obtain ⟨o2, q2⟩ := u.there b o1 q1 List.not_mem_nil
    have hn1 := nL b o q hn
    have q3 := into b o1 q1 hn1 o2 q2
    have q3' : h'.get? b = some o' := ho'
    rw [q3] at q3'
    cases q3'
    exact c2 b o1 q1 hn1 _ q2
/-- a new exception that leaves the frame -/
def Raises (X : Cx) (E : XK) : Prop := ∀ (pins : List (Addr × Obj)) (σ : St) (H : Hp) (s : Shared) (h' : Heap) (e : Addr) (cls : Value) (vs : List Value), Inv X pins σ H s → Heap.MadeExcOf s.heap h' e cls vs → E cls none H → X.xe (.ref e) { s with heap := h' }
theorem raiseE : Raises (cxOf (CXe P w) P w K mg base N qual scope f cd A outer s₀ H₀ E) E := by
  intro pins σ H s h1 e cls vs I hx hE
  have hfr := I.ok.frames
  have hL : s₀.heap.objs.size ≤ (envOfC qual scope s₀.heap.objs.size f cd).locals := I.ok.above
  have nL : ∀ b o, s₀.heap.get? b = some o → b ∉ frs outer → b ∉ frs (envOfC qual scope s₀.heap.objs.size f cd :: outer) := fun b o hb hn hm => by
    have hm' : b ∈ (envOfC qual scope s₀.heap.objs.size f cd).locals :: frs outer := hm
    rcases List.mem_cons.mp hm' with rfl | z
    · exact absurd (Heap.lt_size hb) (Nat.not_lt.mpr hL)
    · exact hn z
  have hin : ∀ env ∈ (envOfC qual scope s₀.heap.objs.size f cd :: outer), ∀ b, env.frame = some b → b ∈ frs (envOfC qual scope s₀.heap.objs.size f cd :: outer) := fun env he b hb => List.mem_filterMap.mpr ⟨env, he, hb⟩
  have ncx : NoCx e { s with heap := h1 } := by
    obtain ⟨t, ht, _, _⟩ := hx.there
    exact ⟨_, _, ht, rfl, rfl, rfl⟩
  refine wpAny_mono (wpAny_keepsT kt_leaving ncx (wpAny_leaves_madeW (Q := fun _ s'' => ∃ h' t, s'' = { s with heap := h' } ∧ Heap.FlyingW (PySem.W.hideAll s.heap (frs (envOfC qual scope s₀.heap.objs.size f cd :: outer))) outer e cls (.ref t) h' ∧ h1.UpToSlots h') (E := fun _ _ => False)
    hfr rfl (fun b o q => PySem.W.of_hideAll _ q) (PySem.W.funFrames_hide I.stack hin) hx fun h' t fl' _ _ up => ⟨h', t, rfl, fl', up⟩)) (fun _ s'' hq => ?_) (fun _ _ z => z.1.elim)
  obtain ⟨⟨h', t, rfl, fl', up⟩, nc'⟩ := hq
  have into : ∀ b o, s.heap.get? b = some o → b ∉ frs (envOfC qual scope s₀.heap.objs.size f cd :: outer) → h'.get? b = some o := fun b o hb hn => fl'.1 b o (PySem.W.hideAll_get _ hb hn)
  have ntr : ∀ b, H b ≠ none → b ∉ frs (envOfC qual scope s₀.heap.objs.size f cd :: outer) := fun b hb hm => hb (I.stkFree b hm)
  have frm : ∀ b ∈ frs (envOfC qual scope s₀.heap.objs.size f cd :: outer), ∀ o, s.heap.get? b = some o → ∃ sl, h'.get? b = some { o with slots := sl } := fun b hb o ho => by
    obtain ⟨o1, ho1, hd⟩ := (I.stack.mem hb).2
    rw [ho] at ho1
    cases ho1
    exact up b o (hx.keeps b o ho) hd
  refine ⟨e, cls, t, _, H, rfl, I.os, I.bare, ⟨fun b o q n hn _ => ?_, fun b o q n hn _ => ?_, fun b o q n _ => I.base.free b o q n List.not_mem_nil, fun b o q _ => ?_, I.base.tups, I.base.frzs, I.base.tbls⟩,
    I.hok.stay' (fun b o hb ho => into b o ho (ntr b hb)), fl', nc', ?_, fun b hb o ho => ?_, fun b o q hn o' ho' => ?_, hE⟩
  · exact into b o (I.base.keep b o q n hn List.not_mem_nil) (nL b o q hn)
  · obtain ⟨sl, q1⟩ := I.base.slot b o q n hn List.not_mem_nil
    obtain ⟨sl3, q3⟩ := frm b (List.mem_cons_of_mem _ hn) _ q1
    exact ⟨sl3, q3⟩
  · obtain ⟨o1, q1⟩ := I.base.there b o q List.not_mem_nil
    by_cases hm : b ∈ frs (envOfC qual scope s₀.heap.objs.size f cd :: outer)
    · obtain ⟨sl, q3⟩ := frm b hm o1 q1
      exact ⟨_, q3⟩
    · exact ⟨o1, into b o1 q1 hm⟩
  · cases q : H e with
    | none => rfl
    | some ho =>
      obtain ⟨o2, q2⟩ := (I.hok e ho q).have'
      rw [hx.new] at q2
      cases q2
  · obtain ⟨ho2, hH⟩ := Option.ne_none_iff_exists'.mp hb
    obtain ⟨o2, q2⟩ := (I.hok b ho2 hH).have'
    have q3 := into b o2 q2 (ntr b hb)
    have q3' : h'.get? b = some o := ho
    rw [q3] at q3'
    cases q3'
    exact PySem.W.hideAll_get _ q2 (ntr b hb)
  · obtain ⟨o1, q1⟩ := I.base.there b o q List.not_mem_nil
    have hn1 := nL b o q hn
    have q3 := into b o1 q1 hn1
    have q3' : h'.get? b = some o' := ho'
    rw [q3] at q3'
    cases q3'
    exact PySem.W.hideAll_get _ q1 hn1
end
section
variable {X : Cx}
/-- raise C(..) of an own class -/
theorem ps_raise {x : Str} {C : Addr} {bm : List Value} {B newId initId : String} {e : Expr} {es : List Expr} {t : TA} {np cpos pos : Pos} {E : XK} (hc : X.calm = true) (O : OwnCls x C bm newId X.mg X.base) (FB : ExcBaseFacts B newId initId bm) (hgl : Gl X x)
    (hd : (x == ("__debug__" : Str)) = false) (ha : PA X (e :: es) t) (hs : starEach (e :: es) X.env = (false, eval e X.env) :: starEach es X.env) (h1 : (backTo cpos (starEach es X.env)).any (·.1) = false) (hR : Raises X E) :
    PS X (.Raise (some (.Call (.Name x np) (e :: es) [] cpos)) none pos) (sRaise C E t) := by
  intro pins s σ H D I h
  obtain ⟨tl, N, nm, q, bs, hdct, sn, sub, ab, col, dd, k0, k1, k2, k3, k5, mN, hC, hN, hni, T⟩ := O.obj
  have hg : PE X (.Name x np) (tC (.ref C)) := pe_glob hgl O.bound rfl hd
  refine wpAny_Raise_call_subT (C := C) (nm := nm) (q := q) (N := N) (bs := bs) (bm := tl) (hdct := hdct) (sn := sn) (sub := sub) (ab := ab) (col := col) (dd := dd) (k0 := k0) (k1 := k1) (k2 := k2) (k3 := k3) (k5 := k5)
    FB (mN := mN) (T.hasType FB.hasBase) (I.ok.hd hc) (by rw [hs]; show (false || (backTo cpos (starEach es X.env)).any (·.1)) = false; rw [h1]; rfl) hni
    (thn (hg pins s σ H (fun v H1 => v = .ref C ∧ sRaise C E t D σ H1) I ⟨rfl, h⟩) fun f s1 ⟨v, H1, I1, r1, ev, q1⟩ => ?_)
  subst ev
  obtain rfl : f = Value.ref C := r1
  refine ⟨rfl, ?_⟩
  have hA := ha cpos pins s1 σ H1 _ I1 q1
  rw [hs] at hA ⊢
  refine Calls.evalArgs_plain (thn hA fun us s2 ⟨vs, H2, I2, r2, hl, q2⟩ => ⟨rfl, ?_, I2.bk _ _ hC, hN.keeps I2.bk, T.keeps I2.bk, fun h' e' hm => hR pins σ H2 s2 h' e' _ _ I2 hm q2⟩)
  have := r2.length
  show us.length ≤ sizeLine
  omega
end
end L2
set_option maxRecDepth 100000
set_option maxHeartbeats 4000000
namespace L2
open PySem PySem.Spec PyProof.Rows
theorem cxe_move {P : Program} {w : World} {l : List Env} {H H' : Hp} {h h1 h' B : Heap} (u : Un (frs l) [] H H' h h1) (hok : HOk P w H' h1) (fr : h1.FunFrames B l)
    (c1 : ∀ b, H' b ≠ none → ∀ o, h1.get? b = some o → B.get? b = some o) (c2 : ∀ b o, h.get? b = some o → b ∉ frs l → ∀ o', h1.get? b = some o' → B.get? b = some o') (st : B.StaysIn h') (up : h1.UpToSlots h') :
    Un (frs l) [] H H' h h' ∧ HOk P w H' h' ∧ (∀ b, H' b ≠ none → ∀ o, h'.get? b = some o → B.get? b = some o) ∧ (∀ b o, h.get? b = some o → b ∉ frs l → ∀ o', h'.get? b = some o' → B.get? b = some o') := by
  have trk : ∀ b o, H' b ≠ none → h1.get? b = some o → h'.get? b = some o := fun b o hb ho => st b o (c1 b hb o ho)
  have into : ∀ b o, h.get? b = some o → b ∉ frs l → ∀ o', h1.get? b = some o' → h'.get? b = some o' := fun b o hb hn o' ho' => st b o' (c2 b o hb hn o' ho')
  have frm : ∀ b ∈ frs l, ∀ o, h1.get? b = some o → ∃ sl, h'.get? b = some { o with slots := sl } := fun b hb o ho => by
    obtain ⟨o1, ho1, hd⟩ := (fr.mem hb).2
    rw [ho] at ho1
    cases ho1
    exact up b o ho hd
  refine ⟨⟨fun b o q n hn _ => into b o q hn o (u.keep b o q n hn List.not_mem_nil), fun b o q n hn _ => ?_, u.free, fun b o q _ => ?_, u.tups, u.frzs, u.tbls⟩, hok.stay' (fun b o hb ho => trk b o hb ho), fun b hb o ho => ?_, fun b o q hn o' ho' => ?_⟩
  · obtain ⟨sl, q1⟩ := u.slot b o q n hn List.not_mem_nil
    obtain ⟨sl2, q2⟩ := frm b hn _ q1
    exact ⟨sl2, q2⟩
  · obtain ⟨o1, q1⟩ := u.there b o q List.not_mem_nil
    by_cases hm : b ∈ frs l
    · obtain ⟨sl, q3⟩ := frm b hm o1 q1
      exact ⟨_, q3⟩
    · exact ⟨o1, into b o q hm o1 q1⟩
  · obtain ⟨ho2, hH⟩ := Option.ne_none_iff_exists'.mp hb
    obtain ⟨o2, q2⟩ := (hok b ho2 hH).have'
    have q3 := trk b o2 hb q2
    rw [q3] at ho
    cases ho
    exact c1 b hb _ q2
  · obtain ⟨o2, q2⟩ := u.there b o q List.not_mem_nil
    have q3 := into b o q hn o2 q2
    rw [q3] at ho'
    cases ho'
    exact c2 b o q hn _ q2
/-- another way of going on from the same state -/
def Cx.alt (X : Cx) (A : Around) (calm : Bool) (pn : List (Addr × Obj)) (xe : Value → Shared → Prop) : Cx := { X with A := A, calm := calm, pn := pn, xe := xe }
theorem Inv.alt {X : Cx} {pins pins' pn' : List (Addr × Obj)} {σ : St} {H : Hp} {s : Shared} {A' : Around} {calm' : Bool} {xe' : Value → Shared → Prop} (I : Inv X pins σ H s) (hf : A'.frames = X.A.frames) (hc : calm' = true → A'.handled = none) (hp : ∀ p ∈ pn' ++ pins', p ∈ X.pn ++ pins) :
    Inv (X.alt A' calm' pn' xe') pins' σ H s where
  ok := ⟨I.ok.mod, I.ok.kind, I.ok.glob, I.ok.blt, I.ok.above, I.ok.inj, I.ok.has, I.ok.cab, hc, hf.trans I.ok.frames, I.ok.stk, I.ok.exf, I.ok.bs, I.ok.bsz, I.ok.noex, I.ok.exfs, I.ok.funs, I.ok.frf⟩
  os := I.os
  bare := I.bare
  base := I.base
  loc := I.loc
  cell := I.cell
  free := I.free
  freeC := I.freeC
  pin := fun p h => I.pin p (hp p h)
  hok := I.hok
  len := I.len
/-- back again -/
theorem Inv.unalt {X : Cx} {pins pins' pn' : List (Addr × Obj)} {σ : St} {H : Hp} {s : Shared} {A' : Around} {calm' : Bool} {xe' : Value → Shared → Prop} (ok : X.Ok) (I : Inv (X.alt A' calm' pn' xe') pins' σ H s) (hp : ∀ p ∈ X.pn ++ pins, p ∈ pn' ++ pins') :
    Inv X pins σ H s where
  ok := ok
  os := I.os
  bare := I.bare
  base := I.base
  loc := I.loc
  cell := I.cell
  free := I.free
  freeC := I.freeC
  pin := fun p h => I.pin p (hp p h)
  hok := I.hok
  len := I.len
theorem excO_ok {P : Program} {w : World} {H : Hp} {h : Heap} {ea : Addr} {ob : Obj} (h1 : h.get? ea = some ob) : ObjOk P w H h ea (.frz ob excU) :=
  ⟨h1, trivial, ⟨ob, h1⟩, fun _ _ _ _ => trivial⟩
/-- a new thing is tracked -/
theorem HOk.more {P : Program} {w : World} {H : Hp} {h : Heap} {a : Addr} {o : HO} (ok : HOk P w H h) (ha : H a = none) (x : ObjOk P w (upd H a o) h a o) : HOk P w (upd H a o) h := fun b u e => by
  by_cases z : b = a
  · subst z
    rw [upd_same] at e
    cases e
    exact x
  · rw [upd_ne z] at e
    exact (ok b u e).stay (fun _ _ _ q => q) (fun c q => by rw [upd_ne (ne_of_none q ha)]; exact q) (fun c xs q => by rw [upd_ne (ne_of_none q ha)]; exact q)
section
variable {X : Cx}
theorem Inv.unname {pins : List (Addr × Obj)} {σ : St} {H : Hp} {s : Shared} {h' : Heap} {m' : Str → Option Value} {tk : Nat} (I : Inv X pins σ H s) (hn : h'.Ns X.env.locals m') (sb : Heap.SameBut X.env.locals s.heap h') :
    Inv X pins (List.replicate X.N.length none) H { s with heap := h', toks := tk } where
  ok := I.ok
  os := I.os
  bare := I.bare
  base := by
    have ne : ∀ b o, X.s₀.heap.get? b = some o → b ≠ X.env.locals := fun b o q z => by
      rw [z] at q
      exact absurd (Heap.lt_size q) (Nat.not_lt.mpr I.ok.above)
    refine ⟨fun b o q n hn hx => (sb.2 b (ne b o q)).trans (I.base.keep b o q n hn hx), fun b o q n hn hx => ?_, I.base.free, fun b o q hx => ?_, I.base.tups, I.base.frzs, I.base.tbls⟩
    · obtain ⟨sl, e⟩ := I.base.slot b o q n hn hx
      exact ⟨sl, (sb.2 b (ne b o q)).trans e⟩
    · obtain ⟨o', e⟩ := I.base.there b o q hx
      exact ⟨o', (sb.2 b (ne b o q)).trans e⟩
  loc := ⟨m', hn, fun i x v h1 h2 => by
    rw [List.getElem?_replicate] at h2
    split at h2 <;> cases h2⟩
  cell := fun x c h => by
    obtain ⟨v, o, e, d⟩ := I.cell x c h
    refine ⟨v, o, (sb.2 c (fun z => ?_)).trans e, d⟩
    obtain ⟨m, ⟨o2, es, ep, e2, d2, _⟩, _⟩ := I.loc
    rw [z, e2] at e
    cases e
    rw [d] at d2
    cases d2
  free := I.free
  freeC := I.freeC
  pin := fun p hp => by
    obtain ⟨a, b, c, d, e⟩ := I.pin p hp
    exact ⟨(sb.2 _ c).trans a, b, c, d, e⟩
  hok := I.hok.stay' fun b u hb hu => (sb.2 b (fun z => hb (by rw [z]; exact I.free))).trans hu
  len := List.length_replicate
theorem ps_try {x n : Str} {C : Addr} {i : Nat} {body : List Stmt} {b₀ : Stmt} {suite : List Stmt} {tb : XK → TS} {th : Addr → TS} {np hpos pos : Pos} (hst : X.stack = X.env :: X.outer) (hfr : X.env.frame = some X.env.locals) (hex : X.ex = [])
    (hgl : Gl X x) (hd : (x == ("__debug__" : Str)) = false) (hmg : X.mg x = some (.ref C)) (nd : X.N.Nodup) (hN : X.N[i]? = some n) (hlo : X.env.scope.names.lookup n = some .local)
    (hb : ∀ (pn : List (Addr × Obj)) (xe : Value → Shared → Prop) (E : XK), PassesOwn (model X.prog X.w) X.A X.env xe → Passes (CXe X.prog X.w) (X.alt X.A X.calm pn xe) E → PSs (X.alt X.A X.calm pn xe) body (tb E))
    (hh : ∀ (ea : Addr) (pn : List (Addr × Obj)), PSs (X.alt (X.A.mark (some (.ref ea))) false pn fun _ _ => False) (b₀ :: suite) (th ea)) :
    PS X (.Try body [.ExceptHandler (some (.Name x np)) (some n) (b₀ :: suite) hpos] [] [] pos) (sTry X.K C i X.N.length tb th) := by
  intro pins s σ H D I h
  refine wpAny_Try_except ?_
  have P1 : Passes (CXe X.prog X.w) (X.alt X.A X.calm (X.pn ++ pins) fun e s₁ => wpAny (model X.prog X.w) X.A (noteFrame e X.env) (fun _ s₂ => wpAny (model X.prog X.w) X.A (setFlight e none) (fun _ s₃ => wpAny (model X.prog X.w) X.A (handleBy e X.env [.ExceptHandler (some (.Name x np)) (some n) (b₀ :: suite) hpos]) (SP X pins D) X.xe s₃) X.xe s₂) X.xe s₁) (eTry X.K C i X.N.length th D) := by
    intro pins' σ' H1 s1 e' s' I1 hx
    obtain ⟨ea, cls, t, B, H', rfl, os, bare, u, hok, fl, ncx, hea, c1, c2, hm, hth⟩ := hx
    have hfrm : X.A.frames = some (X.env :: X.outer) := by rw [I.ok.frames, hst]
    have fl' : Heap.FlyingW B (X.env :: X.outer) ea cls (.ref t) s'.heap := by rw [← hst]; exact fl
    refine wpAny_mono (wpAny_keepsT kt_note ncx (wpAny_looks_onW (Q := fun _ s'' => ∃ h', s'' = { s' with heap := h' } ∧ Heap.HeldW B (X.env :: X.outer) ea cls (.ref t) X.env.locals h' ∧ s'.heap.UpToSlots h') (E := fun _ _ => False) hfrm hfr fl' fun h4 hd4 up4 => ⟨h4, rfl, hd4, up4⟩))
      (fun _ s4 hq => ?_) (fun _ _ z => z.1.elim)
    obtain ⟨⟨h4, rfl, hd4, up4⟩, nc4⟩ := hq
    refine wpAny_mono (wpAny_keepsT kt_flight nc4 (wpAny_landsW (s := { s' with heap := h4 }) (Q := fun _ s'' => ∃ h', s'' = { s' with heap := h' } ∧ Heap.FlyingW B (X.env :: X.outer) ea cls (.ref t) h' ∧ h4.UpToSlots h') (E := fun _ _ => False) hd4 fun h5 fl5 up5 => ⟨h5, rfl, fl5, up5⟩))
      (fun _ s5 hq => ?_) (fun _ _ z => z.1.elim)
    obtain ⟨⟨h5, rfl, fl5', up5⟩, nc5⟩ := hq
    have fl5 : Heap.FlyingW B X.stack ea cls (.ref t) h5 := by rw [hst]; exact fl5'
    obtain ⟨u5, ok5, c15, c25⟩ := cxe_move (l := X.stack) u hok fl.2.2.1 c1 c2 fl5.1 (up4.trans up5)
    obtain ⟨oe, ws, hoe, hoec, hoed, hoe0⟩ := fl5.first
    have I5 := I1.call' (s' := { s' with heap := h5 }) (ch := []) os u5 ok5 bare (fun b z => absurd z List.not_mem_nil)
    refine wpAny_handleBy_cons (codeAny_handlers_test ?_) (by intro q; cases q)
    have I5' : Inv (X.alt (X.A.mark (some (.ref ea))) false (X.pn ++ pins) fun _ _ => False) [] σ' H' { s' with heap := h5 } := I5.alt (A' := X.A.mark (some (.ref ea))) (calm' := false) (pn' := X.pn ++ pins) (pins' := []) rfl (fun z => nomatch z) (fun p hp => List.mem_append.mpr (.inl (by rw [List.append_nil] at hp; exact hp)))
    refine ld_glob I5' hgl hmg ?_ hd
    have LT : PySem.W.Looks (model X.prog X.w) h5 (typeOf (.ref ea)) cls := by
      subst hoec
      exact (PySem.W.Looks.ld hoe).andThen .now
    refine (PySem.W.exm_one I5.kIn LT hm).here ?_
    refine codeAny_handlers_suite_as ?_
    refine wpAny_mono (wpAny_keepsT kt_flight nc5 (lands_againW (s := { s' with heap := h5 }) (Q := fun _ s'' => ∃ h', s'' = { s' with heap := h' } ∧ Heap.FlyingW B X.stack ea cls (.ref t) h' ∧ h5.UpToSlots h') (E := fun _ _ => False) fl5 fun h6 fl6 up6 => ⟨h6, rfl, fl6, up6⟩))
      (fun _ s6 hq => ?_) (fun _ _ z => z.1.elim)
    obtain ⟨⟨h6, rfl, fl6, up6⟩, nc6⟩ := hq
    obtain ⟨u6, ok6, c16, c26⟩ := cxe_move (l := X.stack) u5 ok5 fl5.2.2.1 c15 c25 fl6.1 up6
    obtain ⟨oe6, ws6, hoe6, hoec6, hoed6, _⟩ := fl6.first
    have hn6 : ExcObj oe6 cls ws6 := by
      obtain ⟨o', vs', q1, q2, q3, q4⟩ := nc6
      have q1' : h6.get? ea = some o' := q1
      rw [hoe6] at q1'
      cases q1'
      rw [hoed6] at q2
      cases q2
      exact ⟨hoec6, hoed6, q3, q4⟩
    have ne1 : s1.heap.get? ea = none := by
      cases q : s1.heap.get? ea with
      | none => rfl
      | some o1 =>
        by_cases hmm : ea ∈ frs X.stack
        · obtain ⟨o2, ho2, hd2⟩ := (fl6.2.2.1.mem hmm).2
          rw [hoe6] at ho2
          cases ho2
          exact (hd2 _ hoed6).elim
        · have := c26 ea o1 q hmm oe6 hoe6
          rw [fl6.2.1] at this
          cases this
    have u7 : Un (frs X.stack) [] H1 (upd H' ea (.frz oe6 excU)) s1.heap h6 := ⟨u6.keep, u6.slot, fun b o q n hx => by
        rw [upd_ne (fun z => by rw [z, ne1] at q; cases q)]; exact u6.free b o q n hx, u6.there, fun b xs q => by
        have q' := u6.tups b xs q
        rw [upd_ne (ne_of_none q' hea)]; exact q', fun b o v q => by
        have q' := u6.frzs b o v q
        rw [upd_ne (ne_of_none q' hea)]; exact q', fun b ps q => by
        obtain ⟨more, q'⟩ := u6.tbls b ps q
        exact ⟨more, by rw [upd_ne (ne_of_none q' hea)]; exact q'⟩⟩
    have ok7 : HOk X.prog X.w (upd H' ea (.frz oe6 excU)) h6 := ok6.more hea (excO_ok hoe6)
    have I7 := I1.call' (s' := { s' with heap := h6 }) (ch := []) os u7 ok7 bare (fun b z => absurd z List.not_mem_nil)
    have I8 : Inv (X.alt (X.A.mark (some (.ref ea))) false (X.pn ++ pins) fun _ _ => False) [] σ' (upd H' ea (.frz oe6 excU)) { s' with heap := h6 } := I7.alt (A' := X.A.mark (some (.ref ea))) (calm' := false) (pn' := X.pn ++ pins) (pins' := []) rfl (fun z => nomatch z) (fun p hp => List.mem_append.mpr (.inl (by rw [List.append_nil] at hp; exact hp)))
    refine store_ok (X := X.alt (X.A.mark (some (.ref ea))) false (X.pn ++ pins) fun _ _ => False) (v := .ref ea) I8 nd hN (.inl hlo) rfl (fun s9 I9 => ?_) (.inr hlo)
    refine wpAny_mono (hh ea (X.pn ++ pins) [] s9 _ _ { nx := fun _ _ => False, rt := D.rt } I9 (hth ea oe6 ws6 σ' hea I1.len hn6)) (fun f s10 hs => ?_) fun _ _ z => z.elim
    cases f with
    | next => obtain ⟨_, _, _, z⟩ := hs; exact z.elim
    | brk => obtain ⟨_, _, _, z⟩ := hs; exact z.elim
    | cont => obtain ⟨_, _, _, z⟩ := hs; exact z.elim
    | ret v =>
      obtain ⟨v', σ'', H10, I10, r, q⟩ := hs
      have I11 : Inv X pins σ'' H10 s10 := I10.unalt I.ok (fun p hp => by simpa using hp)
      obtain ⟨m, hn, _⟩ := I11.loc
      refine wpAny_nameGoes hlo hn (by rw [I.ok.kind]; rfl) fun h' m' hn' sb => ?_
      exact ⟨v', _, H10, I11.unname hn' sb, r, q⟩
  refine wpAny_mono (hb _ _ _ PassesOwn.looking P1 [] s σ H { nx := D.nx, rt := D.rt } (I.alt rfl I.ok.hd (fun p hp => by simpa using hp)) h) (fun f s1 hs => ?_) fun e' s' hx => hx
  cases f with
  | next =>
    obtain ⟨σ', H', I', q⟩ := hs
    exact pss_nil pins s1 σ' H' D (I'.unalt I.ok (fun p hp => by simpa using hp)) q
  | brk => obtain ⟨_, _, _, z⟩ := hs; exact z.elim
  | cont => obtain ⟨_, _, _, z⟩ := hs; exact z.elim
  | ret v =>
    obtain ⟨v', σ', H', I', r, q⟩ := hs
    exact ⟨v', σ', H', I'.unalt I.ok (fun p hp => by simpa using hp), r, q⟩
end
end L2
set_option maxRecDepth 100000
set_option maxHeartbeats 4000000
namespace L2
open PySem PySem.Spec PyProof.Rows
/-! ### defs that an except suite calls -/
def HdAt (A : Around) (H : Hp) : Prop := ∃ e D, A.handled = some (.ref e) ∧ ExcAt H e D
def Hd (X : Cx) : Prop := HdAt X.A X.H₀
theorem ExcAt.keeps {H H' : Hp} {e D : Addr} (h : ExcAt H e D) (k : ∀ b o u, H b = some (.frz o u) → H' b = some (.frz o u)) : ExcAt H' e D := by
  obtain ⟨ob, vs, h1, h2⟩ := h
  exact ⟨ob, vs, k _ _ _ h1, h2⟩
theorem HdAt.keeps {A : Around} {H H' : Hp} (h : HdAt A H) (k : ∀ b o u, H b = some (.frz o u) → H' b = some (.frz o u)) : HdAt A H' := by
  obtain ⟨e, D, h1, h2⟩ := h
  exact ⟨e, D, h1, h2.keeps k⟩
theorem HdAt.hdl {P : Program} {w : World} {A : Around} {H : Hp} {h : Heap} (x : HdAt A H) (ok : HOk P w H h) : Hdl A h := by
  obtain ⟨e, D, h1, ob, vs, h2, h3⟩ := x
  exact .inr ⟨e, ob, vs, h1, (ok e _ h2).1, h3.data, h3.noCx⟩
section
variable {X : Cx} {pins : List (Addr × Obj)} {σ : St} {H : Hp} {s : Shared}
theorem Hd.at (h : Hd X) (I : Inv X pins σ H s) : HdAt X.A H := HdAt.keeps h I.base.frzs
theorem Hd.hdl (h : Hd X) (I : Inv X pins σ H s) : Hdl X.A s.heap := (h.at I).hdl I.hok
end
theorem turn_listH {P : Program} {w : World} {K : PySem.W.Frag} {tg : Expr} (a it : Addr) : TurnP Hd P w K tg (Itl K a) [it] it (fun i h => h.IsListIter it a i) where
  mem := by simp
  obj := (turn_list (P := P) (w := w) (K := K) (tg := tg) a it).obj
  keep := (turn_list (P := P) (w := w) (K := K) (tg := tg) a it).keep
  item := by
    intro X hP hw hK hc i pins s σ H E I hf st hg
    subst hP hw hK
    obtain ⟨xs, x, hq, hx⟩ := hg
    obtain ⟨its, rv, p, hz⟩ := I.list hq
    obtain ⟨u, hu, ru⟩ := rv.get hx
    obtain ⟨f0, f1, f2, f3, f4, f5⟩ := hf it (by simp)
    refine wpAny_pyNext_list_item st p.isList (x := u) (by simpa using hu) fun h' st' sb => ?_
    have I1 : Inv X pins σ H { s with heap := h' } := I.turned (t' := s.toks) (fun b o hb e => (sb.2 b hb).trans e) f0 f1 f3 f4 f5
    obtain ⟨o, e, c, d⟩ := id st'
    exact ⟨u, rfl, go_of (s := { s with heap := h' }) e c d (by decide) ⟨x, H, I1, ru, ⟨rfl, fun ys hy => by rw [I.list_inj hy hq]; exact hx⟩, st', fun b hb => (hf b hb).1⟩⟩
  done := by
    intro X hP hw hK hc i pins s σ H E I hf st hg
    subst hP hw hK
    obtain ⟨xs, hq, hx⟩ := hg
    obtain ⟨its, rv, p, hz⟩ := I.list hq
    obtain ⟨f0, f1, f2, f3, f4, f5⟩ := hf it (by simp)
    have hl := rv.length
    exact next_list_end_h (hc.hdl I) st p.isList (by simp; omega) fun h' eb => ⟨rfl, I.turned (t' := s.toks) (fun b o hb e => eb b o hb e) f0 f1 f3 f4 f5⟩
  self := (turn_list (P := P) (w := w) (K := K) (tg := tg) a it).self
section
variable {X : Cx} {tg : Expr}
theorem pi_listH {l : Expr} {tl : TE} (hl : PE X l tl) : PIP Hd X tg l (iList X.K tl) := by
  intro pins s σ H R I h
  refine thn (hl pins s σ H _ I h) fun v s1 ⟨x, H1, I1, r1, q1⟩ => ?_
  obtain ⟨a, e, ⟨xs, hq⟩, q⟩ := q1
  subst e
  cases r1
  obtain ⟨its, rv, p, hz⟩ := I1.list hq
  refine wpAny_pyIter_list p.isList ?_
  refine ⟨s1.heap.objs.size, [s1.heap.objs.size], _, _, H1, rfl, I1.kept (t' := s1.toks) fun b o e => Heap.get?_push_of_some _ e, turn_listH a _, ⟨_, Heap.get?_push_size _ rfl, rfl, rfl⟩, fun b hb => ?_, q⟩
  have e : b = s1.heap.objs.size := by simpa using hb
  subst e
  exact I1.fpOk (Nat.le_refl _) (I1.hok.fresh (Nat.le_refl _))
theorem pg_tupH {pos : Pos} {es : List Expr} {k : Nat} {t : TGs} {n : Nat} (hd : Hd X) (h : PGs X es t)
    (hn : (assignEach es X.env).length = n := by rfl) (hst : (assignEach es X.env).findIdx? (·.1) = none := by rfl) : PG X (.Tuple es k pos) (gTup X.K n t) := by
  intro pins s σ H v u Q I r hw
  obtain ⟨a, xs, e1, hq, hl, hw⟩ := hw
  subst e1
  cases r
  obtain ⟨its, rv, ht, hz⟩ := I.tuple hq
  refine assign_Tuple_tuple_h (hd.hdl I) ht (by simp [hn, ← hl, rv.length]) hst fun h' hx => ?_
  have I1 : Inv X pins σ H { s with heap := h' } := I.kept (t' := s.toks) fun b o e => hx b o (Nat.ne_of_lt (Heap.lt_size e)) e
  exact h pins _ σ H xs _ Q I1 (by simpa using rv) hw
theorem tgt_twoH {scope : Scope} {fv : List (Str × Nat)} {x y : Str} {px py pos : Pos} {k : Nat} (hx : scope.names.lookup x = some .local) (hy : scope.names.lookup y = some .local) (hnd : (x :: y :: fv.map (·.1)).Nodup) : TgtOkP (HdAt X.A) X scope [x, y] fv (.Tuple [.Name x px, .Name y py] k pos) (some 2) := by
  intro ex C s H hH
  generalize eX : compCx X scope ([x, y] ++ fv.map (·.1)) ex C s H = Xc
  have xN : Xc.N = x :: y :: fv.map (·.1) := by rw [← eX]; rfl
  have xd : Hd Xc := by rw [← eX]; exact hH
  have lx : Xc.env.scope.names.lookup x = some .local := by rw [← eX]; exact lookup_relabel_local hx
  have ly : Xc.env.scope.names.lookup y = some .local := by rw [← eX]; exact lookup_relabel_local hy
  have p1 : PG Xc (.Name x px) (gName 0) := pg_name (by rw [xN]; exact hnd) (by rw [xN]; rfl) (.inl lx) (.inr lx)
  have p2 : PG Xc (.Name y py) (gName 1) := pg_name (by rw [xN]; exact hnd) (by rw [xN]; rfl) (.inl ly) (.inr ly)
  have xK : Xc.K = X.K := by rw [← eX]; rfl
  refine ⟨gTup Xc.K 2 (gCons (gName 0) (gCons (gName 1) gNil)), pg_tupH xd (pgs_cons p1 (pgs_cons p2 pgs_nil)), fun v pre φ H' Q hp h => ?_⟩
  obtain ⟨a, b, rfl⟩ : ∃ a b, pre = [a, b] := by
    match pre, hp with
    | [a, b], _ => exact ⟨a, b, rfl⟩
  obtain ⟨a', xs, rfl, e2, e3, q⟩ := h
  obtain ⟨v1, v2, rfl⟩ : ∃ v1 v2, xs = [v1, v2] := by
    match xs, e3 with
    | [v1, v2], _ => exact ⟨v1, v2, rfl⟩
  exact ⟨a', _, rfl, by rw [xK]; exact e2, rfl, v1, _, rfl, v2, _, rfl, rfl, q rfl⟩
theorem hd_comp {X : Cx} : ∀ H, HdAt X.A H → ∀ Xc : Cx, Xc.A = X.A → Xc.calm = X.calm → Xc.H₀ = H → Hd Xc := fun H h Xc a _ b => by
  show HdAt Xc.A Xc.H₀
  rw [a, b]; exact h
/-- isinstance(e, C) of a caught exception -/
theorem call_isx : CallR X (.builtin "isinstance") (rIsx X.K) := by
  intro pins s σ H xs us Q I r h
  match xs, h with
  | [.ref ea, c], h =>
    obtain ⟨D, b, ⟨ob, vs, h1, h2⟩, hC, hc, hk, hq⟩ := h
    cases r with
    | cons r1 r =>
      cases r with
      | cons r2 r =>
        cases r
        rename_i u1 u2
        cases (show u1 = Value.ref ea from r1)
        have e2 : u2 = cV c := by
          rcases hc with ⟨C, rfl⟩ | ⟨n, rfl⟩
          · exact r2
          · exact r2
        subst e2
        have at_ := (I.hok ea _ h1).1
        have inst : PySem.W.InstAt s.heap ea ob D none := ⟨at_, h2.cls, by unfold PySem.W.notCls; rw [h2.data], by rw [h2.dict]; trivial⟩
        exact PySem.W.kia_one (kitx_exc hC.hga hC.hgn hC.hk hC.ha hC.hn hC.htk hC.hm hC.hb) I.kIn inst hk (fun z => nomatch z) fun tk => ⟨.bl b, H, I.tok tk, rfl, hq⟩
end
structure RoomH (k : Nat) (A : Around) : Prop where
  dp : A.depth + 3 * k + 5 < recursionLimit
  un : A.units + 16 * k + 200 < cLine
theorem Room.h {k : Nat} {A : Around} (r : Room k A) : RoomH k A := ⟨r.dp, r.un⟩
theorem RoomH.mark {k : Nat} {A : Around} (r : RoomH k A) (v : Option Value) : RoomH k (A.mark v) := ⟨r.dp, r.un⟩
theorem RoomH.deeper {k : Nat} {A : Around} (r : RoomH (k + 1) A) (env : Env) : RoomH k (A.deeper env) :=
  ⟨by have := r.dp; show A.depth + 1 + 3 * k + 5 < _; omega, by have := r.un; show A.units + 3 + 16 * k + 200 < _; omega⟩
theorem RoomH.depth {k : Nat} {A : Around} (r : RoomH k A) : A.depth < recursionLimit := by have := r.dp; omega
theorem RoomH.units {k : Nat} {A : Around} (r : RoomH k A) : A.units + 64 < cLine := by have := r.un; omega
def CRH (outer : List Env) (P : Program) (w : World) (H : Hp) (s : Shared) (Q : VK) (r : Result) (s' : Shared) : Prop :=
  match r with
  | .ok (.ret u) => CE outer P w H s Q u s'
  | _ => False
structure FnOkH (P : Program) (w : World) (K : PySem.W.Frag) (mg : Str → Option Value) (base : Heap) (k : Nat) (f : Addr) (fd : FuncData) (ps : List Str) (sp : Sp) : Prop where
  len : ∀ vs H Q E, sp vs H Q E → vs.length = ps.length
  run : ∀ (A : Around) (outer : List Env) (s : Shared) (H : Hp) (args : Args) (us : List Value) (vs : List V) (Q : VK), RoomH k A → HdAt A H → Env0 P w K mg base A outer s H → BindsTo s fd args (ps.zip us) → Vals vs us → sp vs H Q E0 →
    codeAny (model P w) A (.call (.ref f) args) (CRH outer P w H s Q) s
theorem FnOkH.mono {P : Program} {w : World} {K : PySem.W.Frag} {mg : Str → Option Value} {base : Heap} {j k : Nat} {f : Addr} {fd : FuncData} {ps : List Str} {sp : Sp} (F : FnOkH P w K mg base j f fd ps sp) (h : j ≤ k) : FnOkH P w K mg base k f fd ps sp :=
  ⟨F.len, fun A outer s H args us vs Q hr => F.run A outer s H args us vs Q ⟨by have := hr.dp; omega, by have := hr.un; omega⟩⟩
/-- the context of such a def's body -/
def cxOfH (CX : CXT) (P : Program) (w : World) (K : PySem.W.Frag) (mg : Str → Option Value) (base : Heap) (N : List Str) (qual : Str) (scope : Scope) (f : Addr) (cd : Value) (A : Around) (outer : List Env) (s : Shared) (H : Hp) : Cx :=
  (cxOf CX P w K mg base N qual scope f cd { A with handled := none } outer s H E0).alt (A.deeper (envOfC qual scope s.heap.objs.size f cd)) false [] fun _ _ => False
theorem fn_ofH {CX : CXT} {P : Program} {w : World} {K : PySem.W.Frag} {mg : Str → Option Value} {base : Heap} {k : Nat} {f : Addr} {name qual : Str} {params : Arguments} {body : List Stmt} {scope : Scope} {dV kV doc pm cdv ct oc : Value} {an od : Option Addr}
    {osl : Array (Option Value)} {N ps : List Str} {sp : Sp} (lk : K.lookup f = some ⟨oc, od, .func (PySem.W.fnOf name qual params body scope dV kV doc pm an cdv ct), osl⟩) (hcd : PySem.W.codeIn K cdv qual = true) (S : FnScope N ps scope)
    (len : ∀ vs H Q E, sp vs H Q E → vs.length = ps.length)
    (hbody : ∀ (A : Around) (outer : List Env) (s : Shared) (H : Hp) (vs : List V) (Q : VK), RoomH k (A.deeper (envOfC qual scope s.heap.objs.size f cdv)) → HdAt A H → sp vs H Q E0 →
      ∃ t, PSs (cxOfH CX P w K mg base N qual scope f cdv A outer s H) body t ∧ t { nx := fun _ H' => Q .non H', rt := Q } (start N vs) H) :
    FnOkH P w K mg base (k + 1) f (PySem.W.fnOf name qual params body scope dV kV doc pm an cdv ct) ps sp := by
  refine ⟨len, fun A outer s H args us vs Q hr hh e0 hb r hsp => ?_⟩
  have hl := len _ _ _ _ hsp
  have KX : K.In s.heap := e0.mod.kin.keeps fun b o e => (e0.bs b o e).1
  have lim : s.heap.NoLimit := e0.mod.nolimit.keeps fun b o e => (e0.bs b o e).1
  have hkind : ∀ y ∈ ps.zip us, scope.names.lookup y.1 = some .local ∨ (scope.names.lookup y.1 = some .cell ∧ ((cellsFrom (s.heap.objs.size + 1) scope.names []).lookup y.1).isSome = true) := fun ⟨n, v⟩ hy => by
    rcases S.par n (List.of_mem_zip hy).1 with q | q
    · exact .inl q
    · exact .inr ⟨q, PySem.W.cellsFrom_some _ _ _ (.inl q)⟩
  refine codeAny_call_function hr.depth (KX _ _ lk) rfl S.co S.gen rfl (PySem.W.codeRec_of KX hcd) (hb _ _ _ _ ?_)
  refine wpAny_newFunctionEnv_cells S.kind hkind fun env he s1 x => ?_
  subst he
  refine ⟨lim.keeps x.toInCall.keep, codeAny_func ?_⟩
  obtain ⟨t, ht, hq⟩ := hbody A outer s H vs Q (hr.deeper _) hh hsp
  have e00 : Env0 P w K mg base { A with handled := none } outer s H := ⟨e0.frames, e0.mod, e0.bs, e0.bsz, e0.funs, e0.frf, e0.hok, e0.bare⟩
  have I0 : Inv (cxOf CX P w K mg base N qual scope f cdv { A with handled := none } outer s H E0) [] (start N vs) H s1 := inv_start S rfl e00 hl r x
  have I : Inv (cxOfH CX P w K mg base N qual scope f cdv A outer s H) [] (start N vs) H s1 := I0.alt rfl (fun z => nomatch z) (fun p hp => hp)
  refine wpAny_mono (ht [] s1 (start N vs) H _ I hq) (fun fl s' hs => ?_) fun e s' hs => hs.elim
  have fin : ∀ {σ' : St} {H' : Hp} {v : V} {u : Value}, Inv (cxOfH CX P w K mg base N qual scope f cdv A outer s H) [] σ' H' s' → RelV v u → Q v H' → CE outer P w H s Q u s' :=
    fun {σ' H' v u} J rv q => ⟨v, H', J.os, J.bare, J.base, J.hok, rv, q⟩
  cases fl with
  | ret u =>
    obtain ⟨v, σ', H', J, rv, q⟩ := hs
    exact fin J rv q
  | next =>
    obtain ⟨σ', H', J, q⟩ := hs
    exact fin (v := V.non) (u := Value.none) J rfl q
  | brk =>
    obtain ⟨_, _, _, q⟩ := hs
    exact False.elim q
  | cont =>
    obtain ⟨_, _, _, q⟩ := hs
    exact False.elim q
theorem hd_cxOfH {CX : CXT} {P : Program} {w : World} {K : PySem.W.Frag} {mg : Str → Option Value} {base : Heap} {N : List Str} {qual : Str} {scope : Scope} {f : Addr} {cd : Value} {A : Around} {outer : List Env} {s : Shared} {H : Hp} (h : HdAt A H) : Hd (cxOfH CX P w K mg base N qual scope f cd A outer s H) := h
section
variable {X : Cx} {k : Nat} {f : Addr} {fd : FuncData} {ps : List Str} {sp : Sp} {x : Str} {p pos : Pos} {e : Expr} {ta : TE} {hv : Option Addr}
theorem pe_callH (F : FnOkH X.prog X.w X.K X.mg X.base k f fd ps sp) (hr : RoomH k X.A) (hg : Gl X x) (hm : X.mg x = some (.ref f)) (hk : PySem.W.keepIn X.K (.ref f) = true) (hb : Binds X.K fd ps []) (hh : ∀ e, hv = some e → X.A.handled = some (.ref e))
    (ha : PE X e ta) (hs : noStar e = true) (hdb : (x == ("__debug__" : Str)) = false) : PE X (.Call (.Name x p) [e] [] pos) (tWrd sp hv (tCons ta tNil)) := by
  intro pins s σ H Q I h
  have he : starEach [e] X.env = (false, eval e X.env) :: starEach [] X.env := by cases e <;> first | rfl | cases hs
  refine wpAny_Call_Name_kw (ld_glob I hg hm ?_ hdb)
  have hA : PA X [e] (tCons ta tNil) := pa_cons ha pa_nil he
  refine PySem.W.callWith_K (h₀ := X.base) I.ok.mod.kin hk (thn (hA pos pins s σ H _ I h) fun us s1 ⟨vs, H1, I1, r, ⟨ea, D, h1, h2⟩, q⟩ => ⟨I1.kIn, ?_⟩) he rfl
  have r2 : Vals vs us := r
  have hl : us.length = ps.length := by rw [← r2.length]; exact F.len _ _ _ _ q
  have hb' := hb s1 us I1.kIn (by rw [List.append_nil]; exact hl)
  rw [List.append_nil] at hb'
  refine wpAny_call (codeAny_mono (F.run X.A X.stack s1 H1 ⟨us, []⟩ us vs Q hr ⟨ea, D, hh ea h1, h2⟩ I1.env0 hb' r2 q) fun r s' hq => ?_)
  cases r with
  | error e => exact False.elim hq
  | ok fl =>
    cases fl with
    | ret u => exact I1.after hq
    | next => exact False.elim hq
    | brk => exact False.elim hq
    | cont => exact False.elim hq
end
end L2
set_option maxRecDepth 100000
set_option maxHeartbeats 4000000
namespace L2
open PySem PySem.Spec PyProof.Rows
def FnFor (CX : CXT) (X : Cx) (x : Str) (sp : Sp) : Prop :=
  ∃ k f fd ps, FnOk X.prog X.w X.K X.mg X.base CX k f fd ps sp ∧ Room k X.A ∧ X.mg x = some (.ref f) ∧ PySem.W.keepIn X.K (.ref f) = true ∧ Binds X.K fd ps []
def MtFor (CX : CXT) (X : Cx) (C : Addr) (m : Str) (sp : Sp) : Prop :=
  Cls X.K C ∧ ∃ k f fd ps, Meth X.K C m f ∧ FnOk X.prog X.w X.K X.mg X.base CX k f fd ps sp ∧ Room k X.A ∧ Binds X.K fd ps []
def MkFor (CX : CXT) (X : Cx) (x : Str) (C : Addr) (sp : Sp) : Prop :=
  ∃ k f fd ps, Mk X.K C f ∧ FnOk X.prog X.w X.K X.mg X.base CX k f fd ps sp ∧ Room (k + 1) X.A ∧ X.mg x = some (.ref C) ∧ Binds X.K fd ps []
def FnForH (X : Cx) (x : Str) (sp : Sp) : Prop :=
  ∃ k f fd ps, FnOkH X.prog X.w X.K X.mg X.base k f fd ps sp ∧ RoomH k X.A ∧ X.mg x = some (.ref f) ∧ PySem.W.keepIn X.K (.ref f) = true ∧ Binds X.K fd ps []
def ExFor (X : Cx) (x : Str) (C : Addr) : Prop := ∃ bm B newId initId, OwnCls x C bm newId X.mg X.base ∧ ExcBaseFacts B newId initId bm
structure Good (CX : CXT) (S : SCx) (Γ : RCx) (X : Cx) : Prop where
  N : X.N = S.N
  sc : X.env.scope = S.sc
  K : X.K = Γ.K
  calm : S.md = 0 → X.calm = true
  units : X.A.units + 64 < cLine
  fns : S.md = 0 → ∀ j x, S.fn[j]? = some x → FnFor CX X x (Γ.fs j)
  gvs : ∀ j x, S.gn[j]? = some x → ∃ u, X.mg x = some u ∧ RelV (Γ.gv j) u
  bls : ∀ x, S.bl.contains x = true → X.mg x = none
  pass : Passes CX X Γ.E
  noE : ∀ outer H s e s', CX outer H s E0 e s' → False
  sds : ∀ p kvs, Γ.sd p kvs → ∀ h : Heap, X.K.In h → ∃ vs, KV kvs vs ∧ h.DictOf (mixKind X.prog X.w) p vs
  mts : S.md = 0 → ∀ j m, S.mn[j]? = some m → MtFor CX X (Γ.ms j).1 m (Γ.ms j).2
  mks : S.md = 0 → ∀ j x, S.kn[j]? = some x → MkFor CX X x (Γ.kt j).1 (Γ.kt j).2
  exs : ∀ j x, S.en[j]? = some x → ExFor X x (Γ.ex j)
  hsf : ∀ j x, S.hn[j]? = some x → FnForH X x (Γ.hs j)
  hvo : ∀ e, Γ.hv = some e → X.A.handled = some (.ref e)
  hdo : S.md = 1 → Hd X
theorem md_zero {S : SCx} (h : (if S.md = 0 then 0 else 2) = 0) : S.md = 0 := by
  split at h
  · assumption
  · cases h
section
variable {CX : CXT} {S : SCx} {Γ : RCx} {X : Cx}
theorem Good.inner (G : Good CX S Γ X) (c : CompP) (ln : List Str) (fv : List (Str × Nat)) (ex : List Addr) (C : Addr) (s : Shared) (H : Hp) :
    Good CX (compS S c ln fv) Γ.calm (compCx X c.sc (ln ++ fv.map (·.1)) ex C s H) where
  N := rfl
  sc := by
    show relabel c.sc X.env = relabelS c.sc S.sc
    rw [← G.sc]; rfl
  K := G.K
  calm := fun h => G.calm (md_zero h)
  units := G.units
  fns := fun m j x h => G.fns (md_zero m) j x h
  gvs := G.gvs
  bls := G.bls
  pass := fun _ _ _ _ _ _ _ h => (G.noE _ _ _ _ _ h).elim
  noE := G.noE
  sds := G.sds
  mts := fun z j m h => G.mts (md_zero z) j m h
  mks := fun z j x h => G.mks (md_zero z) j x h
  exs := fun j x h => by simp [compS] at h
  hsf := fun j x h => G.hsf j x h
  hvo := fun e h => G.hvo e h
  hdo := fun h => by
    have h' : (if S.md = 0 then 0 else 2) = 1 := h
    split at h' <;> cases h'
theorem Good.gl (G : Good CX S Γ X) {x : Str} (h : glo S.sc x = true) : Gl X x := by
  show X.env.scope.names.lookup x = _
  rw [G.sc]; exact glo_of h
theorem star_cons {e : Expr} {es : List Expr} {env : Env} (h : noStar e = true) : starEach (e :: es) env = (false, eval e env) :: starEach es env := by
  cases e <;> first | rfl | cases h
theorem base_of {o : Expr} {x : Str} {env : Env} (h : noSuper o = true) : attributeBase o x env (eval o env) = eval o env := by
  unfold attributeBase
  split
  · cases h
  · rfl
theorem set_of {e : Expr} {env : Env} (h : noSet e = true) : ∀ x, foldedSetIterable e env x = pure x := by
  intro x
  cases e <;> first | rfl | cases h
def nst (es : List Expr) : Bool := es.all noStar
theorem stars_of (env : Env) (pos : Pos) : ∀ (es : List Expr), nst es = true → (backTo pos (starEach es env)).any (·.1) = false
  | [], h => rfl
  | e :: es, h => by
    simp only [nst, List.all_cons, Bool.and_eq_true] at h
    rw [star_cons h.1]
    have ih := stars_of env pos es h.2
    show (false || (backTo pos (starEach es env)).any (·.1)) = false
    rw [ih]; rfl
theorem few_of (env : Env) (pos : Pos) : ∀ (es : List Expr), nst es = true → (backTo pos (starEach es env)).all (fun x => !x.1) = true
  | [], h => rfl
  | e :: es, h => by
    simp only [nst, List.all_cons, Bool.and_eq_true] at h
    rw [star_cons h.1]
    have ih := few_of env pos es h.2
    show (!false && (backTo pos (starEach es env)).all (fun x => !x.1)) = true
    rw [ih]; rfl
theorem nst_cons {e : Expr} {es : List Expr} (h : nst (e :: es) = true) : noStar e = true ∧ nst es = true := by
  simp only [nst, List.all_cons, Bool.and_eq_true] at h
  exact h
theorem CompB_ok (G : Good CX S Γ X) {c : CompP} {ln : List Str} {fv : List (Str × Nat)} (h : compB S c ln fv = true) :
    CompOk X c.sc ln fv ∧ (∀ x ∈ ln, c.sc.names.lookup x = some .local) ∧ (ln ++ fv.map (·.1)).Nodup ∧ noSet c.iter = true := by
  simp only [compB, Bool.and_eq_true, decide_eq_true_eq, List.all_eq_true, Bool.or_eq_true] at h
  obtain ⟨⟨⟨⟨⟨⟨⟨h1, h2⟩, h3⟩, h4⟩, h5⟩, h6⟩, h7⟩, h8⟩ := h
  refine ⟨⟨h1, fun y hy => h2 y hy, fun y hy hl => ?_, fun y hy hf => ?_, fun p hp => ?_⟩, h6, h7, h8⟩
  · rcases h3 y hy with z | z
    · exact absurd hl z
    · exact z
  · show X.env.scope.names.lookup y.1 = _ ∨ X.env.scope.names.lookup y.1 = _
    rw [G.sc]
    rcases h4 y hy with (z | z) | z
    · exact absurd hf z
    · exact .inl z
    · exact .inr z
  · rw [G.N]; exact h5 p hp
theorem tgt_ok (hc : X.calm = true) {c : CompP} {tk : Option Nat} {ln : List Str} {fv : List (Str × Nat)} (h : tgNames tk c.tg = some ln) (hl : ∀ x ∈ ln, c.sc.names.lookup x = some .local) (hn : (ln ++ fv.map (·.1)).Nodup) :
    TgtOk X c.sc ln fv c.tg tk := by
  unfold tgNames at h
  split at h
  · rename_i x p he
    cases h
    rw [he]
    exact tgt_name (hl x (by simp)) hn
  · rename_i x p y q k pos he
    cases h
    rw [he]
    exact tgt_two hc (hl x (by simp)) (hl y (by simp)) hn
  · cases h
theorem rBlt_int {xs : List V} {H : Hp} {Q : VK} {K : PySem.W.Frag} (h : rBlt K .int xs H Q) : (∃ i, xs = [.int i] ∧ Q (.int i) H) ∨ ∃ k, xs = [.bl k] ∧ Q (.int (if k then 1 else 0)) H := by
  match xs, h with
  | [.int i], h => exact .inl ⟨i, rfl, h⟩
  | [.bl k], h => exact .inr ⟨k, rfl, h⟩
theorem lenV_of {K : PySem.W.Frag} {x : V} {H : Hp} {Q : Nat → Prop} (h : lenV K x H Q) : ∃ n, LenV K x H n ∧ Q n := by
  match x, h with
  | .str y, h => exact ⟨_, ⟨h.1, rfl⟩, h.2⟩
  | .ref p, .inl ⟨xs, a, b⟩ => exact ⟨_, .inl ⟨xs, a, rfl⟩, b⟩
  | .ref p, .inr ⟨xs, a, b⟩ => exact ⟨_, .inr ⟨xs, a, rfl⟩, b⟩
/-! ### what stands for each built-in name -/
inductive BltIs (X : Cx) (b : Blt) : Prop where
  | fn (id : String) (hv : bootBuiltins b.nm = some (.builtin id)) (hc : CallR X (.builtin id) (rBlt X.K b))
  | ty (T : String) (hv : bootBuiltins b.nm = some (.type T)) (hc : CallR X (.type T) (rBlt X.K b))
theorem boot_min : bootBuiltins "min" = some (.builtin "min") := by decide +kernel
theorem boot_max : bootBuiltins "max" = some (.builtin "max") := by decide +kernel
theorem boot_abs : bootBuiltins "abs" = some (.builtin "abs") := by decide +kernel
theorem boot_sum : bootBuiltins "sum" = some (.builtin "sum") := by decide +kernel
theorem boot_isi : bootBuiltins "isinstance" = some (.builtin "isinstance") := by decide +kernel
theorem boot_intT : bootBuiltins "int" = some (.type "int") := by decide +kernel
theorem boot_listT : bootBuiltins "list" = some (.type "list") := by decide +kernel
theorem boot_tupleT : bootBuiltins "tuple" = some (.type "tuple") := by decide +kernel
theorem best_le (f : Nat → Int) (lt : Nat → Nat → Bool) (h : ∀ i j, lt i j = decide (f i < f j)) : ∀ n, argBest lt n ≤ n ∧ ∀ i, i ≤ n → f (argBest lt n) ≤ f i
  | 0 => ⟨Nat.le_refl _, fun i hi => by
      obtain rfl : i = 0 := by omega
      exact Int.le_refl _⟩
  | n + 1 => by
    obtain ⟨a, b⟩ := best_le f lt h n
    have e : argBest lt (n + 1) = if lt (n + 1) (argBest lt n) = true then n + 1 else argBest lt n := rfl
    rw [e, h]
    split
    · rename_i q
      have q := of_decide_eq_true q
      refine ⟨Nat.le_refl _, fun i hi => ?_⟩
      by_cases z : i = n + 1
      · rw [z]; exact Int.le_refl _
      · have := b i (by omega); omega
    · rename_i q
      have q : ¬ f (n + 1) < f (argBest lt n) := fun z => q (decide_eq_true z)
      refine ⟨by omega, fun i hi => ?_⟩
      by_cases z : i = n + 1
      · rw [z]; omega
      · exact b i (by omega)
theorem num_at {xs : Array (Int × Tok)} {i : Nat} (h : i < xs.size) : numAt xs i = xs[i].1 := by
  unfold numAt
  rw [Array.getElem?_eq_getElem h]; rfl
theorem num_mem {xs : Array (Int × Tok)} {i : Nat} (h : i < xs.size) : numAt xs i ∈ xs.toList.map (·.1) := by
  rw [num_at h]
  exact List.mem_map.mpr ⟨xs[i], by simp, rfl⟩
theorem mem_num {xs : Array (Int × Tok)} {n : Int} (h : n ∈ xs.toList.map (·.1)) : ∃ i, i < xs.size ∧ n = numAt xs i := by
  obtain ⟨y, hy, rfl⟩ := List.mem_map.mp h
  obtain ⟨i, hi, rfl⟩ := List.getElem_of_mem hy
  have hi' : i < xs.size := by simpa using hi
  exact ⟨i, hi', by rw [num_at hi']; simp⟩
theorem items_of {pins : List (Addr × Obj)} {σ : St} {H : Hp} {s : Shared} {p : Addr} {ns : List Int} (I : Inv X pins σ H s) (hq : SqL X.K H p (ns.map V.int)) : ∃ xs : Array (Int × Tok), s.heap.IsList p (intItems xs) ∧ ns = xs.toList.map (·.1) := by
  obtain ⟨its, rv, pl, hz⟩ := I.list hq
  have hi := intsAre_of rv
  obtain ⟨xs, hx⟩ := hi.allInts.items
  refine ⟨xs, hx ▸ pl.isList, ?_⟩
  rw [← nums_intItems, ← hx]
  exact (show numsOf its.toArray.toList = ns from hi.numsOf).symm
theorem call_minL (hc : X.calm = true) : CallR X (.builtin "min") (fun xs H Q => ∃ (p : Addr) (ns : List Int), xs = [.ref p] ∧ SqL X.K H p (ns.map V.int) ∧ ns ≠ [] ∧ ∀ m : Int, m ∈ ns → (∀ n ∈ ns, m ≤ n) → Q (.int m) H) := by
  intro pins s σ H xs us Q I r h
  obtain ⟨p, ns, rfl, hq, hne, q⟩ := h
  obtain ⟨u, rfl, ru⟩ := vals1 r
  cases ru
  obtain ⟨xs, hl, rfl⟩ := items_of I hq
  have sz : 0 < xs.size := Nat.pos_of_ne_zero fun z => hne (by rw [Array.eq_empty_of_size_eq_zero z]; rfl)
  refine min_intList (I.ok.hd hc) hl sz fun v h' tk hv hk => ?_
  obtain ⟨t, rfl⟩ := intItems_at hv
  obtain ⟨b1, b2⟩ := best_le (numAt xs) (fun i j => decide (numAt xs i < numAt xs j)) (fun _ _ => rfl) (xs.size - 1)
  refine ⟨.int _, H, I.kept (t' := tk) hk, ⟨t, rfl⟩, q _ (num_mem (by omega)) fun n hn => ?_⟩
  obtain ⟨i, hi, rfl⟩ := mem_num hn
  exact b2 i (by omega)
theorem call_maxL (hc : X.calm = true) : CallR X (.builtin "max") (fun xs H Q => ∃ (p : Addr) (ns : List Int), xs = [.ref p] ∧ SqL X.K H p (ns.map V.int) ∧ ns ≠ [] ∧ ∀ m : Int, m ∈ ns → (∀ n ∈ ns, n ≤ m) → Q (.int m) H) := by
  intro pins s σ H xs us Q I r h
  obtain ⟨p, ns, rfl, hq, hne, q⟩ := h
  obtain ⟨u, rfl, ru⟩ := vals1 r
  cases ru
  obtain ⟨xs, hl, rfl⟩ := items_of I hq
  have sz : 0 < xs.size := Nat.pos_of_ne_zero fun z => hne (by rw [Array.eq_empty_of_size_eq_zero z]; rfl)
  refine max_intList (I.ok.hd hc) hl sz fun v h' tk hv hk => ?_
  obtain ⟨t, rfl⟩ := intItems_at hv
  obtain ⟨b1, b2⟩ := best_le (fun i => - numAt xs i) (fun i j => decide (numAt xs i > numAt xs j)) (fun i j => decide_eq_decide.mpr (by omega)) (xs.size - 1)
  refine ⟨.int _, H, I.kept (t' := tk) hk, ⟨t, rfl⟩, q _ (num_mem (by omega)) fun n hn => ?_⟩
  obtain ⟨i, hi, rfl⟩ := mem_num hn
  have := b2 i (by omega)
  omega
theorem signs_vals {x : Str} {acc : Array Value} (h : ItemsOf (SignAt x) acc x.cps.size) : Vals (signs x) acc.toList := by
  have go : ∀ (l : List Nat) (us : List Value), us.length = l.length → (∀ (j : Nat) (v : Value), us[j]? = some v → ∃ (c : Nat) (t : Tok), l[j]? = some c ∧ v = Value.str ⟨#[c]⟩ t) → Vals (l.map fun c => V.str ⟨#[c]⟩) us := by
    intro l
    induction l with
    | nil =>
      intro us hl _
      rw [List.length_eq_zero_iff.mp hl]
      exact .nil
    | cons c l ih =>
      intro us hl hv
      cases us with
      | nil => cases hl
      | cons u us =>
        obtain ⟨c', t, e1, e2⟩ := hv 0 u rfl
        have e1' : c = c' := by simpa using e1
        subst e1'
        exact .cons ⟨t, e2⟩ (ih us (by simpa using hl) fun j v hj => by
          obtain ⟨c2, t2, g1, g2⟩ := hv (j + 1) v (by simpa using hj)
          exact ⟨c2, t2, by simpa using g1, g2⟩)
  refine go x.cps.toList acc.toList ?_ fun j v hj => ?_
  · have := h.1; simpa using this
  · obtain ⟨c, t, e1, e2⟩ := h.2 j v (by simpa using hj)
    exact ⟨c, t, by simpa using e1, e2⟩
theorem signs_len (x : Str) : (signs x).length = x.length := by simp [signs, Str.length]
theorem call_list_strV (hc : X.calm = true) : CallR X (.type "list") (fun xs H Q => ∃ x, xs = [.str x] ∧ x.length ≤ sizeLine ∧ ∀ l, H l = none → Q (.ref l) (upd H l (.lst (signs x)))) := by
  intro pins s σ H xs us Q I r h
  obtain ⟨x, rfl, hx, q⟩ := h
  obtain ⟨u, rfl, t, rfl⟩ := vals1 r
  refine call_list_str (I.ok.hd hc) x t (fun h' tk acc' c' hk e hacc => ?_) hx
  have rv := signs_vals hacc
  exact ⟨.ref s.heap.objs.size, _, I.laid (t' := tk) hk (Nat.le_refl _) (show ObjOk X.prog X.w _ h' _ (.lst (signs x)) from ⟨by rw [signs_len]; exact hx, acc'.toList, c', rv, by simpa using e⟩), rfl, q _ (I.hok.fresh (Nat.le_refl _))⟩
theorem call_tuple_strV (hc : X.calm = true) : CallR X (.type "tuple") (fun xs H Q => ∃ x, xs = [.str x] ∧ x.length ≤ sizeLine ∧ ∀ l, H l = none → Q (.ref l) (upd H l (.tup (signs x)))) := by
  intro pins s σ H xs us Q I r h
  obtain ⟨x, rfl, hx, q⟩ := h
  obtain ⟨u, rfl, t, rfl⟩ := vals1 r
  refine call_tuple_str (I.ok.hd hc) x t (fun h' tk acc hk hacc => ?_) hx
  have rv := signs_vals hacc
  have I1 : Inv X pins σ H { s with heap := h', toks := tk } := I.kept (t' := tk) hk
  have I2 : Inv X pins σ (upd H h'.objs.size (.tup (signs x))) { s with heap := h'.push { cls := .type "tuple", data := .seq acc }, toks := tk } :=
    I1.laid (t' := tk) (fun b o e => Heap.get?_push_of_some _ e) (Nat.le_refl _) (show ObjOk X.prog X.w _ _ _ (.tup (signs x)) from ⟨by rw [signs_len]; exact hx, acc.toList, rv, by simpa using IsTup.new _ _⟩)
  exact ⟨.ref h'.objs.size, _, I2, rfl, q _ (I1.hok.fresh (Nat.le_refl _))⟩
/-- {} -/
theorem pe_newD {pos : Pos} : PE X (.Dict [] [] pos) tNewD := fun pins s σ H Q I h => by
  have big : sysModules < s.heap.objs.size := Nat.lt_trans (by decide) (I.mod.glob.keeps I.bk).lt
  have ok : ObjOk X.prog X.w (upd H s.heap.objs.size (.dK [])) (s.heap.push { cls := .type "dict", data := .dict #[] }) s.heap.objs.size (.dK []) :=
    ⟨Nat.zero_le _, beq_eq_false_iff_ne.mpr (Ne.symm (Nat.ne_of_lt big)), [], .nil, Heap.DictOf.new s.heap⟩
  exact wpAny_Dict_empty ⟨.ref s.heap.objs.size, _, I.laid (t' := s.toks) (fun _ _ q => Heap.get?_push_of_some _ q) (Nat.le_refl _) ok, rfl, h _ (I.hok.fresh (Nat.le_refl _))⟩
theorem blt_is (hc : X.calm = true) (b : Blt) : BltIs X b := by
  cases b with
  | len => exact .fn "len" boot_len (CallR.imp call_len fun xs H Q h => by
      match xs, h with
      | [x], h => obtain ⟨n, h1, h2⟩ := lenV_of (Q := fun n => Q (.int n) H) h; exact ⟨x, n, rfl, h1, h2⟩)
  | min => exact .fn "min" boot_min (CallR.imp ((call_min2 hc).or (call_minL hc)) fun xs H Q h => by
      match xs, h with
      | [.int i, .int j], h => exact .inl ⟨i, j, rfl, h⟩
      | [.ref p], ⟨ns, h1, h2, h3⟩ => exact .inr ⟨p, ns, rfl, h1, h2, h3⟩)
  | max => exact .fn "max" boot_max (CallR.imp ((call_max2 hc).or (call_maxL hc)) fun xs H Q h => by
      match xs, h with
      | [.int i, .int j], h => exact .inl ⟨i, j, rfl, h⟩
      | [.ref p], ⟨ns, h1, h2, h3⟩ => exact .inr ⟨p, ns, rfl, h1, h2, h3⟩)
  | sum => exact .fn "sum" boot_sum (CallR.imp (call_sumI hc) fun xs H Q h => by
      match xs, h with
      | [.ref p], ⟨ns, h1, h2⟩ => exact ⟨p, ns, rfl, h1, h2⟩)
  | abs => exact .fn "abs" boot_abs (CallR.imp call_abs fun xs H Q h => by
      match xs, h with
      | [.int i], h => exact ⟨i, rfl, h⟩)
  | int => exact .ty "int" boot_intT (CallR.imp call_int1 fun xs H Q h => rBlt_int h)
  | list => exact .ty "list" boot_listT (CallR.imp (call_list_of.or (call_list_strV hc)) fun xs H Q h => by
      match xs, h with
      | [.ref p], ⟨ys, h1, h2⟩ => exact .inl ⟨p, ys, rfl, h1, h2⟩
      | [.str x], ⟨h1, h2⟩ => exact .inr ⟨x, rfl, h1, h2⟩)
  | tuple => exact .ty "tuple" boot_tupleT (CallR.imp (call_tuple_of.or (call_tuple_strV hc)) fun xs H Q h => by
      match xs, h with
      | [.ref p], ⟨ys, h1⟩ => exact .inl ⟨p, ys, rfl, h1⟩
      | [.str x], ⟨h1, h2⟩ => exact .inr ⟨x, rfl, h1, h2⟩)
/-! ### what stands for each method -/
structure MthIs (X : Cx) (m : Mth) (id : String) : Prop where
  pa : PlainAttrs (mthTy m)
  slot : Slot (mthTy m) m.nm id
  ty : typeOf (.builtin id) = pure (.type "method_descriptor")
  mt : MtR X id (rMth X.K m)
theorem kV_is {P : Program} {w : World} {k : Key} {u : Value} (r : RelV (kV k) u) : (mixKind P w).is k u = true := by
  cases k with
  | inl i => obtain ⟨t, e⟩ := (show ∃ t, u = Value.int i t from r); subst e; exact mixKind_int P w i t
  | inr x => obtain ⟨t, e⟩ := (show ∃ t, u = Value.str x t from r); subst e; exact mixKind_str P w x t
theorem kvval {kvs : List (Key × V)} {vs : List (Key × Value)} (r : KV kvs vs) (k : Key) {v : V} (h : valK kvs k = some v) : ∃ u, valueAt vs k = some u ∧ RelV v u := by
  unfold KV at r
  induction r with
  | nil => cases h
  | @cons p q ps qs hh t ih =>
    obtain ⟨h1, h2⟩ := hh
    by_cases e : p.1 = k
    · have e' : q.1 = k := h1.symm.trans e
      have b : valueAt (q :: qs) k = some q.2 := by simp [valueAt, List.find?_cons, e']
      have a : valK (p :: ps) k = some p.2 := by simp [valK, List.find?_cons, e]
      rw [a] at h
      cases h
      exact ⟨_, b, h2⟩
    · have e' : ¬ q.1 = k := fun z => e (h1.trans z)
      have b : valueAt (q :: qs) k = valueAt qs k := by simp [valueAt, List.find?_cons, e']
      have a : valK (p :: ps) k = valK ps k := by simp [valK, List.find?_cons, e]
      rw [a] at h
      rw [b]
      exact ih h
theorem ix_sd {sd : Addr → List (Key × V) → Prop} (hsd : ∀ p kvs, sd p kvs → ∀ h : Heap, X.K.In h → ∃ vs, KV kvs vs ∧ h.DictOf (mixKind X.prog X.w) p vs) : IxR X (rIxD sd) := by
  intro value slice pins s σ H x y v u Q I rx ry h hs
  obtain ⟨p, kvs, k, z, rfl, rfl, hq, he, q⟩ := h
  cases rx
  obtain ⟨vs, r, dd⟩ := hsd p kvs hq s.heap I.kIn
  obtain ⟨w, ew, rw'⟩ := kvval r k he
  exact subscriptTail_builtinR (x := w) dd.mapOf.typeIs PySem.F.slot_dict_getitem.lookup
    (wpAny_getItem_of (Q := fun r s' => r = w ∧ EP X pins σ Q r s') (kV_is ry) dd.mapOf ew ⟨rfl, z, H, I.tok _, rw', q⟩) hs
theorem ix_any {sd : Addr → List (Key × V) → Prop} (hsd : ∀ p kvs, sd p kvs → ∀ h : Heap, X.K.In h → ∃ vs, KV kvs vs ∧ h.DictOf (mixKind X.prog X.w) p vs) : IxR X (rIx2 X.K sd) := ix_list.or (ix_tup.or (ix_str.or (ix_sd hsd)))
theorem isStr_at (y : Str) : ∀ {ts : List Str} {us : List Value}, Vals (ts.map V.str) us → ∀ (j : Nat) (h1 : j < us.length) (h2 : j < ts.length), (Value.isStrOf y us[j] = (ts[j] == y))
  | [], _, .nil, j, h1, _ => absurd h1 (Nat.not_lt_zero _)
  | t :: ts, _, .cons r rs, 0, _, _ => by
    obtain ⟨k, rfl⟩ := (show ∃ k, _ = Value.str t k from r)
    rfl
  | t :: ts, _, .cons r rs, j + 1, h1, h2 => isStr_at y rs j (Nat.lt_of_succ_lt_succ h1) (Nat.lt_of_succ_lt_succ h2)
theorem lt_idxOf_ne {y : Str} : ∀ {ts : List Str} {j : Nat}, j < ts.idxOf y → ∀ (h2 : j < ts.length), (ts[j] == y) = false
  | n :: r, 0, h, _ => by
    by_cases e : n = y
    · subst e; simp at h
    · simpa using e
  | n :: r, j + 1, h, h2 => by
    by_cases e : n = y
    · subst e; simp at h
    · have hb : (n == y) = false := by simpa using e
      have h' : j < r.idxOf y := by
        rw [List.idxOf_cons, hb] at h
        exact Nat.lt_of_succ_lt_succ h
      exact lt_idxOf_ne h' (Nat.lt_of_succ_lt_succ h2)
theorem mt_index : MtR X "list.index" (fun x vs H Q => ∃ (l : Addr) (y : Str) (ts : List Str), x = .ref l ∧ vs = [.str y] ∧ SqL X.K H l (ts.map V.str) ∧ y ∈ ts ∧ Q (.int (ts.idxOf y : Nat)) H) := by
  intro pins s σ H x vs v us Q I rx rv h
  obtain ⟨l, y, ts, rfl, rfl, hq, hy, q⟩ := h
  cases rx
  obtain ⟨u, rfl, ⟨t, rfl⟩⟩ := vals1 rv
  obtain ⟨its, r, ⟨⟨cls, dd, data, sl⟩, n, ho, hc, hd0, hd⟩, hz⟩ := I.list hq
  simp only at hc hd
  subst hc hd
  have hlen := r.length
  rw [List.length_map] at hlen hz
  have hj : ts.idxOf y < ts.length := List.idxOf_lt_length_iff.mpr hy
  have hn := line63
  refine call_meets PySem.F.slot_list_index ⟨_, ho, rfl⟩ PySem.F.entry_list_index (PySem.F.args_list_index_2 _ _)
    (PySem.SeqAt.list_indexAt l its.toArray n dd sl (.str y t) (Value.isStrOf y) (ts.idxOf y) (by simp; omega) (by omega) ?_ ?_) ⟨ho, fun z hz' => ?_, ⟨.int _, H, I.tok _, ⟨_, rfl⟩, q⟩⟩
  · show Value.isStrOf y its[ts.idxOf y] = true
    rw [isStr_at y r _ (by omega) hj]
    simpa using List.getElem_idxOf hj
  · intro j hjs hlt
    show Value.isStrOf y its[j] = false
    rw [isStr_at y r j (by simpa using hjs) (by omega)]
    exact lt_idxOf_ne hlt _
  · have hm : z ∈ its := by simpa using hz'
    obtain ⟨j, hj1, rfl⟩ := List.getElem_of_mem hm
    have hjt : j < ts.length := by omega
    have e := isStr_at y r j hj1 hjt
    obtain ⟨k, ek⟩ := (r.get (i := j) (x := .str ts[j]) (by simp [hjt]))
    obtain ⟨ek1, k2, ek2⟩ := ek
    have ek3 : its[j] = .str ts[j] k2 := by
      have := List.getElem?_eq_getElem hj1
      rw [ek1] at this
      exact (Option.some.inj this).symm.trans ek2
    rw [e, ek3]
    exact PySem.SeqAt.EqAt.str_str _ _ _ _
theorem countP_eqU {x : V} : ∀ {xs : List V} {us : List Value}, Vals xs us → xs.all flatV = true → us.countP (eqU x) = xs.countP fun y => eqV y x
  | _, _, .nil, _ => rfl
  | y :: xs, u :: us, .cons r t, f => by
    rw [List.all_cons, Bool.and_eq_true] at f
    rw [List.countP_cons, List.countP_cons, eqU_of r f.1, countP_eqU t f.2]
theorem mt_cntL : MtR X "list.count" (fun x vs H Q => ∃ (l : Addr) (y : V) (xs : List V), x = .ref l ∧ vs = [y] ∧ SqL X.K H l xs ∧ flatV y = true ∧ xs.all flatV = true ∧ Q (.int (xs.countP (fun z => eqV z y) : Nat)) H) := by
  intro pins s σ H x vs v us Q I rx rv h
  obtain ⟨l, y, xs, rfl, rfl, hq, fy, fs, q⟩ := h
  cases rx
  obtain ⟨u, rfl, ru⟩ := vals1 rv
  obtain ⟨its, r, ⟨⟨cls, dd, data, sl⟩, n, ho, hc, hd0, hd⟩, hz⟩ := I.list hq
  simp only at hc hd
  subst hc hd
  rw [← countP_eqU r fs] at q
  exact call_meets PySem.F.slot_list_count ⟨_, ho, rfl⟩ PySem.F.entry_list_count (PySem.F.args_list_count_2 _ _)
    (PySem.SeqAt.list_countAt l its.toArray n dd sl u (eqU y)) ⟨ho, fun z hz' => mem_eqAt ru fy r fs z (by simpa using hz'), ⟨.int _, H, I.tok _, ⟨_, rfl⟩, q⟩⟩
theorem mt_idxL : MtR X "list.index" (fun x vs H Q => ∃ (l : Addr) (y : V) (xs : List V), x = .ref l ∧ vs = [y] ∧ SqL X.K H l xs ∧ flatV y = true ∧ xs.all flatV = true ∧ inV y xs = true ∧ Q (.int (xs.findIdx (fun z => eqV z y) : Nat)) H) := by
  intro pins s σ H x vs v us Q I rx rv h
  obtain ⟨l, y, xs, rfl, rfl, hq, fy, fs, hin, q⟩ := h
  cases rx
  obtain ⟨u, rfl, ru⟩ := vals1 rv
  obtain ⟨its, r, ⟨⟨cls, dd, data, sl⟩, n, ho, hc, hd0, hd⟩, hz⟩ := I.list hq
  simp only at hc hd
  subst hc hd
  have hlen := r.length
  have e : ∀ j (h1 : j < its.length) (h2 : j < xs.length), eqU y its[j] = eqV xs[j] y := fun j h1 h2 => by
    obtain ⟨w, e1, r1⟩ := r.get (i := j) (x := xs[j]) (by simp [h2])
    have e2 := List.getElem?_eq_getElem h1
    rw [e1] at e2
    rw [← Option.some.inj e2]
    exact eqU_of r1 (List.all_eq_true.mp fs _ (List.getElem_mem h2))
  have hj : xs.findIdx (fun z => eqV z y) < xs.length := List.findIdx_lt_length.mpr (List.any_eq_true.mp hin)
  have hn := line63
  refine call_meets PySem.F.slot_list_index ⟨_, ho, rfl⟩ PySem.F.entry_list_index (PySem.F.args_list_index_2 _ _)
    (PySem.SeqAt.list_indexAt l its.toArray n dd sl u (eqU y) (xs.findIdx fun z => eqV z y) (by simp; omega) (by omega) ?_ ?_) ⟨ho, fun z hz' => mem_eqAt ru fy r fs z (by simpa using hz'), ⟨.int _, H, I.tok _, ⟨_, rfl⟩, q⟩⟩
  · show eqU y its[xs.findIdx fun z => eqV z y] = true
    rw [e _ (by omega) hj]
    exact List.findIdx_getElem (w := hj)
  · intro j hjs hlt
    show eqU y its[j] = false
    rw [e j (by simpa using hjs) (by omega)]
    simpa using List.not_of_lt_findIdx hlt
theorem mth_is (m : Mth) : ∃ id, MthIs X m id := by
  cases m with
  | append => exact ⟨_, F.plainAttrs_list, F.slot_list_append, F.type_list_append, fun pins s σ H x xs v us Q I rx rv h => by
      match x, xs, h with
      | .ref l, [y], ⟨zs, h1, h2, h3⟩ => exact mt_append pins s σ H _ _ v us Q I rx rv ⟨l, zs, y, rfl, rfl, h1, h2, h3⟩⟩
  | pop => exact ⟨_, F.plainAttrs_list, F.slot_list_pop, F.type_list_pop, fun pins s σ H x xs v us Q I rx rv h => by
      match x, xs, h with
      | .ref l, [], ⟨zs, y, h1, h2, h3⟩ => exact mt_pop pins s σ H _ _ v us Q I rx rv ⟨l, zs, y, rfl, rfl, h1, h2, h3⟩⟩
  | extend => exact ⟨_, F.plainAttrs_list, F.slot_list_extend, F.type_list_extend, fun pins s σ H x xs v us Q I rx rv h => by
      match x, xs, h with
      | .ref l, [.ref b], ⟨ys, zs, h1, h2, h3, h4⟩ => exact mt_extend pins s σ H _ _ v us Q I rx rv ⟨l, b, ys, zs, rfl, rfl, h1, h2, h3, h4⟩⟩
  | join => exact ⟨_, F.plainAttrs_str, F.slot_str_join, F.type_str_join, fun pins s σ H x xs v us Q I rx rv h => by
      match x, xs, h with
      | .str z, [.ref p], ⟨ts, h1, h2, h3⟩ => exact mt_join pins s σ H _ _ v us Q I rx rv ⟨z, p, ts, rfl, rfl, h1, h2, h3⟩⟩
  | lstrip => exact ⟨_, F.plainAttrs_str, F.slot_str_lstrip, F.type_str_lstrip, fun pins s σ H x xs v us Q I rx rv h => by
      match x, xs, h with
      | .str z, [.str y], ⟨h1, h2⟩ => exact mt_lstrip pins s σ H _ _ v us Q I rx rv ⟨z, y, rfl, rfl, h1, h2⟩⟩
  | starts => exact ⟨_, F.plainAttrs_str, F.slot_str_startswith, F.type_str_startswith, fun pins s σ H x xs v us Q I rx rv h => by
      match x, xs, h with
      | .str z, [.str y, .int i], h1 => exact mt_starts pins s σ H _ _ v us Q I rx rv ⟨z, y, i, rfl, rfl, h1⟩⟩
  | find => exact ⟨_, F.plainAttrs_str, F.slot_str_find, F.type_str_find, fun pins s σ H x xs v us Q I rx rv h => by
      match x, xs, h with
      | .str z, [.str y], h1 =>
        obtain ⟨t, rfl⟩ := rx
        obtain ⟨u, rfl, ⟨t2, rfl⟩⟩ := vals1 rv
        exact call_gives F.slot_str_find (typeIs_str _ _ _) F.entry_str_find (F.args_str_find_2 _ _) (gives_str_find z y t t2) ⟨.int _, H, I.tok _, ⟨_, rfl⟩, h1⟩
      | .str z, [.str y, .int i], h1 =>
        obtain ⟨t, rfl⟩ := rx
        obtain ⟨u, w', rfl, ⟨t2, rfl⟩, ⟨t3, rfl⟩⟩ := vals2 rv
        exact call_gives F.slot_str_find (typeIs_str _ _ _) F.entry_str_find (F.args_str_find_3 _ _ _) (gives_str_find_from z y i t t2 t3) ⟨.int _, H, I.tok _, ⟨_, rfl⟩, h1⟩⟩
  | count => exact ⟨_, F.plainAttrs_str, F.slot_str_count, F.type_str_count, fun pins s σ H x xs v us Q I rx rv h => by
      match x, xs, h with
      | .str z, [.str y], h1 =>
        obtain ⟨t, rfl⟩ := rx
        obtain ⟨u, rfl, ⟨t2, rfl⟩⟩ := vals1 rv
        exact call_gives F.slot_str_count (typeIs_str _ _ _) F.entry_str_count (F.args_str_count_2 _ _) (gives_str_count z y t t2) ⟨.int _, H, I.tok _, ⟨_, rfl⟩, h1⟩⟩
  | reverse => exact ⟨_, F.plainAttrs_list, F.slot_list_reverse, F.type_list_reverse, fun pins s σ H x xs v us Q I rx rv h => by
      match x, xs, h with
      | .ref l, [], ⟨zs, h1, h2⟩ => exact mt_reverse pins s σ H _ _ v us Q I rx rv ⟨l, zs, rfl, rfl, h1, h2⟩⟩
  | index => exact ⟨_, F.plainAttrs_list, F.slot_list_index, F.type_list_index, fun pins s σ H x xs v us Q I rx rv h => by
      match x, xs, h with
      | .ref l, [.str y], ⟨ts, h1, h2, h3⟩ => exact mt_index pins s σ H _ _ v us Q I rx rv ⟨l, y, ts, rfl, rfl, h1, h2, h3⟩⟩
  | cntL => exact ⟨_, F.plainAttrs_list, F.slot_list_count, F.type_list_count, fun pins s σ H x xs v us Q I rx rv h => by
      match x, xs, h with
      | .ref l, [y], ⟨zs, h1, h2, h3, h4⟩ => exact mt_cntL pins s σ H _ _ v us Q I rx rv ⟨l, y, zs, rfl, rfl, h1, h2, h3, h4⟩⟩
  | idxL => exact ⟨_, F.plainAttrs_list, F.slot_list_index, F.type_list_index, fun pins s σ H x xs v us Q I rx rv h => by
      match x, xs, h with
      | .ref l, [y], ⟨zs, h1, h2, h3, h4, h5⟩ => exact mt_idxL pins s σ H _ _ v us Q I rx rv ⟨l, y, zs, rfl, rfl, h1, h2, h3, h4, h5⟩⟩
  | clear => exact ⟨_, F.plainAttrs_list, F.slot_list_clear, F.type_list_clear, fun pins s σ H x xs v us Q I rx rv h => by
      match x, xs, h with
      | .ref l, [], ⟨zs, h1, h2⟩ => exact mt_clear pins s σ H _ _ v us Q I rx rv ⟨l, zs, rfl, rfl, h1, h2⟩⟩
/-! ### isinstance -/
theorem isi_ok {pins : List (Addr × Obj)} {σ : St} {H : Hp} {s : Shared} {T : Ty} {x : V} {u : Value} {Qb : Bool → Prop} {Q : Value → Shared → Prop} {E : Value → Shared → Prop} (I : Inv X pins σ H s) (rx : RelV x u) (h : isiV T x H Qb)
    (hq : ∀ b tk, Qb b → Q (.bool b) { s with toks := tk }) : wpAny (model X.prog X.w) X.A (call (.builtin "isinstance") [u, .type T.nm]) Q E s := by
  match x, rx, h with
  | .non, rx, h => exact isinst_ok I rx (.non) (kit_none _ T) fun tk => hq _ _ h
  | .bl b, rx, h => exact isinst_ok I rx (.bl b) (kit_tys X.K .bool T) fun tk => hq _ _ (by cases T <;> exact h)
  | .int i, rx, h => exact isinst_ok I rx (.int i) (kit_tys X.K .int T) fun tk => hq _ _ (by cases T <;> exact h)
  | .str i, rx, h => exact isinst_ok I rx (.str i) (kit_tys X.K .str T) fun tk => hq _ _ (by cases T <;> exact h)
  | .ref a, rx, h =>
    cases e : H a with
    | none => simp only [isiV, e] at h
    | some o =>
      match o, e with
      | .lst xs, e => simp only [isiV, e] at h; exact isinst_ok I rx (.lst e) (kit_tys X.K .list T) fun tk => hq _ _ (by cases T <;> exact h)
      | .frz ob (.lst xs), e => simp only [isiV, e] at h; exact isinst_ok I rx (.frz e) (kit_tys X.K .list T) fun tk => hq _ _ (by cases T <;> exact h)
      | .tup xs, e => simp only [isiV, e] at h; exact isinst_ok I rx (.tup e) (kit_tys X.K .tuple T) fun tk => hq _ _ (by cases T <;> exact h)
      | .dK xs, e => simp only [isiV, e] at h; exact isinst_ok I rx (.dK e) (kit_tys X.K .dict T) fun tk => hq _ _ (by cases T <;> exact h)
      | .dT xs, e => simp only [isiV, e] at h; exact isinst_ok I rx (.dT e) (kit_tys X.K .dict T) fun tk => hq _ _ (by cases T <;> exact h)
      | .set _ _, e => simp only [isiV, e] at h
      | .ins _ _ _, e => simp only [isiV, e] at h
      | .own _, e => simp only [isiV, e] at h
      | .xd _, e => simp only [isiV, e] at h
      | .met _ _, e => simp only [isiV, e] at h
      | .rng _ _, e => simp only [isiV, e] at h
      | .tbl _, e => simp only [isiV, e] at h
      | .ext _, e => simp only [isiV, e] at h
      | .frz ob (.tup xs), e => simp only [isiV, e] at h
      | .frz ob (.dK xs), e => simp only [isiV, e] at h
      | .frz ob (.dT xs), e => simp only [isiV, e] at h
      | .frz ob (.set _ _), e => simp only [isiV, e] at h
      | .frz ob (.ins _ _ _), e => simp only [isiV, e] at h
      | .frz ob (.own _), e => simp only [isiV, e] at h
      | .frz ob (.xd _), e => simp only [isiV, e] at h
      | .frz ob (.met _ _), e => simp only [isiV, e] at h
      | .frz ob (.rng _ _), e => simp only [isiV, e] at h
      | .frz ob (.tbl _), e => simp only [isiV, e] at h
      | .frz ob (.ext _), e => simp only [isiV, e] at h
      | .frz ob (.frz _ _), e => simp only [isiV, e] at h
theorem boot_ty (T : Ty) : bootBuiltins (Str.ofString T.nm) = some (.type T.nm) := by cases T <;> decide +kernel
theorem call_isi (T : Ty) : CallR X (.builtin "isinstance") (rIsi T) := by
  intro pins s σ H xs us Q I r h
  match xs, r, h with
  | [x, .ty n], r, ⟨e, h⟩ =>
    subst e
    obtain ⟨u, w', rfl, ru, rw'⟩ := vals2 r
    cases rw'
    exact isi_ok I ru h fun b tk hb => ⟨.bl b, H, I.tok tk, rfl, hb⟩
/-- isinstance(e, T): the call -/
theorem pe_isi {T : Ty} {a : Expr} {ta : TE} {p q pos : Pos} (ha : PE X a ta) (hs : noStar a = true) (hg : Gl X "isinstance") (hm : X.mg "isinstance" = none) (hgT : Gl X (Str.ofString T.nm)) (hmT : X.mg (Str.ofString T.nm) = none) :
    PE X (.Call (.Name "isinstance" p) [a, .Name (Str.ofString T.nm) q] [] pos) (tCB (rIsi T) (tCons ta (tCons (tC (.ty T.nm)) tNil))) := by
  have hT : PE X (.Name (Str.ofString T.nm) q) (tC (.ty T.nm)) := pe_bltn hgT hmT (boot_ty T) rfl (by cases T <;> decide) (by cases T <;> decide)
  exact pe_callB (call_isi T) hg hm boot_isi (pa_cons ha (pa_cons hT pa_nil rfl) (star_cons hs)) (by decide) (by decide) (star_cons hs) rfl
end
/-! ### slices -/
section
variable {X : Cx}
theorem sl_all : SlR X (rSl X.K) := by
  intro pins s σ H x v vl vu lo hi sl Q I rx hs pl pu h
  match x, rx, h with
  | .ref a, rx, .inl ⟨xs, h1, h2⟩ => exact sl_list pins s σ H _ v vl vu lo hi sl Q I rx hs pl pu ⟨a, xs, rfl, h1, h2⟩
  | .ref a, rx, .inr ⟨xs, h1, h2, h3⟩ => exact sl_tup pins s σ H _ v vl vu lo hi sl Q I rx hs pl pu ⟨a, xs, rfl, h1, h2, h3⟩
  | .str z, rx, ⟨h1, h2⟩ =>
    obtain ⟨t, rfl⟩ := rx
    obtain ⟨l, el, ml⟩ : ∃ l : Option (Int × Tok), vl = partValue l ∧ l.map (·.1) = lo := by
      cases pl with
      | none => exact ⟨none, rfl, rfl⟩
      | int i t => exact ⟨some (i, t), rfl, rfl⟩
    obtain ⟨u, eu, mu⟩ : ∃ u : Option (Int × Tok), vu = partValue u ∧ u.map (·.1) = hi := by
      cases pu with
      | none => exact ⟨none, rfl, rfl⟩
      | int i t => exact ⟨some (i, t), rfl, rfl⟩
    subst el eu
    refine ⟨"str", _, F.slot_str_getitem.lookup, typeIs_str _ _ _, ?_⟩
    refine wpAny_getItem_str_slice (l := l) (u := u) (st := none) hs rfl ?_
    obtain ⟨b1, b2, b3⟩ := slice_bounds lo hi z.length
    have hp : slicePicked z l u none = (List.range (HT.sIx z.length z.length hi - HT.sIx z.length 0 lo)).map (HT.sIx z.length 0 lo + ·) := by
      show Builtin.Str.strSliceIndices (l.map (·.1)) (u.map (·.1)) 1 z.length = _
      rw [ml, mu]
      have e0 : Builtin.Str.strSliceIndices lo hi 1 z.length = sliceRange (sliceBounds lo hi none z.length).1 (sliceBounds lo hi none z.length).2.1 (sliceBounds lo hi none z.length).2.2 := rfl
      rw [e0, b1, b2, b3, sliceRange_one]
    have hc : ((slicePicked z l u none).filterMap (z.cps[·]?)) = cutL z.cps.toList lo hi := by
      show (Builtin.Str.strSliceIndices (l.map (·.1)) (u.map (·.1)) 1 z.length).filterMap (z.cps[·]?) = _
      rw [ml, mu, picked_cut]
    have hz : z.cps.toList.length = z.length := by simp [Str.length]
    have hA := HT.sIx_le z.length 0 (Nat.zero_le _) lo
    have hB := HT.sIx_le z.length z.length (Nat.le_refl _) hi
    unfold sliceMade
    refine post_val_or_made (fun _ => ?_) fun t' k => ?_
    · show (List.toArray ((slicePicked z l u none).filterMap (z.cps[·]?))).size ≤ sizeLine
      rw [hc, List.size_toArray]
      have : (cutL z.cps.toList lo hi).length ≤ z.cps.toList.length := by unfold cutL; simp only [List.length_take, List.length_drop]; omega
      omega
    · have e : (if (((none : Option (Int × Tok)).map (·.1)).getD 1 == 1 && (slicePicked z l u none).length == z.length) = true then z else ⟨((slicePicked z l u none).filterMap (z.cps[·]?)).toArray⟩) = cutS z lo hi := by
        split
        · rename_i hq
          simp only [Bool.and_eq_true, beq_iff_eq] at hq
          have hq2 := hq.2
          rw [hp, List.length_map, List.length_range] at hq2
          have a0 : HT.sIx z.length 0 lo = 0 := by omega
          have b0 : HT.sIx z.length z.length hi = z.length := by omega
          unfold cutS cutL
          rw [hz, a0, b0, ← hz, Nat.sub_zero, List.drop_zero, List.take_length]
        · rw [hc]; rfl
      rw [e]
      exact ⟨.str _, H, I.tok k, ⟨t', rfl⟩, h2⟩
theorem un_negV : UnR X (unaryOp .USub) rNeg := by
  intro pins s σ H x v Q I rx h
  match x, rx, h with
  | .int i, rx, h => exact un_neg pins s σ H _ v Q I rx ⟨i, rfl, h⟩
theorem pe_notE {a : Expr} {ta : TE} {pos : Pos} (ha : PE X a ta) : PE X (.UnaryOp .Not a pos) (tNotE X.K ta) := by
  intro pins s σ H Q I h
  refine UnaryOp_ (thn (ha pins s σ H _ I h) fun v s1 ⟨x, H1, I1, r1, q1⟩ => not_of ?_)
  exact thn (tru_ok pins s1 σ H1 x v (fun b H2 => Q (.bl (!b)) H2) I1 r1 (tru_of q1)) fun b s2 ⟨H2, I2, q2⟩ => ⟨.bl (!b), H2, I2, rfl, q2⟩
theorem pt_tru {a : Expr} {ta : TE} (ha : PE X a ta) (he : ∀ whole, isTrue a X.env whole = (do let v ← whole; standAt a.pos; holding [v] (truthy v))) : PT X a (tTru X.K ta) := by
  intro pins s σ H Q I h
  exact isTrue_plain (thn (ha pins s σ H _ I h) fun v s1 ⟨x, H1, I1, r1, q1⟩ => tru_ok pins s1 σ H1 x v Q I1 r1 (tru_of q1)) (he _)
theorem pe_mth {m : Mth} {o e : Expr} {es : List Expr} {to : TE} {t : TA} {apos cpos : Pos} (ho : PE X o to) (ha : PA X (e :: es) t) (hb : noSuper o = true) (hl : (apos.endLine == cpos.line) = true) (hn : (e :: es).length < 29)
    (hs : starEach (e :: es) X.env = (false, eval e X.env) :: starEach es X.env) (h1 : (backTo cpos (starEach es X.env)).any (·.1) = false) (h2 : (backTo cpos (starEach (e :: es) X.env)).all (fun x => !x.1) = true) :
    PE X (.Call (.Attribute o m.nm apos) (e :: es) [] cpos) (tMth X.K m to t) := by
  obtain ⟨id, M⟩ := mth_is (X := X) m
  exact pe_bm M.pa M.slot M.ty M.mt ho ha (base_of hb) (by
    rw [h2]
    show (true && true && decide ((e :: es).length + 0 + 0 < 30)) = true
    rw [decide_eq_true (by omega)]; rfl) hl hs h1
theorem pe_mth0 {m : Mth} {o : Expr} {to : TE} {apos cpos : Pos} (ho : PE X o to) (hb : noSuper o = true) (hl : (apos.endLine == cpos.line) = true) :
    PE X (.Call (.Attribute o m.nm apos) [] [] cpos) (tMth X.K m to tNil) := by
  obtain ⟨id, M⟩ := mth_is (X := X) m
  exact pe_bm0 M.pa M.slot M.ty M.mt ho (base_of hb) hl
end
/-! ### methods and makers of own classes -/
section
variable {X : Cx} {CX : CXT}
end
end L2
set_option maxRecDepth 100000
set_option maxHeartbeats 4000000
namespace L2
open PySem PySem.Spec PyProof.Rows
section
variable {prog : Program} {w : World} {A : Around} {E : Value → Shared → Prop} {s : Shared}
theorem draw_list {it l : Addr} {items : Array Value} (hne : l ≠ it) : ∀ (n i : Nat) (s : Shared) (Q : List Value → Shared → Prop), s.heap.IsListIter it l i → s.heap.IsList l items → i + n ≤ items.size →
    (∀ h', h'.IsListIter it l (i + n) → Heap.SameBut it s.heap h' → Q ((items.toList.drop i).take n) { s with heap := h' }) → wpAny (model prog w) A (draw (.ref it) n) Q E s
  | 0, i, s, Q, hit, _, _, hQ => by
    show wpAny _ _ (pure []) Q E s
    exact wpAny_pure (by simpa using hQ s.heap hit (Heap.SameBut.refl ..))
  | n + 1, i, s, Q, hit, ht, hle, hQ => by
    have hlt : i < items.size := by omega
    show wpAny _ _ (pyNext (.ref it) >>= _) Q E s
    refine wpAny_bind (wpAny_pyNext_list_item hit ht (x := items[i]) (by simp [hlt]) fun h₁ hit₁ hs₁ => ?_)
    refine wpAny_bind (wpAny_holding (draw_list hne n (i + 1) _ _ hit₁ (ht.extBut hs₁.extBut hne) (by omega) fun h₂ hit₂ hs₂ => wpAny_pure ?_))
    have hd : items.toList.drop i = items[i] :: items.toList.drop (i + 1) := by simp [List.drop_eq_getElem_cons, hlt]
    have := hQ h₂ (by rw [show i + (n + 1) = i + 1 + n by omega]; exact hit₂) (hs₁.trans hs₂)
    rw [hd, List.take_succ_cons] at this
    exact this
theorem unpackItems_list {t : Addr} {items : Array Value} {Q : List Value → Shared → Prop} (hh : A.handled = none) (ht : s.heap.IsList t items)
    (hQ : ∀ h', Heap.ExtBut s.heap.objs.size s.heap h' → Q items.toList { s with heap := h' }) : wpAny (model prog w) A (unpackItems (.ref t) items.size none) Q E s := by
  have hlt : t ≠ s.heap.objs.size := by obtain ⟨o, ho, _⟩ := ht; exact Nat.ne_of_lt (Heap.lt_size ho)
  unfold unpackItems
  refine wpAny_bind ?_
  · unfold notIterableAtAll
    refine wpAny_bind (wpAny_specialOf ht.typeIs slot_list_iter.lookup ?_)
    refine wpAny_pure ?_
    simp only [Bool.false_eq_true, if_false]
    refine wpAny_bind (wpAny_holding (wpAny_pyIter_list ht ?_))
    refine wpAny_bind (wpAny_holding (draw_list hlt items.size 0 _ _ ⟨_, Heap.get?_push_size _ rfl, rfl, rfl⟩ (ht.push _) (by omega) fun h₁ hit₁ hs₁ => ?_))
    have hall : List.take items.size (List.drop 0 items.toList) = items.toList := by
      rw [List.drop_zero]; exact List.take_of_length_le (by simp)
    rw [hall]
    rw [if_neg (by simp)]
    have ht₁ : h₁.IsList t items := (ht.push _).extBut hs₁.extBut hlt
    refine wpAny_bind (wpAny_holding (wpAny_pyNext_list_end hh hit₁ ht₁ (by simp) fun h₂ he₂ => ?_))
    simp only [Option.isSome_none, Bool.false_eq_true, if_false]
    refine wpAny_pure (hQ h₂ fun b o hb e => he₂ b o hb (hs₁.extBut b o hb (Heap.get?_push_of_some _ e)))
theorem assign_Tuple_listv {env : Env} {elts : List Expr} {x1} {pos : Pos} {t : Addr} {items : Array Value} {Q : Unit → Shared → Prop} (hh : A.handled = none) (ht : s.heap.IsList t items)
    (hn : (assignEach elts env).length = items.size) (hstar : (assignEach elts env).findIdx? (·.1) = none)
    (h : ∀ h', Heap.ExtBut s.heap.objs.size s.heap h' → wpAny (model prog w) A (assignInOrder ((assignEach elts env).map (·.2)) items.toList) Q E { s with heap := h' }) :
    wpAny (model prog w) A (assign (.Tuple elts x1 pos) env (.ref t)) Q E s := by
  rw [assign_Tuple]
  refine wpAny_bind (wpAny_standAt ?_)
  unfold unpack
  rw [hn, hstar]
  exact wpAny_bind (wpAny_holding (unpackItems_list hh ht h))
end
/-- (a, b, ..) = a tuple or a list of that length -/
def gSeq (K : PySem.W.Frag) (n : Nat) (t : TGs) : TG := fun v σ H Q => ∃ a xs, v = .ref a ∧ (SqT K H a xs ∨ SqL K H a xs) ∧ xs.length = n ∧ t xs σ H Q
theorem pg_seq {X : Cx} {es : List Expr} {k : Nat} {t : TGs} {n : Nat} {pos : Pos} (hc : X.calm = true) (h : PGs X es t)
    (hn : (assignEach es X.env).length = n) (hst : (assignEach es X.env).findIdx? (·.1) = none) : PG X (.Tuple es k pos) (gSeq X.K n t) := by
  intro pins s σ H v u Q I r hw
  obtain ⟨a, xs, e1, hq, hl, hw⟩ := hw
  rcases hq with hq | hq
  · exact pg_tup hc h hn hst pins s σ H v u Q I r ⟨a, xs, e1, hq, hl, hw⟩
  · subst e1
    cases r
    obtain ⟨its, rv, ht, hz⟩ := I.list hq
    refine assign_Tuple_listv (I.ok.hd hc) ht.isList (by simp [hn, ← hl, rv.length]) hst fun h' hx => ?_
    have I1 : Inv X pins σ H { s with heap := h' } := I.kept (t' := s.toks) fun b o e => hx b o (Nat.ne_of_lt (Heap.lt_size e)) e
    exact h pins _ σ H xs _ Q I1 (by simpa using rv) hw
end L2
set_option maxRecDepth 100000
set_option maxHeartbeats 4000000
namespace L2
open PySem PySem.Spec PyProof.Rows
/-! ### a row's own derivation, part by part -/
def gNames : List Nat → TGs
  | [] => gNil
  | i :: r => gCons (gName i) (gNames r)
/-- o[lo:hi] = .. -/
def gSl (to : TE) (tl th : TO) : TG := fun v σ H Q => to σ H fun o H1 => tl σ H1 fun i H2 => th σ H2 fun j H3 => ∃ l b xs ys a c, o = .ref l ∧ v = .ref b ∧ i = some a ∧ j = some c ∧ H3 l = some (.lst xs) ∧ H3 b = some (.lst ys) ∧ l ≠ b ∧
  0 ≤ a ∧ a ≤ c ∧ c ≤ xs.length ∧ xs.length + ys.length ≤ sizeLine ∧ Q σ (upd H3 l (.lst (xs.take a.toNat ++ ys ++ xs.drop c.toNat)))
mutual
def rdS (Γ : RCx) : RS → TS
  | .asg i e => tAsg (rdE Γ e) (gName i)
  | .asgC i e => tAsg (rdE Γ e) (gName i)
  | .set o ix e => tAsg (rdE Γ e) (gSub (rdE Γ o) (rdE Γ ix) rSetL)
  | .drop e => tDrop (rdE Γ e)
  | .ret e => tRet (rdE Γ e)
  | .retN => tRetN
  | .ite c t e => tIfS (rdT Γ c) (rdSs Γ t) (rdSs Γ e)
  | .for1 i k its body => tFor (rdI Γ k its) (gName i) (rdSs Γ body)
  | .forT is k its body => tFor (rdI Γ k its) (gSeq Γ.K is.length (gNames is)) (rdSs Γ body)
  | .whl c body => tWhile (rdT Γ c) (rdSs Γ body)
  | .pass => tNext
  | .brk => tBreak
  | .cont => tCont
  | .never => tNever
  | .setSl o lo hi e => tAsg (rdE Γ e) (gSl (rdE Γ o) (tPart (rdE Γ lo)) (tPart (rdE Γ hi)))
  | .setf o f e => sFld Γ.K (rdE Γ o) (rdE Γ e) f
  | .asgT is e => tAsg (rdE Γ e) (gSeq Γ.K is.length (gNames is))
  | .rais j as => sRaise (Γ.ex j) Γ.E (rdA Γ as)
  | .tryr n i j body su => fun D σ H => ∃ C, Γ.gv j = .ref C ∧ sTry Γ.K C i n (fun E => rdSs { Γ with E := E } body) (fun ea => rdSs { Γ with E := E0, hv := some ea } su) D σ H
def rdSs (Γ : RCx) : List RS → TS
  | [] => tNext
  | s :: r => tSeq (rdS Γ s) (rdSs Γ r)
end
def noSl : Expr → Bool
  | .Slice .. => false | _ => true
def noComp : Expr → Bool
  | .ListComp .. => false | .SetComp .. => false | .DictComp .. => false | _ => true
def swapB (sc : Scope) (x : Str) (line : Nat) (s : Scope) (p : Pos) : Bool :=
  decide (sc.kind = .function) && decide (sc.names.lookup x = some .local) && (line == p.line) && !(s.names.any fun (n, k) => n == x && (k == .local || k == .cell))
def tgIs (N : List Str) (sc : Scope) : List Nat → List Str → Bool
  | [], xs => xs.isEmpty
  | i :: r, xs => match xs with
    | [] => false
    | x :: t => decide (N[i]? = some x) && loc sc x && tgIs N sc r t
structure GoodS (CX : CXT) (S : SCx) (Γ : RCx) (X : Cx) : Prop extends Good CX S Γ X where
  nd : S.N.Nodup
  fnt : ∀ x, X.fn x = true
  own : PassesOwn (model X.prog X.w) X.A X.env X.xe
  fun' : X.env.scope.kind = .function
  rs : ∀ (j : Nat) (x : Str), S.en[j]? = some x → Raises X Γ.E
  stk : X.stack = X.env :: X.outer
  frm : X.env.frame = some X.env.locals
  exn : X.ex = []
  hcx : CX = CXe X.prog X.w
def qV (S : SCx) (i : Nat) (x : Str) : Bool := decide (S.N[i]? = some x) && vis S.sc x && !(x == ("__debug__" : Str)) && !(x == ("__classdict__" : Str))
def kG (S : SCx) (j : Nat) (x : Str) : Bool := decide (S.gn[j]? = some x) && glo S.sc x && !(x == ("__debug__" : Str))
def kF (S : SCx) (j : Nat) (x : Str) : Bool := decide (S.fn[j]? = some x) && glo S.sc x && !(x == ("__debug__" : Str))
def kB (S : SCx) (x y : Str) : Bool := decide (x = y) && glo S.sc x && S.bl.contains x
def kM (o : Expr) (m : Str) (x : Str) (n : Nat) (a c : Pos) : Bool := decide (x = m) && noSuper o && (a.endLine == c.line) && decide (n < 29)
def kL (S : SCx) (i : Nat) (x : Str) : Bool := decide (S.N[i]? = some x) && loc S.sc x
section
variable {CX : CXT} {S : SCx} {Γ : RCx} {X : Cx} {e e2 a b c d : Expr} {es : List Expr} {x : Str} {p q pos : Pos} {r ra rb rc : RE} {rs : List RE} {i j : Nat}
theorem d_v (G : Good CX S Γ X) (h : qV S i x = true) : PE X (.Name x p) (rdE Γ (.v i)) := by
  simp only [qV, Bool.and_eq_true, decide_eq_true_eq, Bool.not_eq_true'] at h
  exact pe_var (by rw [G.N]; exact h.1.1.1) (by rw [G.sc]; exact vis_of h.1.1.2) h.1.2 h.2
theorem d_ci {v : Int} {k : Nat} : PE X (.Constant (.int v) k p) (rdE Γ (.c (.int v))) := pe_int
theorem d_cs {v : Str} {k : Nat} : PE X (.Constant (.str v) k p) (rdE Γ (.c (.str v))) := pe_str
theorem d_cb {v : Bool} {k : Nat} : PE X (.Constant (.bool v) k p) (rdE Γ (.c (.bl v))) := pe_bl
theorem d_cn {k : Nat} : PE X (.Constant .none k p) (rdE Γ (.c .non)) := pe_non
theorem d_g (G : Good CX S Γ X) (h : kG S j x = true) : PE X (.Name x p) (rdE Γ (.g j)) := by
  simp only [kG, Bool.and_eq_true, decide_eq_true_eq, Bool.not_eq_true'] at h
  obtain ⟨u, hm, r⟩ := G.gvs j x h.1.1
  exact pe_glob (G.gl h.1.2) hm r h.2
theorem d_bin {op : Operator} (G : Good CX S Γ X) (ha : PE X a (rdE Γ ra)) (hb : PE X b (rdE Γ rb)) : PE X (.BinOp a op b p) (rdE Γ (.bin op ra rb)) := by
  show PE X _ (tOp (rBin Γ.K op) (rdE Γ ra) (rdE Γ rb))
  rw [← G.K]
  exact pe_op (op_bin op) ha hb
theorem d_neg (ha : PE X a (rdE Γ ra)) : PE X (.UnaryOp .USub a p) (rdE Γ (.neg ra)) := pe_un un_negV ha
theorem d_cmp {op : CmpOp} (G : Good CX S Γ X) (hm : behindInMarks op b = false) (ha : PE X a (rdE Γ ra)) (hb : PE X b (rdE Γ rb)) : PE X (.Compare a [op] [b] p) (rdE Γ (.cmp op ra rb)) := by
  show PE X _ (tOp (rCmp Γ.K op) (rdE Γ ra) (rdE Γ rb))
  rw [← G.K]
  exact pe_cmpR (op_cmp G.units op) ha hb hm
theorem d_same (G : Good CX S Γ X) (hm : behindInMarks .Eq b = false) (ha : PE X a (rdE Γ ra)) (hb : PE X b (rdE Γ rb)) : PE X (.Compare a [.Eq] [b] p) (rdE Γ (.same ra rb)) := by
  show PE X _ (tOp rEqW (rdE Γ ra) (rdE Γ rb))
  exact pe_cmpR (op_eqW G.units) ha hb hm
theorem d_and1 (h : PE X e (rdE Γ r)) : PE X (.BoolOp .And [e] p) (rdE Γ (.and [r])) := pe_one h
theorem d_and {r2 : RE} (h : PE X e (rdE Γ r)) (t : PE X (.BoolOp .And (e2 :: es) p) (rdE Γ (.and (r2 :: rs)))) : PE X (.BoolOp .And (e :: e2 :: es) p) (rdE Γ (.and (r :: r2 :: rs))) := pe_and h t
theorem d_not (G : Good CX S Γ X) (ha : PE X a (rdE Γ ra)) : PE X (.UnaryOp .Not a p) (rdE Γ (.not ra)) := by
  show PE X _ (tNotE Γ.K (rdE Γ ra))
  rw [← G.K]
  exact pe_notE ha
theorem d_ife (hc : PT X c (rdT Γ rc)) (ha : PE X a (rdE Γ ra)) (hb : PE X b (rdE Γ rb)) : PE X (.IfExp c a b p) (rdE Γ (.ife rc ra rb)) := pe_ifExp hc ha hb
theorem d_dct : PE X (.Dict [] [] p) (rdE Γ .dct) := pe_newD
theorem d_nil : PA X [] (rdA Γ []) := pa_nil
theorem d_cons (hs : noStar e = true) (h : PE X e (rdE Γ r)) (t : PA X es (rdA Γ rs)) : PA X (e :: es) (rdA Γ (r :: rs)) := pa_cons h t (star_cons hs)
theorem d_call (G : Good CX S Γ X) (h : kF S j x = true) (hn : nst (e :: es) = true) (hA : PA X (e :: es) (rdA Γ (r :: rs))) (hq : S.md = 0 := by rfl) : PE X (.Call (.Name x p) (e :: es) [] pos) (rdE Γ (.call j (r :: rs))) := by
  simp only [kF, Bool.and_eq_true, decide_eq_true_eq, Bool.not_eq_true'] at h
  obtain ⟨k, f, fd, ps, F, hr, hm, hk, hb⟩ := G.fns hq j x h.1.1
  exact pe_call F hr (G.gl h.1.2) hm hk hb .nil G.pass hA h.2 (star_cons (nst_cons hn).1) (stars_of _ _ es (nst_cons hn).2)
theorem d_blt {t : Blt} (G : Good CX S Γ X) (h : kB S x t.nm = true) (hn : nst (e :: es) = true) (hA : PA X (e :: es) (rdA Γ (r :: rs))) (hq : S.md = 0 := by rfl) : PE X (.Call (.Name x p) (e :: es) [] pos) (rdE Γ (.blt t (r :: rs))) := by
  simp only [kB, Bool.and_eq_true, decide_eq_true_eq] at h
  obtain ⟨⟨rfl, h2⟩, h3⟩ := h
  have n1 : t.nm ≠ "__name__" := by cases t <;> decide
  have n2 : (t.nm == ("__debug__" : Str)) = false := by cases t <;> decide
  show PE X _ (tCB (rBlt Γ.K t) (rdA Γ (r :: rs)))
  rw [← G.K]
  cases blt_is (X := X) (G.calm hq) t with
  | fn id hv hc => exact pe_callB hc (G.gl h2) (G.bls _ h3) hv hA n1 n2 (star_cons (nst_cons hn).1) (stars_of _ _ es (nst_cons hn).2)
  | ty T hv hc => exact pe_callTy hc (G.gl h2) (G.bls _ h3) hv hA n1 n2 (star_cons (nst_cons hn).1) (stars_of _ _ es (nst_cons hn).2)
theorem d_isi {T : Ty} {y : Str} (G : Good CX S Γ X) (h : kB S x "isinstance" = true) (h2 : kB S y (Str.ofString T.nm) = true) (hs : noStar a = true) (ha : PE X a (rdE Γ ra)) : PE X (.Call (.Name x p) [a, .Name y q] [] pos) (rdE Γ (.isi T ra)) := by
  simp only [kB, Bool.and_eq_true, decide_eq_true_eq] at h h2
  obtain ⟨⟨rfl, g2⟩, g3⟩ := h
  obtain ⟨⟨rfl, k2⟩, k3⟩ := h2
  exact pe_isi ha hs (G.gl g2) (G.bls _ g3) (G.gl k2) (G.bls _ k3)
/-- isinstance(e, C) of an exception; f(e) within a suite; a built-in class -/
theorem d_isx (G : Good CX S Γ X) (h : kB S x "isinstance" = true) (hn : nst [a, b] = true) (ha : PE X a (rdE Γ ra)) (hb : PE X b (rdE Γ rb)) : PE X (.Call (.Name x p) [a, b] [] pos) (rdE Γ (.isx ra rb)) := by
  simp only [kB, Bool.and_eq_true, decide_eq_true_eq] at h
  obtain ⟨⟨rfl, g2⟩, g3⟩ := h
  show PE X _ (tCB (rIsx Γ.K) (tCons (rdE Γ ra) (tCons (rdE Γ rb) tNil)))
  rw [← G.K]
  exact pe_callB call_isx (G.gl g2) (G.bls _ g3) boot_isi (pa_cons ha (pa_cons hb pa_nil (star_cons (nst_cons (nst_cons hn).2).1)) (star_cons (nst_cons hn).1)) (by decide) (by decide) (star_cons (nst_cons hn).1) (stars_of _ _ _ (nst_cons hn).2)
theorem d_ty {n : String} (G : Good CX S Γ X) (h : kB S x (Str.ofString n) = true) (hv : bootBuiltins (Str.ofString n) = some (.type n)) (h1 : Str.ofString n ≠ "__name__") (h2 : (Str.ofString n == ("__debug__" : Str)) = false) : PE X (.Name x p) (rdE Γ (.c (.ty n))) := by
  simp only [kB, Bool.and_eq_true, decide_eq_true_eq] at h
  obtain ⟨⟨rfl, g2⟩, g3⟩ := h
  exact pe_bltn (G.gl g2) (G.bls _ g3) hv rfl h1 h2
def kH (S : SCx) (j : Nat) (x : Str) : Bool := decide (S.hn[j]? = some x) && glo S.sc x && !(x == ("__debug__" : Str))
theorem d_wrd (G : Good CX S Γ X) (h : kH S j x = true) (hs : noStar a = true) (ha : PE X a (rdE Γ ra)) : PE X (.Call (.Name x p) [a] [] pos) (rdE Γ (.wrd j ra)) := by
  simp only [kH, Bool.and_eq_true, decide_eq_true_eq, Bool.not_eq_true'] at h
  obtain ⟨k, f, fd, ps, F, hr, hm, hk, hb⟩ := G.hsf j x h.1.1
  exact pe_callH F hr (G.gl h.1.2) hm hk hb G.hvo ha hs h.2
theorem d_mth0 {m : Mth} {o : Expr} {ro : RE} {ap : Pos} (G : Good CX S Γ X) (h : kM o m.nm x 0 ap pos = true) (ho : PE X o (rdE Γ ro)) : PE X (.Call (.Attribute o x ap) [] [] pos) (rdE Γ (.mth m ro [])) := by
  simp only [kM, Bool.and_eq_true, decide_eq_true_eq] at h
  obtain ⟨⟨⟨rfl, h2⟩, h3⟩, -⟩ := h
  show PE X _ (tMth Γ.K m (rdE Γ ro) tNil)
  rw [← G.K]
  exact pe_mth0 ho h2 h3
theorem d_mth {m : Mth} {o : Expr} {ro : RE} {ap : Pos} (G : Good CX S Γ X) (h : kM o m.nm x (es.length + 1) ap pos = true) (hn : nst (e :: es) = true) (ho : PE X o (rdE Γ ro)) (hA : PA X (e :: es) (rdA Γ (r :: rs))) : PE X (.Call (.Attribute o x ap) (e :: es) [] pos) (rdE Γ (.mth m ro (r :: rs))) := by
  simp only [kM, Bool.and_eq_true, decide_eq_true_eq] at h
  obtain ⟨⟨⟨rfl, h2⟩, h3⟩, h4⟩ := h
  show PE X _ (tMth Γ.K m (rdE Γ ro) (rdA Γ (r :: rs)))
  rw [← G.K]
  exact pe_mth ho hA h2 h3 h4 (star_cons (nst_cons hn).1) (stars_of _ _ es (nst_cons hn).2) (few_of _ _ (e :: es) hn)
theorem plain_of (h : noSl b = true) : PlainIx b := fun o i => by cases b <;> first | rfl | cases h
theorem d_ix (G : Good CX S Γ X) (h : noSl b = true) (ha : PE X a (rdE Γ ra)) (hb : PE X b (rdE Γ rb)) : PE X (.Subscript a b p) (rdE Γ (.ix ra rb)) := by
  show PE X _ (tOp (rIx2 Γ.K Γ.sd) (rdE Γ ra) (rdE Γ rb))
  rw [← G.K]
  exact pe_ix (ix_any G.sds) ha hb (plain_of h)
theorem d_sl {lo hi : Option Expr} {rl rh : Option RE} (G : Good CX S Γ X) (ha : PE X a (rdE Γ ra)) (hl : PO X lo (rdO Γ rl)) (hh : PO X hi (rdO Γ rh)) : PE X (.Subscript a (.Slice lo hi none q) p) (rdE Γ (.sl ra rl rh)) := by
  show PE X _ (tSl (rSl Γ.K) (rdE Γ ra) (rdO Γ rl) (rdO Γ rh))
  rw [← G.K]
  exact pe_slice sl_all ha hl hh
theorem d_no : PO X none (rdO Γ none) := po_none
theorem d_some (ha : PE X a (rdE Γ ra)) : PO X (some a) (rdO Γ (some ra)) := po_some ha
theorem d_tup {k} (hA : PA X es (rdA Γ rs)) : PE X (.Tuple es k p) (rdE Γ (.tup rs)) := pe_tup hA
theorem d_lst (hA : PA X es (rdA Γ rs)) : PE X (.List es p) (rdE Γ (.lst rs)) := pe_lst hA
/-- a block's test -/
def dIfs (CX : CXT) (S : SCx) (Γ : RCx) (cond : Option RE) (ifs : List Expr) : Prop := match cond with
  | none => ifs = []
  | some r => ∃ e0, ifs = [e0] ∧ ∀ X, Good CX S Γ X → PT X e0 (rdT Γ r)
theorem d_if0 : dIfs CX S Γ none [] := rfl
theorem d_if1 (h : ∀ X, Good CX S Γ X → PT X e (rdT Γ r)) : dIfs CX S Γ (some r) [e] := ⟨e, rfl, h⟩
def kC (S : SCx) (tk : Option Nat) (tg iter : Expr) (sc : Scope) (k : IK) (ln : List Str) (fv : List (Str × Nat)) : Bool := decide (tgNames tk tg = some ln) && (decide (k ≠ .zip) || tk.isSome) && compB S ⟨.Constant .none 0 ⟨0, 0, 0, 0⟩, tg, iter, [], sc⟩ ln fv
abbrev cS (S : SCx) (sc : Scope) (ln : List Str) (fv : List (Str × Nat)) : SCx := { S with N := ln ++ fv.map (·.1), sc := relabelS sc S.sc, en := [], md := if S.md = 0 then 0 else 2 }
theorem d_comp {tk : Option Nat} {fv : List (Str × Nat)} {k : IK} {its : List RE} {cond : Option RE} {elt : RE} {el tg iter : Expr} {ifs : List Expr} {sc : Scope} {ln : List Str} (G : Good CX S Γ X) (h : kC S tk tg iter sc k ln fv = true) (hi : PI X tg iter (rdI Γ k its))
    (hc : dIfs CX (cS S sc ln fv) Γ.calm cond ifs) (he : ∀ X, Good CX (cS S sc ln fv) Γ.calm X → PE X el (rdE Γ.calm elt)) (hq : S.md = 0 := by rfl) : PE X (.ListComp el [⟨tg, iter, ifs, 0⟩] sc p) (rdE Γ (.comp tk fv k its cond elt)) := by
  simp only [kC, Bool.and_eq_true, decide_eq_true_eq] at h
  obtain ⟨⟨h1, h2⟩, h3⟩ := h
  obtain ⟨o1, o2, o3, o4⟩ := CompB_ok (c := ⟨.Constant .none 0 ⟨0, 0, 0, 0⟩, tg, iter, [], sc⟩) G h3
  show PE X _ (tComp Γ.K (rdI Γ k its) tk fv (rdC Γ.calm cond) (rdE Γ.calm elt))
  rw [← G.K]
  refine pe_comp o1 (G.calm hq) hi (tgt_ok (c := ⟨.Constant .none 0 ⟨0, 0, 0, 0⟩, tg, iter, [], sc⟩) (G.calm hq) h1 o2 o3) ?_ (fun ex C s H => he _ (G.inner ⟨.Constant .none 0 ⟨0, 0, 0, 0⟩, tg, iter, [], sc⟩ ln fv ex C s H)) (set_of o4)
  cases cond with
  | none => exact hc
  | some r =>
    obtain ⟨e0, q, hq⟩ := hc
    exact ⟨e0, q, fun ex C s H => hq _ (G.inner ⟨.Constant .none 0 ⟨0, 0, 0, 0⟩, tg, iter, [], sc⟩ ln fv ex C s H)⟩
/-! tests -/
theorem t_not (h : PT X a (rdT Γ ra)) : PT X (.UnaryOp .Not a p) (rdT Γ (.not ra)) := pt_not h
theorem t_and1 (h : PT X e (rdT Γ r)) : PW X (.BoolOp .And [e] p) (rdT Γ (.and [r])) := pw_and1 h
theorem t_and {r2 : RE} (h : PT X e (rdT Γ r)) (t : PW X (.BoolOp .And (e2 :: es) p) (rdT Γ (.and (r2 :: rs)))) : PW X (.BoolOp .And (e :: e2 :: es) p) (rdT Γ (.and (r :: r2 :: rs))) := pw_and h t
theorem t_or1 (h : PT X e (rdT Γ r)) : PW X (.BoolOp .Or [e] p) (rdT Γ (.or [r])) := pw_or1 h
theorem t_or {r2 : RE} (h : PT X e (rdT Γ r)) (t : PW X (.BoolOp .Or (e2 :: es) p) (rdT Γ (.or (r2 :: rs)))) : PW X (.BoolOp .Or (e :: e2 :: es) p) (rdT Γ (.or (r :: r2 :: rs))) := pw_or h t
theorem t_cmp {op : CmpOp} (G : Good CX S Γ X) (hm : behindInMarks op b = false) (ha : PE X a (rdE Γ ra)) (hb : PE X b (rdE Γ rb)) : PT X (.Compare a [op] [b] p) (rdT Γ (.cmp op ra rb)) := by
  show PT X _ (tTest (tOp (rCmp Γ.K op) (rdE Γ ra) (rdE Γ rb)))
  rw [← G.K]
  exact pt_cmpR (op_cmp G.units op) ha hb hm
theorem t_v (G : Good CX S Γ X) (h : PE X (.Name x p) (rdE Γ (.v i))) : PT X (.Name x p) (rdT Γ (.v i)) := by
  show PT X _ (tTru Γ.K (rdE Γ (.v i)))
  rw [← G.K]
  exact pt_tru h fun _ => rfl
theorem t_call (G : Good CX S Γ X) (h : PE X (.Call a es [] p) (rdE Γ (.call j rs))) : PT X (.Call a es [] p) (rdT Γ (.call j rs)) := by
  show PT X _ (tTru Γ.K (rdE Γ (.call j rs)))
  rw [← G.K]
  exact pt_tru h fun _ => rfl
theorem t_isx (G : Good CX S Γ X) (h : PE X (.Call a es [] p) (rdE Γ (.isx ra rb))) : PT X (.Call a es [] p) (rdT Γ (.isx ra rb)) := by
  show PT X _ (tTru Γ.K (rdE Γ (.isx ra rb)))
  rw [← G.K]
  exact pt_tru h fun _ => rfl
theorem t_isi {T : Ty} (G : Good CX S Γ X) (h : PE X (.Call a es [] p) (rdE Γ (.isi T ra))) : PT X (.Call a es [] p) (rdT Γ (.isi T ra)) := by
  show PT X _ (tTru Γ.K (rdE Γ (.isi T ra)))
  rw [← G.K]
  exact pt_tru h fun _ => rfl
/-! iterables -/
theorem i_list {tg : Expr} (G : Good CX S Γ X) (ha : PE X a (rdE Γ ra)) : PI X tg a (rdI Γ .list [ra]) := by
  show PI X tg a (iList Γ.K (rdE Γ ra))
  rw [← G.K]
  exact pi_list ha
theorem i_tup {tg : Expr} (G : Good CX S Γ X) (ha : PE X a (rdE Γ ra)) : PI X tg a (rdI Γ .tup [ra]) := by
  show PI X tg a (iTup Γ.K (rdE Γ ra))
  rw [← G.K]
  exact pi_tup ha
theorem i_rng {tg : Expr} (G : Good CX S Γ X) (h : kB S x "range" = true) (hs : noStar a = true) (ha : PE X a (rdE Γ ra)) : PI X tg (.Call (.Name x p) [a] [] pos) (rdI Γ .rng [ra]) := by
  simp only [kB, Bool.and_eq_true, decide_eq_true_eq] at h
  obtain ⟨⟨rfl, h2⟩, h3⟩ := h
  exact pi_range1 (G.gl h2) (G.bls _ h3) (pa_cons ha pa_nil (star_cons hs)) (star_cons hs)
end
/-! rows -/
section
variable {CX : CXT} {S : SCx} {Γ : RCx} {X : Cx} {e a b c v : Expr} {es : List Expr} {x : Str} {p q pos : Pos} {r ra rb rc : RE} {i j : Nat} {st : Stmt} {sts : List Stmt} {s : RS} {ss t u : List RS}
theorem swaps_no {v : Expr} {t : Option Expr} {l : Nat} {env : Env} (h : noComp v = true) : swapsWith v t l env = pure false := by
  cases v <;> first | rfl | cases h
theorem swaps_cell {v : Expr} {x : Str} {p : Pos} {l : Nat} {env : Env} (h : env.kindOf x = some .cell) : swapsWith v (some (.Name x p)) l env = pure false := by
  cases v <;> first
    | rfl
    | (unfold swapsWith; simp only [h]; have q : (some NameKind.cell == some NameKind.local) = false := rfl; simp only [q, Bool.and_false, Bool.false_and])
theorem swaps_sub {v o i : Expr} {p : Pos} {l : Nat} {env : Env} : swapsWith v (some (.Subscript o i p)) l env = pure false := by
  cases v <;> rfl
theorem stores_sub {v o i : Expr} {p : Pos} {env : Env} : swappedStores [.Subscript o i p] v env = pure none := by
  cases v <;> rfl
theorem GoodS.name (G : GoodS CX S Γ X) (h : kL S i x = true) : PG X (.Name x p) (gName i) := by
  simp only [kL, Bool.and_eq_true, decide_eq_true_eq] at h
  exact pg_name (by rw [G.N]; exact G.nd) (by rw [G.N]; exact h.1) (by rw [G.sc]; exact loc_of h.2) (.inl (G.fnt x))
theorem s_nil : PSs X [] (rdSs Γ []) := pss_nil
theorem s_cons (h : PS X st (rdS Γ s)) (t : PSs X sts (rdSs Γ ss)) : PSs X (st :: sts) (rdSs Γ (s :: ss)) := pss_cons h t
theorem s_asg (G : GoodS CX S Γ X) (h : kL S i x = true) (hc : (noComp v || decide (S.sc.names.lookup x = some .cell)) = true) (he : PE X v (rdE Γ r)) : PS X (.Assign [.Name x p] v q) (rdS Γ (.asg i r)) := by
  simp only [kL, Bool.and_eq_true, decide_eq_true_eq, Bool.or_eq_true] at h hc
  refine ps_set (by rw [G.N]; exact G.nd) (by rw [G.N]; exact h.1) (by rw [G.sc]; exact loc_of h.2) he ?_ (.inl (G.fnt x))
  rcases hc with h4 | h4
  · exact swaps_no h4
  · exact swaps_cell (by show X.env.scope.names.lookup x = _; rw [G.sc]; exact h4)
theorem s_asgC {tk : Option Nat} {fv : List (Str × Nat)} {k : IK} {its : List RE} {cond : Option RE} {elt : RE} {el tg iter : Expr} {ifs : List Expr} {sc : Scope} {ln : List Str} {pc : Pos} (G : GoodS CX S Γ X) (h0 : kL S i x = true) (hs : swapB S.sc x p.line sc pc = true) (h : kC S tk tg iter sc k ln fv = true) (hi : PI X tg iter (rdI Γ k its))
    (hc : dIfs CX (cS S sc ln fv) Γ.calm cond ifs) (he : ∀ X, Good CX (cS S sc ln fv) Γ.calm X → PE X el (rdE Γ.calm elt)) (hq : S.md = 0 := by rfl) : PS X (.Assign [.Name x p] (.ListComp el [⟨tg, iter, ifs, 0⟩] sc pc) q) (rdS Γ (.asgC i (.comp tk fv k its cond elt))) := by
  simp only [kC, kL, swapB, Bool.and_eq_true, decide_eq_true_eq, beq_iff_eq, Bool.not_eq_true'] at h h0 hs
  obtain ⟨⟨h1, h2⟩, h3⟩ := h
  obtain ⟨o1, o2, o3, o4⟩ := CompB_ok (c := ⟨.Constant .none 0 ⟨0, 0, 0, 0⟩, tg, iter, [], sc⟩) G.toGood h3
  show PS X _ (tAsg (tComp Γ.K (rdI Γ k its) tk fv (rdC Γ.calm cond) (rdE Γ.calm elt)) (gName i))
  rw [← G.K]
  refine ps_setComp (by rw [G.N]; exact G.nd) (by rw [G.N]; exact h0.1) (by rw [G.sc]; exact loc_of h0.2) ?_ o1 (G.calm hq) hi (tgt_ok (c := ⟨.Constant .none 0 ⟨0, 0, 0, 0⟩, tg, iter, [], sc⟩) (G.calm hq) h1 o2 o3) ?_ (fun ex C s H => he _ (G.toGood.inner ⟨.Constant .none 0 ⟨0, 0, 0, 0⟩, tg, iter, [], sc⟩ ln fv ex C s H)) (set_of o4) (.inl (G.fnt x))
  · have e1 : X.env.kindOf x = some .local := by show X.env.scope.names.lookup x = _; rw [G.sc]; exact hs.1.1.2
    have e2 : X.env.blockKind = .function := by unfold Env.blockKind; rw [G.fun']; rfl
    unfold swapsWith
    simp only [e1, e2, hs.1.2, hs.2]
    show pure (true && true && (pc.line == pc.line) && !false) = pure true
    rw [beq_self_eq_true]; rfl
  · cases cond with
    | none => exact hc
    | some r =>
      obtain ⟨e0, q, hq⟩ := hc
      exact ⟨e0, q, fun ex C s H => hq _ (G.toGood.inner ⟨.Constant .none 0 ⟨0, 0, 0, 0⟩, tg, iter, [], sc⟩ ln fv ex C s H)⟩
/-- y = [.. for a, b in a list if ..] in a def that suites call -/
theorem s_asgCH {fv : List (Str × Nat)} {cond : Option RE} {elt : RE} {el iter : Expr} {ifs : List Expr} {sc : Scope} {n1 n2 : Str} {p1 p2 tp : Pos} {kt} {pc : Pos} (G : GoodS CX S Γ X) (h0 : kL S i x = true) (hs : swapB S.sc x p.line sc pc = true) (h : kC S (some 2) (.Tuple [.Name n1 p1, .Name n2 p2] kt tp) iter sc .list [n1, n2] fv = true) (hi : PE X iter (rdE Γ ra))
    (hc : dIfs CX (cS S sc [n1, n2] fv) Γ.calm cond ifs) (he : ∀ X, Good CX (cS S sc [n1, n2] fv) Γ.calm X → PE X el (rdE Γ.calm elt)) (hq : S.md = 1 := by rfl) : PS X (.Assign [.Name x p] (.ListComp el [⟨.Tuple [.Name n1 p1, .Name n2 p2] kt tp, iter, ifs, 0⟩] sc pc) q) (rdS Γ (.asgC i (.comp (some 2) fv .list [ra] cond elt))) := by
  simp only [kC, kL, swapB, Bool.and_eq_true, decide_eq_true_eq, beq_iff_eq, Bool.not_eq_true'] at h h0 hs
  obtain ⟨⟨h1, h2⟩, h3⟩ := h
  obtain ⟨o1, o2, o3, o4⟩ := CompB_ok (c := ⟨.Constant .none 0 ⟨0, 0, 0, 0⟩, .Tuple [.Name n1 p1, .Name n2 p2] kt tp, iter, [], sc⟩) G.toGood h3
  show PS X _ (tAsg (tComp Γ.K (iList Γ.K (rdE Γ ra)) (some 2) fv (rdC Γ.calm cond) (rdE Γ.calm elt)) (gName i))
  rw [← G.K]
  have hH : Hd X := G.hdo hq
  refine ps_setCompP (Φ := Hd) (Ψ := HdAt X.A) (by rw [G.N]; exact G.nd) (by rw [G.N]; exact h0.1) (by rw [G.sc]; exact loc_of h0.2) ?_ o1 hd_comp (fun _ _ _ _ I => hH.at I) (pi_listH hi) (tgt_twoH (o2 n1 (by simp)) (o2 n2 (by simp)) o3) ?_ (fun ex C s H => he _ (G.toGood.inner ⟨.Constant .none 0 ⟨0, 0, 0, 0⟩, .Tuple [.Name n1 p1, .Name n2 p2] kt tp, iter, [], sc⟩ [n1, n2] fv ex C s H)) (set_of o4) (.inl (G.fnt x))
  · have e1 : X.env.kindOf x = some .local := by show X.env.scope.names.lookup x = _; rw [G.sc]; exact hs.1.1.2
    have e2 : X.env.blockKind = .function := by unfold Env.blockKind; rw [G.fun']; rfl
    unfold swapsWith
    simp only [e1, e2, hs.1.2, hs.2]
    show pure (true && true && (pc.line == pc.line) && !false) = pure true
    rw [beq_self_eq_true]; rfl
  · cases cond with
    | none => exact hc
    | some r =>
      obtain ⟨e0, q, hq⟩ := hc
      exact ⟨e0, q, fun ex C s H => hq _ (G.toGood.inner ⟨.Constant .none 0 ⟨0, 0, 0, 0⟩, .Tuple [.Name n1 p1, .Name n2 p2] kt tp, iter, [], sc⟩ [n1, n2] fv ex C s H)⟩
theorem s_set (h : noSl b = true) (he : PE X v (rdE Γ r)) (ha : PE X a (rdE Γ ra)) (hb : PE X b (rdE Γ rb)) : PS X (.Assign [.Subscript a b p] v q) (rdS Γ (.set ra rb r)) :=
  ps_asg he (pg_sub ha hb set_list (by intro w; cases b <;> first | rfl | cases h)) (by exact swaps_sub (o := a) (i := b) (p := p) (l := q.line) (env := X.env)) stores_sub rfl
theorem s_drop (h : noComp v = true) (he : PE X v (rdE Γ r)) : PS X (.Expr v p) (rdS Γ (.drop r)) := ps_expr he (swaps_no h)
theorem s_ret (he : PE X v (rdE Γ r)) : PS X (.Return (some v) p) (rdS Γ (.ret r)) := ps_ret he
theorem s_ite {as bs : List Stmt} (hc : PT X c (rdT Γ rc)) (ha : PSs X as (rdSs Γ t)) (hb : PSs X bs (rdSs Γ u)) : PS X (.If c as bs p) (rdS Γ (.ite rc t u)) := ps_if hc ha hb
theorem s_for1 {k : IK} {its : List RE} {iter : Expr} {as : List Stmt} (G : GoodS CX S Γ X) (h : kL S i x = true) (hs : noSet iter = true) (hi : PI X (.Name x p) iter (rdI Γ k its)) (ha : PSs X as (rdSs Γ t)) (hq : S.md = 0 := by rfl) : PS X (.For (.Name x p) iter as [] q) (rdS Γ (.for1 i k its t)) :=
  ps_for G.own (G.calm hq) hi (G.name h) ha (set_of hs)
theorem gNames_ok (G : GoodS CX S Γ X) : ∀ (is : List Nat) (xs : List (Str × Pos)), tgIs S.N S.sc is (xs.map (·.1)) = true →
    PGs X (xs.map fun y => .Name y.1 y.2) (gNames is) ∧ (assignEach (xs.map fun y => Expr.Name y.1 y.2) X.env).length = is.length ∧ (assignEach (xs.map fun y => Expr.Name y.1 y.2) X.env).findIdx? (·.1) = none
  | [], xs, h => by
    simp only [tgIs, List.isEmpty_iff, List.map_eq_nil_iff] at h
    subst h; exact ⟨pgs_nil, rfl, rfl⟩
  | i :: r, [], h => by simp only [List.map_nil, tgIs] at h; cases h
  | i :: r, y :: t, h => by
    simp only [List.map_cons, tgIs, Bool.and_eq_true] at h
    obtain ⟨i1, i2, i3⟩ := gNames_ok G r t h.2
    refine ⟨pgs_cons (G.name (by simp only [kL, Bool.and_eq_true]; exact h.1)) i1 rfl, ?_, ?_⟩
    · show (assignEach _ X.env).length + 1 = r.length + 1
      rw [i2]
    · show List.findIdx? (·.1) ((false, assign (.Name y.1 y.2) X.env) :: assignEach _ X.env) = none
      rw [List.findIdx?_cons, i3]; rfl
theorem s_forT {is : List Nat} {k : IK} {its : List RE} {iter : Expr} {as : List Stmt} {kt} {tp : Pos} (xs : List (Str × Pos)) (G : GoodS CX S Γ X) (h : tgIs S.N S.sc is (xs.map (·.1)) = true) (hs : noSet iter = true) (hi : PI X (.Tuple (xs.map fun y => .Name y.1 y.2) kt tp) iter (rdI Γ k its)) (ha : PSs X as (rdSs Γ t)) (hq : S.md = 0 := by rfl) :
    PS X (.For (.Tuple (xs.map fun y => .Name y.1 y.2) kt tp) iter as [] q) (rdS Γ (.forT is k its t)) := by
  obtain ⟨i1, i2, i3⟩ := gNames_ok G is xs h
  show PS X _ (tFor (rdI Γ k its) (gSeq Γ.K is.length (gNames is)) (rdSs Γ t))
  rw [← G.K]
  exact ps_for G.own (G.calm hq) hi (pg_seq (G.calm hq) i1 i2 i3) ha (set_of hs)
def noTup : Expr → Bool
  | .Tuple .. => false | _ => true
/-- a, b = e -/
theorem s_asgT {is : List Nat} {kt} {tp : Pos} (xs : List (Str × Pos)) (G : GoodS CX S Γ X) (h : tgIs S.N S.sc is (xs.map (·.1)) = true) (hc : (noComp v && noTup v) = true) (he : PE X v (rdE Γ r)) (hq : S.md = 0 := by rfl) :
    PS X (.Assign [.Tuple (xs.map fun y => .Name y.1 y.2) kt tp] v q) (rdS Γ (.asgT is r)) := by
  simp only [Bool.and_eq_true] at hc
  obtain ⟨i1, i2, i3⟩ := gNames_ok G is xs h
  show PS X _ (tAsg (rdE Γ r) (gSeq Γ.K is.length (gNames is)))
  rw [← G.K]
  refine ps_asg he (pg_seq (G.calm hq) i1 i2 i3) (by show swapsWith v (some (.Tuple (xs.map fun y => Expr.Name y.1 y.2) kt tp)) q.line X.env = pure false; exact swaps_no hc.1) ?_ rfl
  have h2 := hc.2
  cases v <;> first | rfl | cases h2
/-- raise C(..) -/
def kX (S : SCx) (j : Nat) (x : Str) : Bool := decide (S.en[j]? = some x) && glo S.sc x && !(x == ("__debug__" : Str))
theorem s_raise {rs : List RE} {np cpos : Pos} (G : GoodS CX S Γ X) (h : kX S j x = true) (hn : nst (e :: es) = true) (hA : PA X (e :: es) (rdA Γ (r :: rs))) (hq : S.md = 0 := by rfl) : PS X (.Raise (some (.Call (.Name x np) (e :: es) [] cpos)) none pos) (rdS Γ (.rais j (r :: rs))) := by
  simp only [kX, Bool.and_eq_true, decide_eq_true_eq, Bool.not_eq_true'] at h
  obtain ⟨bm, B, newId, initId, O, FB⟩ := G.exs j x h.1.1
  exact ps_raise (G.calm hq) O FB (G.gl h.1.2) h.2 hA (star_cons (nst_cons hn).1) (stars_of _ _ es (nst_cons hn).2) (G.rs j x h.1.1)
/-- the context of a try's body, of an except suite -/
abbrev tS (S : SCx) : SCx := { S with en := [] }
abbrev hS (S : SCx) : SCx := { S with en := [], md := 2 }
theorem GoodS.tried (G : GoodS CX S Γ X) (pn : List (Addr × Obj)) (xe : Value → Shared → Prop) (E : XK) (ho : PassesOwn (model X.prog X.w) X.A X.env xe) (hp : Passes (CXe X.prog X.w) (X.alt X.A X.calm pn xe) E) :
    GoodS CX (tS S) { Γ with E := E } (X.alt X.A X.calm pn xe) :=
  { N := G.N, sc := G.sc, K := G.K, calm := G.calm, units := G.units, fns := G.fns, gvs := G.gvs, bls := G.bls, pass := by rw [G.hcx]; exact hp, noE := G.noE, sds := G.sds, mts := G.mts, mks := G.mks,
    exs := fun _ _ h => (by simp at h), hsf := G.hsf, hvo := G.hvo, hdo := G.hdo, nd := G.nd, fnt := G.fnt, own := ho, fun' := G.fun', rs := fun _ _ h => (by simp at h), stk := G.stk, frm := G.frm, exn := G.exn, hcx := G.hcx }
theorem GoodS.held (G : GoodS CX S Γ X) (ea : Addr) (pn : List (Addr × Obj)) :
    GoodS CX (hS S) { Γ with E := E0, hv := some ea } (X.alt (X.A.mark (some (.ref ea))) false pn fun _ _ => False) :=
  { N := G.N, sc := G.sc, K := G.K, calm := fun h => (nomatch h), units := G.units, fns := fun h => (nomatch h), gvs := G.gvs, bls := G.bls, pass := fun _ _ _ _ _ _ _ h => (G.noE _ _ _ _ _ h).elim, noE := G.noE, sds := G.sds, mts := fun h => (nomatch h), mks := fun h => (nomatch h),
    exs := fun _ _ h => (by simp at h), hsf := fun j x h => (by
      obtain ⟨k, f, fd, ps, F, r, m⟩ := G.hsf j x h
      exact ⟨k, f, fd, ps, F, r.mark _, m⟩),
    hvo := fun e h => (by cases h; rfl), hdo := fun h => (nomatch h), nd := G.nd, fnt := G.fnt, own := PassesOwn.never, fun' := G.fun', rs := fun _ _ h => (by simp at h), stk := G.stk, frm := G.frm, exn := G.exn, hcx := G.hcx }
/-- try: ..; except C as y: .. -/
theorem s_try {n : Nat} {y : Str} {np hpos : Pos} {body su : List Stmt} {b₀ : Stmt} {rb rsu : List RS} (G : GoodS CX S Γ X) (h : kG S j x = true) (hn : (decide (S.N.length = n) && decide (S.N[i]? = some y) && decide (S.sc.names.lookup y = some .local)) = true)
    (hb : ∀ {Γ : RCx} {X : Cx}, GoodS CX (tS S) Γ X → PSs X body (rdSs Γ rb)) (hs : ∀ {Γ : RCx} {X : Cx}, GoodS CX (hS S) Γ X → PSs X (b₀ :: su) (rdSs Γ rsu)) :
    PS X (.Try body [.ExceptHandler (some (.Name x np)) (some y) (b₀ :: su) hpos] [] [] pos) (rdS Γ (.tryr n i j rb rsu)) := by
  simp only [kG, Bool.and_eq_true, decide_eq_true_eq, Bool.not_eq_true'] at h hn
  obtain ⟨u, hm, hu⟩ := G.gvs j x h.1.1
  intro pins s σ H D I q
  obtain ⟨C, e, q⟩ := (show ∃ C, Γ.gv j = .ref C ∧ sTry Γ.K C i n (fun E => rdSs { Γ with E := E } rb) (fun ea => rdSs { Γ with E := E0, hv := some ea } rsu) D σ H from q)
  rw [e] at hu
  have hu' : u = .ref C := hu
  subst hu'
  have hl : X.N.length = n := by rw [G.N]; exact hn.1.1
  have q' : sTry X.K C i X.N.length (fun E => rdSs { Γ with E := E } rb) (fun ea => rdSs { Γ with E := E0, hv := some ea } rsu) D σ H := by rw [G.K, hl]; exact q
  exact ps_try (tb := fun E => rdSs { Γ with E := E } rb) (th := fun ea => rdSs { Γ with E := E0, hv := some ea } rsu) G.stk G.frm G.exn (G.gl h.1.2) h.2 hm (by rw [G.N]; exact G.nd) (by rw [G.N]; exact hn.1.2) (by rw [G.sc]; exact hn.2)
    (fun pn xe E ho hp => hb (G.tried pn xe E ho hp)) (fun ea pn => hs (G.held ea pn)) pins s σ H D I q'
end
end L2
set_option maxRecDepth 100000
set_option maxHeartbeats 4000000
namespace L2
open PySem PySem.Spec PyProof.Rows
/-! ### a def by its reading -/
section
variable {P : Program} {w : World} {K : PySem.W.Frag} {mg : Str → Option Value} {base : Heap}
/-- the def called x keeps the promise sp, k calls deep at the most -/
def FnT (P : Program) (w : World) (K : PySem.W.Frag) (mg : Str → Option Value) (base : Heap) (k : Nat) (x : Str) (sp : Sp) : Prop :=
  ∃ f fd ps, FnOk P w K mg base (CXe P w) k f fd ps sp ∧ mg x = some (.ref f) ∧ PySem.W.keepIn K (.ref f) = true ∧ Binds K fd ps []
theorem FnT.mono {j k : Nat} {x : Str} {sp : Sp} (h : FnT P w K mg base j x sp) (hk : j ≤ k) : FnT P w K mg base k x sp := by
  obtain ⟨f, fd, ps, F, r⟩ := h
  exact ⟨f, fd, ps, F.mono hk, r⟩
def spAt (tab : List (Str × Sp)) (j : Nat) : Sp := match tab[j]? with
  | some p => p.2
  | none => fun _ _ _ _ => False
def gvAt (tab : List (Str × V)) (j : Nat) : V := match tab[j]? with
  | some p => p.2
  | none => .non
structure GvT (mg : Str → Option Value) (p : Str × V) : Prop where
  ex : ∃ u, mg p.1 = some u ∧ RelV p.2 u
def mtAt (tab : List (Str × Addr × Sp)) (j : Nat) : Addr × Sp := match tab[j]? with
  | some p => p.2
  | none => (0, fun _ _ _ _ => False)
def exAt (tab : List (Str × Addr)) (j : Nat) : Addr := match tab[j]? with
  | some p => p.2
  | none => 0
abbrev rcx (K : PySem.W.Frag) (tab : List (Str × Sp)) (gt : List (Str × V)) (dk : List (Addr × List (Key × V)) := []) (mt kt : List (Str × Addr × Sp) := []) (et : List (Str × Addr) := []) (ht : List (Str × Sp) := []) (E : XK := E0) : RCx :=
  { K := K, fs := spAt tab, gv := gvAt gt, E := E, sd := fun p kvs => (p, kvs) ∈ dk, ms := mtAt mt, kt := mtAt kt, ex := exAt et, hs := spAt ht, hv := none }
/-- a method; a class that is made -/
def MtT (P : Program) (w : World) (K : PySem.W.Frag) (mg : Str → Option Value) (base : Heap) (k : Nat) (p : Str × Addr × Sp) : Prop :=
  Cls K p.2.1 ∧ ∃ f fd ps, Meth K p.2.1 p.1 f ∧ FnOk P w K mg base (CXe P w) k f fd ps p.2.2 ∧ Binds K fd ps []
def MkT (P : Program) (w : World) (K : PySem.W.Frag) (mg : Str → Option Value) (base : Heap) (k : Nat) (p : Str × Addr × Sp) : Prop :=
  ∃ j f fd ps, j + 1 ≤ k ∧ Mk K p.2.1 f ∧ FnOk P w K mg base (CXe P w) j f fd ps p.2.2 ∧ mg p.1 = some (.ref p.2.1) ∧ Binds K fd ps []
/-- a dict of the module's -/
def DkT (P : Program) (w : World) (K : PySem.W.Frag) (q : Addr × List (Key × V)) : Prop := ∀ h : Heap, K.In h → ∃ vs, KV q.2 vs ∧ h.DictOf (mixKind P w) q.1 vs
abbrev scx (N : List Str) (sc : Scope) (tab : List Str) (gt : List Str) (bl : List Str) (mn kn : List Str := []) (en hn : List Str := []) (md : Nat := 0) : SCx := { N := N, sc := sc, fn := tab, gn := gt, bl := bl, mn := mn, kn := kn, en := en, hn := hn, md := md }
/-- a class of exceptions that is raised; a def that suites call -/
def ExT (mg : Str → Option Value) (base : Heap) (p : Str × Addr) : Prop := ∃ bm B newId initId, OwnCls p.1 p.2 bm newId mg base ∧ ExcBaseFacts B newId initId bm
def FnTH (P : Program) (w : World) (K : PySem.W.Frag) (mg : Str → Option Value) (base : Heap) (k : Nat) (x : Str) (sp : Sp) : Prop :=
  ∃ f fd ps, FnOkH P w K mg base k f fd ps sp ∧ mg x = some (.ref f) ∧ PySem.W.keepIn K (.ref f) = true ∧ Binds K fd ps []
theorem FnTH.mono {P : Program} {w : World} {K : PySem.W.Frag} {mg : Str → Option Value} {base : Heap} {j k : Nat} {x : Str} {sp : Sp} (h : FnTH P w K mg base j x sp) (hk : j ≤ k) : FnTH P w K mg base k x sp := by
  obtain ⟨f, fd, ps, F, r⟩ := h
  exact ⟨f, fd, ps, F.mono hk, r⟩
theorem def_fnX {x qual : Str} {st : Stmt} {f : Addr} {fd : FuncData} {N ps : List Str} {k : Nat} {sp : Sp} (F : Fun K x qual st f fd) (S : FnScope N ps (defScope st))
    (tab : List (Str × Sp)) (gt : List (Str × V)) (bl : List Str) (mt kt : List (Str × Addr × Sp)) (et : List (Str × Addr)) (ht : List (Str × Sp)) (body : List RS)
    (hm : ∀ {CX : CXT} {Γ : RCx} {X : Cx}, GoodS CX (scx N (defScope st) (tab.map (·.1)) (gt.map (·.1)) bl (mt.map (·.1)) (kt.map (·.1)) (et.map (·.1)) (ht.map (·.1))) Γ X → PSs X (defBody st) (rdSs Γ body))
    (hfs : ∀ p ∈ tab, FnT P w K mg base k p.1 p.2) (hgs : ∀ p ∈ gt, GvT mg p) (hbl : ∀ y ∈ bl, mg y = none) (dk : List (Addr × List (Key × V))) (hdk : ∀ q ∈ dk, DkT P w K q)
    (hmt : ∀ p ∈ mt, MtT P w K mg base k p) (hkt : ∀ p ∈ kt, MkT P w K mg base k p) (het : ∀ p ∈ et, ExT mg base p) (hht : ∀ p ∈ ht, FnTH P w K mg base k p.1 p.2)
    (len : ∀ vs H Q E, sp vs H Q E → vs.length = ps.length)
    (hread : ∀ vs H Q E, sp vs H Q E → rdSs (rcx K tab gt dk mt kt et ht E) body { nx := fun _ H' => Q .non H', rt := Q } (start N vs) H) : FnOk P w K mg base (CXe P w) (k + 1) f fd ps sp := by
  obtain ⟨oc, od, kV, doc, pm, an, cdv, ct, osl, rfl, lk, hcd⟩ := F.ex
  refine fn_of lk hcd S len fun A outer s H vs Q E hr hsp => ⟨_, hm (CX := CXe P w) (Γ := rcx K tab gt dk mt kt et ht E) ?_, hread vs H Q E hsp⟩
  refine { N := rfl, sc := rfl, K := rfl, calm := fun _ => rfl, units := hr.units, fns := fun _ j y hj => ?_, gvs := fun j y hj => ?_, bls := fun y hy => ?_, pass := passE, noE := fun _ _ _ _ _ h => cxe_none h, sds := fun p kvs h => hdk _ h, mts := fun _ j y hj => ?_, mks := fun _ j y hj => ?_, exs := fun j y hj => ?_, hsf := fun j y hj => ?_, hvo := fun _ h => (nomatch h), hdo := fun h => (nomatch h), nd := S.nd, fnt := fun _ => rfl, own := PassesOwn.leaving, fun' := S.kind, rs := fun _ _ _ => raiseE, stk := rfl, frm := rfl, exn := rfl, hcx := rfl }
  · have hj' : (tab.map (·.1))[j]? = some y := hj
    rw [List.getElem?_map] at hj'
    cases q : tab[j]? with
    | none => rw [q] at hj'; cases hj'
    | some p =>
      rw [q] at hj'
      have e : p.1 = y := Option.some.inj hj'
      obtain ⟨f', fd', ps', F', m', k', b'⟩ := hfs p (List.mem_of_getElem? q)
      have es : spAt tab j = p.2 := by unfold spAt; rw [q]
      show FnFor (CXe P w) _ y (spAt tab j)
      rw [es, ← e]
      exact ⟨k, f', fd', ps', F', hr, m', k', b'⟩
  · have hj' : (gt.map (·.1))[j]? = some y := hj
    rw [List.getElem?_map] at hj'
    cases q : gt[j]? with
    | none => rw [q] at hj'; cases hj'
    | some p =>
      rw [q] at hj'
      have e : p.1 = y := Option.some.inj hj'
      obtain ⟨u, h1, h2⟩ := (hgs p (List.mem_of_getElem? q)).ex
      have es : gvAt gt j = p.2 := by unfold gvAt; rw [q]
      show ∃ u, mg y = some u ∧ RelV (gvAt gt j) u
      rw [es, ← e]
      exact ⟨u, h1, h2⟩
  · exact hbl y (by simpa using hy)
  · have hj' : (mt.map (·.1))[j]? = some y := hj
    rw [List.getElem?_map] at hj'
    cases q : mt[j]? with
    | none => rw [q] at hj'; cases hj'
    | some p =>
      rw [q] at hj'
      have e : p.1 = y := Option.some.inj hj'
      obtain ⟨c, f', fd', ps', m', F', b'⟩ := hmt p (List.mem_of_getElem? q)
      have es : mtAt mt j = p.2 := by unfold mtAt; rw [q]
      show MtFor (CXe P w) _ (mtAt mt j).1 y (mtAt mt j).2
      rw [es, ← e]
      exact ⟨c, k, f', fd', ps', m', F', hr, b'⟩
  · have hj' : (kt.map (·.1))[j]? = some y := hj
    rw [List.getElem?_map] at hj'
    cases q : kt[j]? with
    | none => rw [q] at hj'; cases hj'
    | some p =>
      rw [q] at hj'
      have e : p.1 = y := Option.some.inj hj'
      obtain ⟨i, f', fd', ps', hi, m', F', g', b'⟩ := hkt p (List.mem_of_getElem? q)
      have es : mtAt kt j = p.2 := by unfold mtAt; rw [q]
      show MkFor (CXe P w) _ y (mtAt kt j).1 (mtAt kt j).2
      rw [es, ← e]
      exact ⟨i, f', fd', ps', m', F', hr.mono hi, g', b'⟩
  · have hj' : (et.map (·.1))[j]? = some y := hj
    rw [List.getElem?_map] at hj'
    cases q : et[j]? with
    | none => rw [q] at hj'; cases hj'
    | some p =>
      rw [q] at hj'
      have e : p.1 = y := Option.some.inj hj'
      have es : exAt et j = p.2 := by unfold exAt; rw [q]
      show ExFor _ y (exAt et j)
      rw [es, ← e]
      exact het p (List.mem_of_getElem? q)
  · have hj' : (ht.map (·.1))[j]? = some y := hj
    rw [List.getElem?_map] at hj'
    cases q : ht[j]? with
    | none => rw [q] at hj'; cases hj'
    | some p =>
      rw [q] at hj'
      have e : p.1 = y := Option.some.inj hj'
      obtain ⟨f', fd', ps', F', m', k', b'⟩ := hht p (List.mem_of_getElem? q)
      have es : spAt ht j = p.2 := by unfold spAt; rw [q]
      show FnForH _ y (spAt ht j)
      rw [es, ← e]
      exact ⟨k, f', fd', ps', F', hr.h, m', k', b'⟩
section
variable {x qual : Str} {st : Stmt} {f C : Addr} {fd : FuncData} {N ps : List Str} {k : Nat} {sp : Sp}
end
end
section
variable {P : Program} {w : World} {K : PySem.W.Frag} {mg : Str → Option Value} {base : Heap} {x qual : Str} {st : Stmt} {f : Addr} {fd : FuncData} {N ps : List Str} {k : Nat} {sp : Sp}
/-- a def that suites call -/
theorem def_okH (F : Fun K x qual st f fd) (S : FnScope N ps (defScope st)) (hmg : mg x = some (.ref f)) (hb : Binds K fd ps [])
    (gt : List (Str × V)) (bl : List Str) (body : List RS)
    (hm : ∀ {CX : CXT} {Γ : RCx} {X : Cx}, GoodS CX (scx N (defScope st) [] (gt.map (·.1)) bl (md := 1)) Γ X → PSs X (defBody st) (rdSs Γ body))
    (hgs : ∀ p ∈ gt, GvT mg p) (hbl : ∀ y ∈ bl, mg y = none) (len : ∀ vs H Q E, sp vs H Q E → vs.length = ps.length)
    (hread : ∀ vs H Q, sp vs H Q E0 → rdSs (rcx K [] gt) body { nx := fun _ H' => Q .non H', rt := Q } (start N vs) H) : FnTH P w K mg base (k + 1) x sp := by
  obtain ⟨oc, od, kV, doc, pm, an, cdv, ct, osl, rfl, lk, hcd⟩ := F.ex
  refine ⟨f, _, ps, fn_ofH (CX := CXe P w) lk hcd S len fun A outer s H vs Q hr hh hsp => ⟨_, hm (CX := CXe P w) (Γ := rcx K [] gt) ?_, hread vs H Q hsp⟩, hmg, F.kp, hb⟩
  refine { N := rfl, sc := rfl, K := rfl, calm := fun h => (nomatch h), units := hr.units, fns := fun h => (nomatch h), gvs := fun j y hj => ?_, bls := fun y hy => ?_, pass := fun _ _ _ _ _ _ _ h => (cxe_none h).elim, noE := fun _ _ _ _ _ h => cxe_none h, sds := fun p kvs h => (nomatch h), mts := fun h => (nomatch h), mks := fun h => (nomatch h), exs := fun j y hj => (nomatch hj), hsf := fun j y hj => (nomatch hj), hvo := fun _ h => (nomatch h), hdo := fun _ => hd_cxOfH hh, nd := S.nd, fnt := fun _ => rfl, own := PassesOwn.never, fun' := S.kind, rs := fun _ _ hj => (nomatch hj), stk := rfl, frm := rfl, exn := rfl, hcx := rfl }
  · have hj' : (gt.map (·.1))[j]? = some y := hj
    rw [List.getElem?_map] at hj'
    cases q : gt[j]? with
    | none => rw [q] at hj'; cases hj'
    | some p =>
      rw [q] at hj'
      have e : p.1 = y := Option.some.inj hj'
      obtain ⟨u, h1, h2⟩ := (hgs p (List.mem_of_getElem? q)).ex
      have es : gvAt gt j = p.2 := by unfold gvAt; rw [q]
      show ∃ u, mg y = some u ∧ RelV (gvAt gt j) u
      rw [es, ← e]
      exact ⟨u, h1, h2⟩
  · exact hbl y (by simpa using hy)
/-- at the top no exception is wanted -/
theorem FnOk.top {k : Nat} (F : FnOk P w K mg base (CXe P w) k f fd ps sp) : FnOk P w K mg base CX0 k f fd ps (fun vs H Q _ => sp vs H Q E0) :=
  ⟨fun vs H Q E h => F.len vs H Q E0 h, fun A outer s H args us vs Q E hr e0 hb hv hs => codeAny_mono (F.run A outer s H args us vs Q E0 hr e0 hb hv hs) fun r s' h => by
    cases r with
    | error e => exact (cxe_none h).elim
    | ok fl => cases fl <;> exact h⟩
end
/-! ### steps of a reading -/
section
variable {Γ : RCx} {D : Ends} {σ : St} {H : Hp} {r : List RS} {Q : VK}
theorem rd_asg {i : Nat} {e : RE} (h : rdE Γ e σ H fun x H1 => rdSs Γ r D (σ.set i (some x)) H1) : rdSs Γ (.asg i e :: r) D σ H := h
theorem rd_asgC {i : Nat} {e : RE} (h : rdE Γ e σ H fun x H1 => rdSs Γ r D (σ.set i (some x)) H1) : rdSs Γ (.asgC i e :: r) D σ H := h
theorem rd_ite {c : RE} {t e : List RS} (h : rdT Γ c σ H fun b H1 => if b = true then rdSs Γ t { D with nx := rdSs Γ r D } σ H1 else rdSs Γ e { D with nx := rdSs Γ r D } σ H1) : rdSs Γ (.ite c t e :: r) D σ H := h
theorem rd_blt {b : Blt} {as : List RE} (h : rdA Γ as σ H fun vs H1 => rBlt Γ.K b vs H1 Q) : rdE Γ (.blt b as) σ H Q := h
theorem rd_a1 {a : RE} {Q : List V → Hp → Prop} (h : rdE Γ a σ H fun x H1 => Q [x] H1) : rdA Γ [a] σ H Q := h
end
end L2
set_option maxRecDepth 100000
namespace L2.B
open PySem PySem.Spec PyProof.Rows
/-! ### is_whole -/
def N_is_whole : List Str := ["thing"]
def P_is_whole : List Str := ["thing"]
def b_is_whole : List RS :=
  [.ret (.and [(.isi .int (.v 0)), (.not (.isi .bool (.v 0)))])]
def f_is_whole : List Str := []
def g_is_whole : List Str := []
def l_is_whole : List Str := ["isinstance", "int", "bool"]
def mn_is_whole : List Str := []
def kn_is_whole : List Str := []
def en_is_whole : List Str := []
def hn_is_whole : List Str := []
/-! ### is_word -/
def N_is_word : List Str := ["thing", "words"]
def P_is_word : List Str := ["thing", "words"]
def b_is_word : List RS :=
  [.ret (.and [(.isi .str (.v 0)), (.cmp .In (.v 0) (.v 1))])]
def f_is_word : List Str := []
def g_is_word : List Str := []
def l_is_word : List Str := ["isinstance", "str"]
def mn_is_word : List Str := []
def kn_is_word : List Str := []
def en_is_word : List Str := []
def hn_is_word : List Str := []
/-! ### is_text -/
def N_is_text : List Str := ["thing"]
def P_is_text : List Str := ["thing"]
def b_is_text : List RS :=
  [.ret (.and [(.isi .str (.v 0)), (.cmp .Eq (.mth .lstrip (.v 0) [(.g 0)]) (.c (.str "")))])]
def f_is_text : List Str := []
def g_is_text : List Str := ["SIGNS"]
def l_is_text : List Str := ["isinstance", "str"]
def mn_is_text : List Str := []
def kn_is_text : List Str := []
def en_is_text : List Str := []
def hn_is_text : List Str := []
/-! ### need_text -/
def N_need_text : List Str := ["thing"]
def P_need_text : List Str := ["thing"]
def b_need_text : List RS :=
  [.ite (.not (.call 0 [(.v 0)])) [.rais 0 [(.c (.str "a text is a str of signs from the blank to the tilde, and line feeds"))]] []]
def f_need_text : List Str := ["is_text"]
def g_need_text : List Str := []
def l_need_text : List Str := []
def mn_need_text : List Str := []
def kn_need_text : List Str := []
def en_need_text : List Str := ["BadText"]
def hn_need_text : List Str := []
/-! ### is_part -/
def N_is_part : List Str := ["thing"]
def P_is_part : List Str := ["thing"]
def b_is_part : List RS :=
  [.ite (.or [(.not (.isi .tuple (.v 0))), (.cmp .NotEq (.blt .len [(.v 0)]) (.c (.int 2)))]) [.ret (.c (.bl false))] [],
  .ite (.call 0 [(.ix (.v 0) (.c (.int 0))), (.tup [(.c (.str "keep"))])]) [.ret (.and [(.call 1 [(.ix (.v 0) (.c (.int 1)))]), (.cmp .GtE (.ix (.v 0) (.c (.int 1))) (.c (.int 1)))])] [],
  .ret (.and [(.call 0 [(.ix (.v 0) (.c (.int 0))), (.tup [(.c (.str "cut")), (.c (.str "put"))])]), (.call 2 [(.ix (.v 0) (.c (.int 1)))]), (.cmp .NotEq (.ix (.v 0) (.c (.int 1))) (.c (.str "")))])]
def f_is_part : List Str := ["is_word", "is_whole", "is_text"]
def g_is_part : List Str := []
def l_is_part : List Str := ["isinstance", "tuple", "len"]
def mn_is_part : List Str := []
def kn_is_part : List Str := []
def en_is_part : List Str := []
def hn_is_part : List Str := []
/-! ### may_follow -/
def N_may_follow : List Str := ["word", "ahead"]
def P_may_follow : List Str := ["word", "ahead"]
def b_may_follow : List RS :=
  [.ret (.and [(.cmp .NotEq (.v 0) (.v 1)), (.not (.and [(.cmp .Eq (.v 1) (.c (.str "cut"))), (.cmp .Eq (.v 0) (.c (.str "put")))]))])]
def f_may_follow : List Str := []
def g_may_follow : List Str := []
def l_may_follow : List Str := []
def mn_may_follow : List Str := []
def kn_may_follow : List Str := []
def en_may_follow : List Str := []
def hn_may_follow : List Str := []
/-! ### need_change -/
def N_need_change : List Str := ["change", "ahead", "part"]
def P_need_change : List Str := ["change"]
def b_need_change : List RS :=
  [.ite (.not (.isi .list (.v 0))) [.rais 0 [(.c (.str "a change is a list"))]] [],
  .asg 1 (.c (.str "")),
  .for1 2 .list [(.v 0)] [.ite (.not (.call 0 [(.v 2)])) [.rais 0 [(.c (.str "a part is a keep of 1 sign or more, or a cut or put of a text that is not empty"))]] [],
    .ite (.not (.call 1 [(.ix (.v 2) (.c (.int 0))), (.v 1)])) [.rais 0 [(.c (.str "neighbours have two words, and no put stands right behind a cut"))]] [],
    .asg 1 (.ix (.v 2) (.c (.int 0)))]]
def f_need_change : List Str := ["is_part", "may_follow"]
def g_need_change : List Str := []
def l_need_change : List Str := ["isinstance", "list"]
def mn_need_change : List Str := []
def kn_need_change : List Str := []
def en_need_change : List Str := ["BadChange"]
def hn_need_change : List Str := []
/-! ### part_size -/
def N_part_size : List Str := ["part"]
def P_part_size : List Str := ["part"]
def b_part_size : List RS :=
  [.ret (.ife (.cmp .Eq (.ix (.v 0) (.c (.int 0))) (.c (.str "keep"))) (.ix (.v 0) (.c (.int 1))) (.blt .len [(.ix (.v 0) (.c (.int 1)))]))]
def f_part_size : List Str := []
def g_part_size : List Str := []
def l_part_size : List Str := ["len"]
def mn_part_size : List Str := []
def kn_part_size : List Str := []
def en_part_size : List Str := []
def hn_part_size : List Str := []
/-! ### sizes -/
def N_sizes : List Str := ["change", "over", "gives"]
def P_sizes : List Str := ["change"]
def b_sizes : List RS :=
  [.drop (.call 0 [(.v 0)]),
  .asg 1 (.blt .sum [(.comp none [] .list [(.v 0)] (some (.cmp .NotEq (.ix (.v 0) (.c (.int 0))) (.c (.str "put")))) (.call 1 [(.v 0)]))]),
  .asg 2 (.blt .sum [(.comp none [] .list [(.v 0)] (some (.cmp .NotEq (.ix (.v 0) (.c (.int 0))) (.c (.str "cut")))) (.call 1 [(.v 0)]))]),
  .ret (.tup [(.v 1), (.v 2)])]
def f_sizes : List Str := ["need_change", "part_size"]
def g_sizes : List Str := []
def l_sizes : List Str := ["sum"]
def mn_sizes : List Str := []
def kn_sizes : List Str := []
def en_sizes : List Str := []
def hn_sizes : List Str := []
/-! ### add_keep -/
def N_add_keep : List Str := ["change", "size"]
def P_add_keep : List Str := ["change", "size"]
def b_add_keep : List RS :=
  [.ite (.and [(.cmp .Gt (.blt .len [(.v 0)]) (.c (.int 0))), (.cmp .Eq (.ix (.ix (.v 0) (.neg (.c (.int 1)))) (.c (.int 0))) (.c (.str "keep")))]) [.asg 1 (.bin .Add (.v 1) (.ix (.mth .pop (.v 0) []) (.c (.int 1))))] [],
  .drop (.mth .append (.v 0) [(.tup [(.c (.str "keep")), (.v 1)])])]
def f_add_keep : List Str := []
def g_add_keep : List Str := []
def l_add_keep : List Str := ["len"]
def mn_add_keep : List Str := []
def kn_add_keep : List Str := []
def en_add_keep : List Str := []
def hn_add_keep : List Str := []
/-! ### add_texts -/
def N_add_texts : List Str := ["change", "puts", "cuts", "put", "cut"]
def P_add_texts : List Str := ["change", "puts", "cuts"]
def b_add_texts : List RS :=
  [.asg 3 (.mth .join (.c (.str "")) [(.v 1)]),
  .asg 4 (.mth .join (.c (.str "")) [(.v 2)]),
  .ite (.cmp .NotEq (.v 3) (.c (.str ""))) [.drop (.mth .append (.v 0) [(.tup [(.c (.str "put")), (.v 3)])])] [],
  .ite (.cmp .NotEq (.v 4) (.c (.str ""))) [.drop (.mth .append (.v 0) [(.tup [(.c (.str "cut")), (.v 4)])])] []]
def f_add_texts : List Str := []
def g_add_texts : List Str := []
def l_add_texts : List Str := []
def mn_add_texts : List Str := []
def kn_add_texts : List Str := []
def en_add_texts : List Str := []
def hn_add_texts : List Str := []
/-! ### neat -/
def N_neat : List Str := ["parts", "change", "puts", "cuts", "word", "what"]
def P_neat : List Str := ["parts"]
def b_neat : List RS :=
  [.asg 1 (.lst []),
  .asg 2 (.lst []),
  .asg 3 (.lst []),
  .forT [4, 5] .list [(.v 0)] [.ite (.cmp .Eq (.v 4) (.c (.str "put"))) [.drop (.mth .append (.v 2) [(.v 5)])] [.ite (.cmp .Eq (.v 4) (.c (.str "cut"))) [.drop (.mth .append (.v 3) [(.v 5)])] [.ite (.cmp .Gt (.v 5) (.c (.int 0))) [.drop (.call 0 [(.v 1), (.v 2), (.v 3)]),
          .asg 2 (.lst []),
          .asg 3 (.lst []),
          .drop (.call 1 [(.v 1), (.v 5)])] []]]],
  .drop (.call 0 [(.v 1), (.v 2), (.v 3)]),
  .ret (.v 1)]
def f_neat : List Str := ["add_texts", "add_keep"]
def g_neat : List Str := []
def l_neat : List Str := []
def mn_neat : List Str := []
def kn_neat : List Str := []
def en_neat : List Str := []
def hn_neat : List Str := []
/-! ### done -/
/-! ### back -/
def N_back : List Str := ["change"]
def P_back : List Str := ["change"]
def b_back : List RS :=
  [.drop (.call 0 [(.v 0)]),
  .ret (.call 1 [(.comp (some 2) [] .list [(.v 0)] none (.tup [(.ix (.g 0) (.v 0)), (.v 1)]))])]
def f_back : List Str := ["need_change", "neat"]
def g_back : List Str := ["WAYS_BACK"]
def l_back : List Str := []
def mn_back : List Str := []
def kn_back : List Str := []
def en_back : List Str := []
def hn_back : List Str := []
/-! ### cell_atL -/
def N_cell_atL : List Str := ["_law_script", "_law_k"]
def P_cell_atL : List Str := ["_law_script", "_law_k"]
def b_cell_atL : List RS :=
  [.ite (.cmp .Lt (.v 1) (.blt .len [(.v 0)])) [.ret (.ix (.v 0) (.v 1))] [],
  .ret (.c (.int 0))]
def f_cell_atL : List Str := []
def g_cell_atL : List Str := []
def l_cell_atL : List Str := ["len"]
def mn_cell_atL : List Str := []
def kn_cell_atL : List Str := []
def en_cell_atL : List Str := []
def hn_cell_atL : List Str := []
/-! ### mixedL -/
def N_mixedL : List Str := ["_law_cell", "_law_k", "_law_number"]
def P_mixedL : List Str := ["_law_cell", "_law_k"]
def b_mixedL : List RS :=
  [.asg 2 (.bin .Mod (.bin .Add (.bin .Add (.bin .Mult (.v 0) (.c (.int 48271))) (.bin .Mult (.c (.int 7919)) (.v 1))) (.c (.int 11))) (.c (.int 1000003))),
  .ret (.bin .Mod (.bin .Mult (.bin .Mod (.bin .Mult (.v 2) (.v 2)) (.c (.int 1000003))) (.v 2)) (.c (.int 1000003)))]
def f_mixedL : List Str := []
def g_mixedL : List Str := []
def l_mixedL : List Str := []
def mn_mixedL : List Str := []
def kn_mixedL : List Str := []
def en_mixedL : List Str := []
def hn_mixedL : List Str := []
/-! ### textL -/
def N_textL : List Str := ["_law_cell", "_law_size_here", "_law_some"]
def P_textL : List Str := ["_law_cell", "_law_size_here"]
def b_textL : List RS :=
  [.asg 2 (.c (.str " !\"#$&'()*+,-./0123456789:;<=>?@ABCDEFGHIJKLMNOPQRSTUVWXYZ[\\]^_`")),
  .asg 2 (.bin .Add (.v 2) (.c (.str "abcdefghijklmnopqrstuvwxyz{|}~\n"))),
  .ite (.cmp .Eq (.bin .Mod (.v 0) (.c (.int 3))) (.c (.int 0))) [.asg 2 (.c (.str "ab\n"))] [],
  .ret (.mth .join (.c (.str "")) [(.comp none [("_law_some", 2), ("_law_cell", 0)] .rng [(.v 1)] none (.ix (.v 1) (.bin .Mod (.bin .FloorDiv (.call 0 [(.v 2), (.v 0)]) (.c (.int 7))) (.blt .len [(.v 1)]))))])]
def f_textL : List Str := ["_law_mixed"]
def g_textL : List Str := []
def l_textL : List Str := ["range", "len"]
def mn_textL : List Str := []
def kn_textL : List Str := []
def en_textL : List Str := []
def hn_textL : List Str := []
/-! ### sizeL -/
def N_sizeL : List Str := ["_law_cell"]
def P_sizeL : List Str := ["_law_cell"]
def b_sizeL : List RS :=
  [.ite (.cmp .Eq (.bin .Mod (.v 0) (.c (.int 8))) (.c (.int 1))) [.ret (.bin .Mod (.bin .FloorDiv (.v 0) (.c (.int 8))) (.c (.int 401)))] [],
  .ret (.bin .Mod (.bin .FloorDiv (.v 0) (.c (.int 8))) (.c (.int 25)))]
def f_sizeL : List Str := []
def g_sizeL : List Str := []
def l_sizeL : List Str := []
def mn_sizeL : List Str := []
def kn_sizeL : List Str := []
def en_sizeL : List Str := []
def hn_sizeL : List Str := []
/-! ### partsL -/
def N_partsL : List Str := ["_law_cell", "_law_text_here", "_law_many", "_law_parts_here", "_law_at", "_law_k", "_law_number", "_law_size_here", "_law_left"]
def P_partsL : List Str := ["_law_cell", "_law_text_here", "_law_many"]
def b_partsL : List RS :=
  [.asg 3 (.lst []),
  .asg 4 (.c (.int 0)),
  .for1 5 .rng [(.v 2)] [.asg 6 (.call 0 [(.v 0), (.bin .Add (.c (.int 50)) (.v 5))]),
    .asg 7 (.ix (.lst [(.c (.int 1)), (.c (.int 2)), (.c (.int 0)), (.c (.int 3)), (.c (.int 5)), (.c (.int 40))]) (.bin .Mod (.bin .FloorDiv (.v 6) (.c (.int 4))) (.c (.int 6)))),
    .asg 8 (.blt .min [(.v 7), (.bin .Sub (.blt .len [(.v 1)]) (.v 4))]),
    .ite (.cmp .Eq (.bin .Mod (.v 6) (.c (.int 4))) (.c (.int 3))) [.drop (.mth .append (.v 3) [(.tup [(.c (.str "put")), (.call 1 [(.v 6), (.v 7)])])])] [.ite (.cmp .Eq (.bin .Mod (.v 6) (.c (.int 4))) (.c (.int 2))) [.drop (.mth .append (.v 3) [(.tup [(.c (.str "cut")), (.sl (.v 1) (some (.v 4)) (some (.bin .Add (.v 4) (.v 8))))])])] [.drop (.mth .append (.v 3) [(.tup [(.c (.str "keep")), (.v 8)])])]],
    .ite (.cmp .Lt (.bin .Mod (.v 6) (.c (.int 4))) (.c (.int 3))) [.asg 4 (.bin .Add (.v 4) (.v 8))] []],
  .ret (.bin .Add (.v 3) (.lst [(.tup [(.c (.str "keep")), (.bin .Sub (.blt .len [(.v 1)]) (.v 4))])]))]
def f_partsL : List Str := ["_law_mixed", "_law_text"]
def g_partsL : List Str := []
def l_partsL : List Str := ["range", "min", "len"]
def mn_partsL : List Str := []
def kn_partsL : List Str := []
def en_partsL : List Str := []
def hn_partsL : List Str := []
/-! ### neatL -/
def N_neatL : List Str := ["_law_parts_here", "_law_rows", "_law_word", "_law_thing", "_law_found", "_law_put", "_law_cut", "_law_keep", "_law_some"]
def P_neatL : List Str := ["_law_parts_here"]
def b_neatL : List RS :=
  [.asg 1 (.lst [(.lst [(.c (.str "")), (.c (.str "")), (.c (.int 0))])]),
  .forT [2, 3] .list [(.v 0)] [.ite (.cmp .Eq (.v 2) (.c (.str "keep"))) [.set (.ix (.v 1) (.neg (.c (.int 1)))) (.c (.int 2)) (.bin .Add (.ix (.ix (.v 1) (.neg (.c (.int 1)))) (.c (.int 2))) (.v 3))] [.ite (.cmp .NotEq (.v 3) (.c (.str ""))) [.ite (.cmp .Gt (.ix (.ix (.v 1) (.neg (.c (.int 1)))) (.c (.int 2))) (.c (.int 0))) [.drop (.mth .append (.v 1) [(.lst [(.c (.str "")), (.c (.str "")), (.c (.int 0))])])] [],
        .set (.ix (.v 1) (.neg (.c (.int 1)))) (.blt .int [(.cmp .Eq (.v 2) (.c (.str "cut")))]) (.bin .Add (.ix (.ix (.v 1) (.neg (.c (.int 1)))) (.blt .int [(.cmp .Eq (.v 2) (.c (.str "cut")))])) (.v 3))] []]],
  .asg 4 (.lst []),
  .forT [5, 6, 7] .list [(.v 1)] [.asg 8 (.lst [(.tup [(.c (.str "put")), (.v 5)]), (.tup [(.c (.str "cut")), (.v 6)]), (.tup [(.c (.str "keep")), (.v 7)])]),
    .asg 4 (.bin .Add (.v 4) (.comp none [] .list [(.v 8)] (some (.and [(.cmp .NotEq (.ix (.v 0) (.c (.int 1))) (.c (.str ""))), (.cmp .NotEq (.ix (.v 0) (.c (.int 1))) (.c (.int 0)))])) (.v 0)))],
  .ret (.v 4)]
def f_neatL : List Str := []
def g_neatL : List Str := []
def l_neatL : List Str := ["int"]
def mn_neatL : List Str := []
def kn_neatL : List Str := []
def en_neatL : List Str := []
def hn_neatL : List Str := []
/-! ### changeL -/
def N_changeL : List Str := ["_law_cell", "_law_text_here", "_law_many"]
def P_changeL : List Str := ["_law_cell", "_law_text_here", "_law_many"]
def b_changeL : List RS :=
  [.ret (.call 0 [(.call 1 [(.v 0), (.v 1), (.v 2)])])]
def f_changeL : List Str := ["_law_neat", "_law_parts"]
def g_changeL : List Str := []
def l_changeL : List Str := []
def mn_changeL : List Str := []
def kn_changeL : List Str := []
def en_changeL : List Str := []
def hn_changeL : List Str := []
/-! ### sameL -/
/-! ### doneL -/
/-! ### wordL -/
def N_wordL : List Str := ["_law_e", "_law_some", "_law_found_here"]
def P_wordL : List Str := ["_law_e"]
def b_wordL : List RS :=
  [.asg 1 (.lst [(.tup [(.c (.str "text")), (.isx (.v 0) (.g 0))]), (.tup [(.c (.str "change")), (.isx (.v 0) (.g 1))]), (.tup [(.c (.str "fit")), (.isx (.v 0) (.g 2))])]),
  .asg 1 (.bin .Add (.v 1) (.lst [(.tup [(.c (.str "place")), (.isx (.v 0) (.g 3))]), (.tup [(.c (.str "side")), (.isx (.v 0) (.g 4))]), (.tup [(.c (.str "mark")), (.isx (.v 0) (.g 5))])])),
  .asg 1 (.bin .Add (.v 1) (.lst [(.tup [(.c (.str "node")), (.isx (.v 0) (.g 6))]), (.tup [(.c (.str "cursor")), (.isx (.v 0) (.g 7))])])),
  .asg 1 (.bin .Add (.v 1) (.lst [(.tup [(.c (.str "deed")), (.isx (.v 0) (.g 8))]), (.tup [(.c (.str "letter")), (.isx (.v 0) (.g 9))])])),
  .asg 1 (.bin .Add (.v 1) (.lst [(.tup [(.c (.str "gone")), (.isx (.v 0) (.g 10))]), (.tup [(.c (.str "hand")), (.isx (.v 0) (.g 11))]), (.tup [(.c (.str "note")), (.isx (.v 0) (.g 12))])])),
  .asgC 2 (.comp (some 2) [] .list [(.v 1)] (some (.v 1)) (.v 0)),
  .ite (.or [(.not (.isx (.v 0) (.g 13))), (.not (.isx (.v 0) (.c (.ty "ValueError"))))]) [.drop (.mth .append (.v 2) [(.c (.str "bare"))])] [],
  .ret (.mth .join (.c (.str "/")) [(.v 2)])]
def f_wordL : List Str := []
def g_wordL : List Str := ["BadText", "BadChange", "BadFit", "NoPlace", "BadSide", "NoMark", "NoNode", "NoCursor", "BadDeed", "BadLetter", "NoLetter", "NoHand", "NoNote", "InkError"]
def l_wordL : List Str := ["isinstance", "ValueError"]
def mn_wordL : List Str := []
def kn_wordL : List Str := []
def en_wordL : List Str := []
def hn_wordL : List Str := []
/-! ### is_between -/
/-! ### need_swap -/
/-! ### swapped -/
/-! ### wholeL -/
end L2.B
set_option maxRecDepth 100000
set_option maxHeartbeats 4000000
namespace L2.K01
open PySem PySem.Spec PyProof.Rows L2.B
def stAt (i : Nat) : Stmt := (PySem.Challenge.pw_inkloom_k01_texts_and_changes_told.main.body).getD i (.Pass ⟨0, 0, 0, 0⟩)
/-! ### is_whole -/
def s_is_whole : Stmt := stAt 17
theorem sc_is_whole : FnScope N_is_whole P_is_whole (defScope s_is_whole) := ⟨by kernel_rfl, by kernel_rfl, by kernel_rfl, by decide +kernel, by kernel_rfl, by decide +kernel, by decide +kernel⟩
theorem m_is_whole {CX : CXT} {Γ : RCx} {X : Cx} (G : GoodS CX (scx N_is_whole (defScope s_is_whole) f_is_whole g_is_whole l_is_whole mn_is_whole kn_is_whole en_is_whole hn_is_whole 0) Γ X) : PSs X (defBody s_is_whole) (rdSs Γ b_is_whole) := by
  have g := G.toGood
  exact (s_cons (s_ret (d_and (d_isi g (by kernel_rfl) (by kernel_rfl) (by kernel_rfl) (d_v g (by kernel_rfl))) (d_and1 (d_not g (d_isi g (by kernel_rfl) (by kernel_rfl) (by kernel_rfl) (d_v g (by kernel_rfl))))))) s_nil)
/-! ### is_word -/
def s_is_word : Stmt := stAt 18
theorem sc_is_word : FnScope N_is_word P_is_word (defScope s_is_word) := ⟨by kernel_rfl, by kernel_rfl, by kernel_rfl, by decide +kernel, by kernel_rfl, by decide +kernel, by decide +kernel⟩
theorem m_is_word {CX : CXT} {Γ : RCx} {X : Cx} (G : GoodS CX (scx N_is_word (defScope s_is_word) f_is_word g_is_word l_is_word mn_is_word kn_is_word en_is_word hn_is_word 0) Γ X) : PSs X (defBody s_is_word) (rdSs Γ b_is_word) := by
  have g := G.toGood
  exact (s_cons (s_ret (d_and (d_isi g (by kernel_rfl) (by kernel_rfl) (by kernel_rfl) (d_v g (by kernel_rfl))) (d_and1 (d_cmp g (by kernel_rfl) (d_v g (by kernel_rfl)) (d_v g (by kernel_rfl)))))) s_nil)
/-! ### is_text -/
def s_is_text : Stmt := stAt 19
theorem sc_is_text : FnScope N_is_text P_is_text (defScope s_is_text) := ⟨by kernel_rfl, by kernel_rfl, by kernel_rfl, by decide +kernel, by kernel_rfl, by decide +kernel, by decide +kernel⟩
theorem m_is_text {CX : CXT} {Γ : RCx} {X : Cx} (G : GoodS CX (scx N_is_text (defScope s_is_text) f_is_text g_is_text l_is_text mn_is_text kn_is_text en_is_text hn_is_text 0) Γ X) : PSs X (defBody s_is_text) (rdSs Γ b_is_text) := by
  have g := G.toGood
  exact (s_cons (s_ret (d_and (d_isi g (by kernel_rfl) (by kernel_rfl) (by kernel_rfl) (d_v g (by kernel_rfl))) (d_and1 (d_cmp g (by kernel_rfl) (d_mth g (by kernel_rfl) (by kernel_rfl) (d_v g (by kernel_rfl)) (d_cons (by kernel_rfl) (d_g g (by kernel_rfl)) d_nil)) d_cs)))) s_nil)
/-! ### need_text -/
def s_need_text : Stmt := stAt 20
theorem sc_need_text : FnScope N_need_text P_need_text (defScope s_need_text) := ⟨by kernel_rfl, by kernel_rfl, by kernel_rfl, by decide +kernel, by kernel_rfl, by decide +kernel, by decide +kernel⟩
theorem m_need_text {CX : CXT} {Γ : RCx} {X : Cx} (G : GoodS CX (scx N_need_text (defScope s_need_text) f_need_text g_need_text l_need_text mn_need_text kn_need_text en_need_text hn_need_text 0) Γ X) : PSs X (defBody s_need_text) (rdSs Γ b_need_text) := by
  have g := G.toGood
  exact (s_cons (s_ite (t_not (t_call g (d_call g (by kernel_rfl) (by kernel_rfl) (d_cons (by kernel_rfl) (d_v g (by kernel_rfl)) d_nil)))) (s_cons (s_raise G (by kernel_rfl) (by kernel_rfl) (d_cons (by kernel_rfl) d_cs d_nil)) s_nil) s_nil) s_nil)
/-! ### is_part -/
def s_is_part : Stmt := stAt 23
theorem sc_is_part : FnScope N_is_part P_is_part (defScope s_is_part) := ⟨by kernel_rfl, by kernel_rfl, by kernel_rfl, by decide +kernel, by kernel_rfl, by decide +kernel, by decide +kernel⟩
theorem m_is_part {CX : CXT} {Γ : RCx} {X : Cx} (G : GoodS CX (scx N_is_part (defScope s_is_part) f_is_part g_is_part l_is_part mn_is_part kn_is_part en_is_part hn_is_part 0) Γ X) : PSs X (defBody s_is_part) (rdSs Γ b_is_part) := by
  have g := G.toGood
  exact (s_cons (s_ite (PW.pt (t_or (t_not (t_isi g (d_isi g (by kernel_rfl) (by kernel_rfl) (by kernel_rfl) (d_v g (by kernel_rfl))))) (t_or1 (t_cmp g (by kernel_rfl) (d_blt g (by kernel_rfl) (by kernel_rfl) (d_cons (by kernel_rfl) (d_v g (by kernel_rfl)) d_nil)) d_ci)))) (s_cons (s_ret d_cb) s_nil) s_nil) (s_cons (s_ite (t_call g (d_call g (by kernel_rfl) (by kernel_rfl) (d_cons (by kernel_rfl) (d_ix g (by kernel_rfl) (d_v g (by kernel_rfl)) d_ci) (d_cons (by kernel_rfl) (d_tup (d_cons (by kernel_rfl) d_cs d_nil)) d_nil)))) (s_cons (s_ret (d_and (d_call g (by kernel_rfl) (by kernel_rfl) (d_cons (by kernel_rfl) (d_ix g (by kernel_rfl) (d_v g (by kernel_rfl)) d_ci) d_nil)) (d_and1 (d_cmp g (by kernel_rfl) (d_ix g (by kernel_rfl) (d_v g (by kernel_rfl)) d_ci) d_ci)))) s_nil) s_nil) (s_cons (s_ret (d_and (d_call g (by kernel_rfl) (by kernel_rfl) (d_cons (by kernel_rfl) (d_ix g (by kernel_rfl) (d_v g (by kernel_rfl)) d_ci) (d_cons (by kernel_rfl) (d_tup (d_cons (by kernel_rfl) d_cs (d_cons (by kernel_rfl) d_cs d_nil))) d_nil))) (d_and (d_call g (by kernel_rfl) (by kernel_rfl) (d_cons (by kernel_rfl) (d_ix g (by kernel_rfl) (d_v g (by kernel_rfl)) d_ci) d_nil)) (d_and1 (d_cmp g (by kernel_rfl) (d_ix g (by kernel_rfl) (d_v g (by kernel_rfl)) d_ci) d_cs))))) s_nil)))
/-! ### may_follow -/
def s_may_follow : Stmt := stAt 24
theorem sc_may_follow : FnScope N_may_follow P_may_follow (defScope s_may_follow) := ⟨by kernel_rfl, by kernel_rfl, by kernel_rfl, by decide +kernel, by kernel_rfl, by decide +kernel, by decide +kernel⟩
theorem m_may_follow {CX : CXT} {Γ : RCx} {X : Cx} (G : GoodS CX (scx N_may_follow (defScope s_may_follow) f_may_follow g_may_follow l_may_follow mn_may_follow kn_may_follow en_may_follow hn_may_follow 0) Γ X) : PSs X (defBody s_may_follow) (rdSs Γ b_may_follow) := by
  have g := G.toGood
  exact (s_cons (s_ret (d_and (d_cmp g (by kernel_rfl) (d_v g (by kernel_rfl)) (d_v g (by kernel_rfl))) (d_and1 (d_not g (d_and (d_cmp g (by kernel_rfl) (d_v g (by kernel_rfl)) d_cs) (d_and1 (d_cmp g (by kernel_rfl) (d_v g (by kernel_rfl)) d_cs))))))) s_nil)
/-! ### need_change -/
def s_need_change : Stmt := stAt 25
theorem sc_need_change : FnScope N_need_change P_need_change (defScope s_need_change) := ⟨by kernel_rfl, by kernel_rfl, by kernel_rfl, by decide +kernel, by kernel_rfl, by decide +kernel, by decide +kernel⟩
theorem m_need_change {CX : CXT} {Γ : RCx} {X : Cx} (G : GoodS CX (scx N_need_change (defScope s_need_change) f_need_change g_need_change l_need_change mn_need_change kn_need_change en_need_change hn_need_change 0) Γ X) : PSs X (defBody s_need_change) (rdSs Γ b_need_change) := by
  have g := G.toGood
  exact (s_cons (s_ite (t_not (t_isi g (d_isi g (by kernel_rfl) (by kernel_rfl) (by kernel_rfl) (d_v g (by kernel_rfl))))) (s_cons (s_raise G (by kernel_rfl) (by kernel_rfl) (d_cons (by kernel_rfl) d_cs d_nil)) s_nil) s_nil) (s_cons (s_asg G (by kernel_rfl) (by kernel_rfl) d_cs) (s_cons (s_for1 G (by kernel_rfl) (by kernel_rfl) (i_list g (d_v g (by kernel_rfl))) (s_cons (s_ite (t_not (t_call g (d_call g (by kernel_rfl) (by kernel_rfl) (d_cons (by kernel_rfl) (d_v g (by kernel_rfl)) d_nil)))) (s_cons (s_raise G (by kernel_rfl) (by kernel_rfl) (d_cons (by kernel_rfl) d_cs d_nil)) s_nil) s_nil) (s_cons (s_ite (t_not (t_call g (d_call g (by kernel_rfl) (by kernel_rfl) (d_cons (by kernel_rfl) (d_ix g (by kernel_rfl) (d_v g (by kernel_rfl)) d_ci) (d_cons (by kernel_rfl) (d_v g (by kernel_rfl)) d_nil))))) (s_cons (s_raise G (by kernel_rfl) (by kernel_rfl) (d_cons (by kernel_rfl) d_cs d_nil)) s_nil) s_nil) (s_cons (s_asg G (by kernel_rfl) (by kernel_rfl) (d_ix g (by kernel_rfl) (d_v g (by kernel_rfl)) d_ci)) s_nil)))) s_nil)))
/-! ### part_size -/
def s_part_size : Stmt := stAt 26
theorem sc_part_size : FnScope N_part_size P_part_size (defScope s_part_size) := ⟨by kernel_rfl, by kernel_rfl, by kernel_rfl, by decide +kernel, by kernel_rfl, by decide +kernel, by decide +kernel⟩
theorem m_part_size {CX : CXT} {Γ : RCx} {X : Cx} (G : GoodS CX (scx N_part_size (defScope s_part_size) f_part_size g_part_size l_part_size mn_part_size kn_part_size en_part_size hn_part_size 0) Γ X) : PSs X (defBody s_part_size) (rdSs Γ b_part_size) := by
  have g := G.toGood
  exact (s_cons (s_ret (d_ife (t_cmp g (by kernel_rfl) (d_ix g (by kernel_rfl) (d_v g (by kernel_rfl)) d_ci) d_cs) (d_ix g (by kernel_rfl) (d_v g (by kernel_rfl)) d_ci) (d_blt g (by kernel_rfl) (by kernel_rfl) (d_cons (by kernel_rfl) (d_ix g (by kernel_rfl) (d_v g (by kernel_rfl)) d_ci) d_nil)))) s_nil)
/-! ### sizes -/
def s_sizes : Stmt := stAt 27
theorem sc_sizes : FnScope N_sizes P_sizes (defScope s_sizes) := ⟨by kernel_rfl, by kernel_rfl, by kernel_rfl, by decide +kernel, by kernel_rfl, by decide +kernel, by decide +kernel⟩
theorem m_sizes {CX : CXT} {Γ : RCx} {X : Cx} (G : GoodS CX (scx N_sizes (defScope s_sizes) f_sizes g_sizes l_sizes mn_sizes kn_sizes en_sizes hn_sizes 0) Γ X) : PSs X (defBody s_sizes) (rdSs Γ b_sizes) := by
  have g := G.toGood
  exact (s_cons (s_drop (by kernel_rfl) (d_call g (by kernel_rfl) (by kernel_rfl) (d_cons (by kernel_rfl) (d_v g (by kernel_rfl)) d_nil))) (s_cons (s_asg G (by kernel_rfl) (by kernel_rfl) (d_blt g (by kernel_rfl) (by kernel_rfl) (d_cons (by kernel_rfl) (d_comp (ln := ["part"]) g (by kernel_rfl) (i_list g (d_v g (by kernel_rfl))) (d_if1 fun _ g => (t_cmp g (by kernel_rfl) (d_ix g (by kernel_rfl) (d_v g (by kernel_rfl)) d_ci) d_cs)) (fun _ g => (d_call g (by kernel_rfl) (by kernel_rfl) (d_cons (by kernel_rfl) (d_v g (by kernel_rfl)) d_nil)))) d_nil))) (s_cons (s_asg G (by kernel_rfl) (by kernel_rfl) (d_blt g (by kernel_rfl) (by kernel_rfl) (d_cons (by kernel_rfl) (d_comp (ln := ["part"]) g (by kernel_rfl) (i_list g (d_v g (by kernel_rfl))) (d_if1 fun _ g => (t_cmp g (by kernel_rfl) (d_ix g (by kernel_rfl) (d_v g (by kernel_rfl)) d_ci) d_cs)) (fun _ g => (d_call g (by kernel_rfl) (by kernel_rfl) (d_cons (by kernel_rfl) (d_v g (by kernel_rfl)) d_nil)))) d_nil))) (s_cons (s_ret (d_tup (d_cons (by kernel_rfl) (d_v g (by kernel_rfl)) (d_cons (by kernel_rfl) (d_v g (by kernel_rfl)) d_nil)))) s_nil))))
/-! ### add_keep -/
def s_add_keep : Stmt := stAt 28
theorem sc_add_keep : FnScope N_add_keep P_add_keep (defScope s_add_keep) := ⟨by kernel_rfl, by kernel_rfl, by kernel_rfl, by decide +kernel, by kernel_rfl, by decide +kernel, by decide +kernel⟩
theorem m_add_keep {CX : CXT} {Γ : RCx} {X : Cx} (G : GoodS CX (scx N_add_keep (defScope s_add_keep) f_add_keep g_add_keep l_add_keep mn_add_keep kn_add_keep en_add_keep hn_add_keep 0) Γ X) : PSs X (defBody s_add_keep) (rdSs Γ b_add_keep) := by
  have g := G.toGood
  exact (s_cons (s_ite (PW.pt (t_and (t_cmp g (by kernel_rfl) (d_blt g (by kernel_rfl) (by kernel_rfl) (d_cons (by kernel_rfl) (d_v g (by kernel_rfl)) d_nil)) d_ci) (t_and1 (t_cmp g (by kernel_rfl) (d_ix g (by kernel_rfl) (d_ix g (by kernel_rfl) (d_v g (by kernel_rfl)) (d_neg d_ci)) d_ci) d_cs)))) (s_cons (s_asg G (by kernel_rfl) (by kernel_rfl) (d_bin g (d_v g (by kernel_rfl)) (d_ix g (by kernel_rfl) (d_mth0 g (by kernel_rfl) (d_v g (by kernel_rfl))) d_ci))) s_nil) s_nil) (s_cons (s_drop (by kernel_rfl) (d_mth g (by kernel_rfl) (by kernel_rfl) (d_v g (by kernel_rfl)) (d_cons (by kernel_rfl) (d_tup (d_cons (by kernel_rfl) d_cs (d_cons (by kernel_rfl) (d_v g (by kernel_rfl)) d_nil))) d_nil))) s_nil))
/-! ### add_texts -/
def s_add_texts : Stmt := stAt 29
theorem sc_add_texts : FnScope N_add_texts P_add_texts (defScope s_add_texts) := ⟨by kernel_rfl, by kernel_rfl, by kernel_rfl, by decide +kernel, by kernel_rfl, by decide +kernel, by decide +kernel⟩
theorem m_add_texts {CX : CXT} {Γ : RCx} {X : Cx} (G : GoodS CX (scx N_add_texts (defScope s_add_texts) f_add_texts g_add_texts l_add_texts mn_add_texts kn_add_texts en_add_texts hn_add_texts 0) Γ X) : PSs X (defBody s_add_texts) (rdSs Γ b_add_texts) := by
  have g := G.toGood
  exact (s_cons (s_asg G (by kernel_rfl) (by kernel_rfl) (d_mth g (by kernel_rfl) (by kernel_rfl) d_cs (d_cons (by kernel_rfl) (d_v g (by kernel_rfl)) d_nil))) (s_cons (s_asg G (by kernel_rfl) (by kernel_rfl) (d_mth g (by kernel_rfl) (by kernel_rfl) d_cs (d_cons (by kernel_rfl) (d_v g (by kernel_rfl)) d_nil))) (s_cons (s_ite (t_cmp g (by kernel_rfl) (d_v g (by kernel_rfl)) d_cs) (s_cons (s_drop (by kernel_rfl) (d_mth g (by kernel_rfl) (by kernel_rfl) (d_v g (by kernel_rfl)) (d_cons (by kernel_rfl) (d_tup (d_cons (by kernel_rfl) d_cs (d_cons (by kernel_rfl) (d_v g (by kernel_rfl)) d_nil))) d_nil))) s_nil) s_nil) (s_cons (s_ite (t_cmp g (by kernel_rfl) (d_v g (by kernel_rfl)) d_cs) (s_cons (s_drop (by kernel_rfl) (d_mth g (by kernel_rfl) (by kernel_rfl) (d_v g (by kernel_rfl)) (d_cons (by kernel_rfl) (d_tup (d_cons (by kernel_rfl) d_cs (d_cons (by kernel_rfl) (d_v g (by kernel_rfl)) d_nil))) d_nil))) s_nil) s_nil) s_nil))))
/-! ### neat -/
def s_neat : Stmt := stAt 30
theorem sc_neat : FnScope N_neat P_neat (defScope s_neat) := ⟨by kernel_rfl, by kernel_rfl, by kernel_rfl, by decide +kernel, by kernel_rfl, by decide +kernel, by decide +kernel⟩
theorem m_neat {CX : CXT} {Γ : RCx} {X : Cx} (G : GoodS CX (scx N_neat (defScope s_neat) f_neat g_neat l_neat mn_neat kn_neat en_neat hn_neat 0) Γ X) : PSs X (defBody s_neat) (rdSs Γ b_neat) := by
  have g := G.toGood
  exact (s_cons (s_asg G (by kernel_rfl) (by kernel_rfl) (d_lst d_nil)) (s_cons (s_asg G (by kernel_rfl) (by kernel_rfl) (d_lst d_nil)) (s_cons (s_asg G (by kernel_rfl) (by kernel_rfl) (d_lst d_nil)) (s_cons (s_forT [(_, _), (_, _)] G (by kernel_rfl) (by kernel_rfl) (i_list g (d_v g (by kernel_rfl))) (s_cons (s_ite (t_cmp g (by kernel_rfl) (d_v g (by kernel_rfl)) d_cs) (s_cons (s_drop (by kernel_rfl) (d_mth g (by kernel_rfl) (by kernel_rfl) (d_v g (by kernel_rfl)) (d_cons (by kernel_rfl) (d_v g (by kernel_rfl)) d_nil))) s_nil) (s_cons (s_ite (t_cmp g (by kernel_rfl) (d_v g (by kernel_rfl)) d_cs) (s_cons (s_drop (by kernel_rfl) (d_mth g (by kernel_rfl) (by kernel_rfl) (d_v g (by kernel_rfl)) (d_cons (by kernel_rfl) (d_v g (by kernel_rfl)) d_nil))) s_nil) (s_cons (s_ite (t_cmp g (by kernel_rfl) (d_v g (by kernel_rfl)) d_ci) (s_cons (s_drop (by kernel_rfl) (d_call g (by kernel_rfl) (by kernel_rfl) (d_cons (by kernel_rfl) (d_v g (by kernel_rfl)) (d_cons (by kernel_rfl) (d_v g (by kernel_rfl)) (d_cons (by kernel_rfl) (d_v g (by kernel_rfl)) d_nil))))) (s_cons (s_asg G (by kernel_rfl) (by kernel_rfl) (d_lst d_nil)) (s_cons (s_asg G (by kernel_rfl) (by kernel_rfl) (d_lst d_nil)) (s_cons (s_drop (by kernel_rfl) (d_call g (by kernel_rfl) (by kernel_rfl) (d_cons (by kernel_rfl) (d_v g (by kernel_rfl)) (d_cons (by kernel_rfl) (d_v g (by kernel_rfl)) d_nil)))) s_nil)))) s_nil) s_nil)) s_nil)) s_nil)) (s_cons (s_drop (by kernel_rfl) (d_call g (by kernel_rfl) (by kernel_rfl) (d_cons (by kernel_rfl) (d_v g (by kernel_rfl)) (d_cons (by kernel_rfl) (d_v g (by kernel_rfl)) (d_cons (by kernel_rfl) (d_v g (by kernel_rfl)) d_nil))))) (s_cons (s_ret (d_v g (by kernel_rfl))) s_nil))))))
/-! ### back -/
def s_back : Stmt := stAt 31
theorem sc_back : FnScope N_back P_back (defScope s_back) := ⟨by kernel_rfl, by kernel_rfl, by kernel_rfl, by decide +kernel, by kernel_rfl, by decide +kernel, by decide +kernel⟩
theorem m_back {CX : CXT} {Γ : RCx} {X : Cx} (G : GoodS CX (scx N_back (defScope s_back) f_back g_back l_back mn_back kn_back en_back hn_back 0) Γ X) : PSs X (defBody s_back) (rdSs Γ b_back) := by
  have g := G.toGood
  exact (s_cons (s_drop (by kernel_rfl) (d_call g (by kernel_rfl) (by kernel_rfl) (d_cons (by kernel_rfl) (d_v g (by kernel_rfl)) d_nil))) (s_cons (s_ret (d_call g (by kernel_rfl) (by kernel_rfl) (d_cons (by kernel_rfl) (d_comp (ln := ["word", "what"]) g (by kernel_rfl) (i_list g (d_v g (by kernel_rfl))) d_if0 (fun _ g => (d_tup (d_cons (by kernel_rfl) (d_ix g (by kernel_rfl) (d_g g (by kernel_rfl)) (d_v g (by kernel_rfl))) (d_cons (by kernel_rfl) (d_v g (by kernel_rfl)) d_nil))))) d_nil))) s_nil))
/-! ### cell_atL -/
def s_cell_atL : Stmt := stAt 33
theorem sc_cell_atL : FnScope N_cell_atL P_cell_atL (defScope s_cell_atL) := ⟨by kernel_rfl, by kernel_rfl, by kernel_rfl, by decide +kernel, by kernel_rfl, by decide +kernel, by decide +kernel⟩
theorem m_cell_atL {CX : CXT} {Γ : RCx} {X : Cx} (G : GoodS CX (scx N_cell_atL (defScope s_cell_atL) f_cell_atL g_cell_atL l_cell_atL mn_cell_atL kn_cell_atL en_cell_atL hn_cell_atL 0) Γ X) : PSs X (defBody s_cell_atL) (rdSs Γ b_cell_atL) := by
  have g := G.toGood
  exact (s_cons (s_ite (t_cmp g (by kernel_rfl) (d_v g (by kernel_rfl)) (d_blt g (by kernel_rfl) (by kernel_rfl) (d_cons (by kernel_rfl) (d_v g (by kernel_rfl)) d_nil))) (s_cons (s_ret (d_ix g (by kernel_rfl) (d_v g (by kernel_rfl)) (d_v g (by kernel_rfl)))) s_nil) s_nil) (s_cons (s_ret d_ci) s_nil))
/-! ### mixedL -/
def s_mixedL : Stmt := stAt 34
theorem sc_mixedL : FnScope N_mixedL P_mixedL (defScope s_mixedL) := ⟨by kernel_rfl, by kernel_rfl, by kernel_rfl, by decide +kernel, by kernel_rfl, by decide +kernel, by decide +kernel⟩
theorem m_mixedL {CX : CXT} {Γ : RCx} {X : Cx} (G : GoodS CX (scx N_mixedL (defScope s_mixedL) f_mixedL g_mixedL l_mixedL mn_mixedL kn_mixedL en_mixedL hn_mixedL 0) Γ X) : PSs X (defBody s_mixedL) (rdSs Γ b_mixedL) := by
  have g := G.toGood
  exact (s_cons (s_asg G (by kernel_rfl) (by kernel_rfl) (d_bin g (d_bin g (d_bin g (d_bin g (d_v g (by kernel_rfl)) d_ci) (d_bin g d_ci (d_v g (by kernel_rfl)))) d_ci) d_ci)) (s_cons (s_ret (d_bin g (d_bin g (d_bin g (d_bin g (d_v g (by kernel_rfl)) (d_v g (by kernel_rfl))) d_ci) (d_v g (by kernel_rfl))) d_ci)) s_nil))
/-! ### textL -/
def s_textL : Stmt := stAt 35
theorem sc_textL : FnScope N_textL P_textL (defScope s_textL) := ⟨by kernel_rfl, by kernel_rfl, by kernel_rfl, by decide +kernel, by kernel_rfl, by decide +kernel, by decide +kernel⟩
theorem m_textL {CX : CXT} {Γ : RCx} {X : Cx} (G : GoodS CX (scx N_textL (defScope s_textL) f_textL g_textL l_textL mn_textL kn_textL en_textL hn_textL 0) Γ X) : PSs X (defBody s_textL) (rdSs Γ b_textL) := by
  have g := G.toGood
  exact (s_cons (s_asg G (by kernel_rfl) (by kernel_rfl) d_cs) (s_cons (s_asg G (by kernel_rfl) (by kernel_rfl) (d_bin g (d_v g (by kernel_rfl)) d_cs)) (s_cons (s_ite (t_cmp g (by kernel_rfl) (d_bin g (d_v g (by kernel_rfl)) d_ci) d_ci) (s_cons (s_asg G (by kernel_rfl) (by kernel_rfl) d_cs) s_nil) s_nil) (s_cons (s_ret (d_mth g (by kernel_rfl) (by kernel_rfl) d_cs (d_cons (by kernel_rfl) (d_comp (ln := ["_law_k"]) g (by kernel_rfl) (i_rng g (by kernel_rfl) (by kernel_rfl) (d_v g (by kernel_rfl))) d_if0 (fun _ g => (d_ix g (by kernel_rfl) (d_v g (by kernel_rfl)) (d_bin g (d_bin g (d_call g (by kernel_rfl) (by kernel_rfl) (d_cons (by kernel_rfl) (d_v g (by kernel_rfl)) (d_cons (by kernel_rfl) (d_v g (by kernel_rfl)) d_nil))) d_ci) (d_blt g (by kernel_rfl) (by kernel_rfl) (d_cons (by kernel_rfl) (d_v g (by kernel_rfl)) d_nil)))))) d_nil))) s_nil))))
/-! ### sizeL -/
def s_sizeL : Stmt := stAt 36
theorem sc_sizeL : FnScope N_sizeL P_sizeL (defScope s_sizeL) := ⟨by kernel_rfl, by kernel_rfl, by kernel_rfl, by decide +kernel, by kernel_rfl, by decide +kernel, by decide +kernel⟩
theorem m_sizeL {CX : CXT} {Γ : RCx} {X : Cx} (G : GoodS CX (scx N_sizeL (defScope s_sizeL) f_sizeL g_sizeL l_sizeL mn_sizeL kn_sizeL en_sizeL hn_sizeL 0) Γ X) : PSs X (defBody s_sizeL) (rdSs Γ b_sizeL) := by
  have g := G.toGood
  exact (s_cons (s_ite (t_cmp g (by kernel_rfl) (d_bin g (d_v g (by kernel_rfl)) d_ci) d_ci) (s_cons (s_ret (d_bin g (d_bin g (d_v g (by kernel_rfl)) d_ci) d_ci)) s_nil) s_nil) (s_cons (s_ret (d_bin g (d_bin g (d_v g (by kernel_rfl)) d_ci) d_ci)) s_nil))
/-! ### partsL -/
def s_partsL : Stmt := stAt 37
theorem sc_partsL : FnScope N_partsL P_partsL (defScope s_partsL) := ⟨by kernel_rfl, by kernel_rfl, by kernel_rfl, by decide +kernel, by kernel_rfl, by decide +kernel, by decide +kernel⟩
theorem m_partsL {CX : CXT} {Γ : RCx} {X : Cx} (G : GoodS CX (scx N_partsL (defScope s_partsL) f_partsL g_partsL l_partsL mn_partsL kn_partsL en_partsL hn_partsL 0) Γ X) : PSs X (defBody s_partsL) (rdSs Γ b_partsL) := by
  have g := G.toGood
  exact (s_cons (s_asg G (by kernel_rfl) (by kernel_rfl) (d_lst d_nil)) (s_cons (s_asg G (by kernel_rfl) (by kernel_rfl) d_ci) (s_cons (s_for1 G (by kernel_rfl) (by kernel_rfl) (i_rng g (by kernel_rfl) (by kernel_rfl) (d_v g (by kernel_rfl))) (s_cons (s_asg G (by kernel_rfl) (by kernel_rfl) (d_call g (by kernel_rfl) (by kernel_rfl) (d_cons (by kernel_rfl) (d_v g (by kernel_rfl)) (d_cons (by kernel_rfl) (d_bin g d_ci (d_v g (by kernel_rfl))) d_nil)))) (s_cons (s_asg G (by kernel_rfl) (by kernel_rfl) (d_ix g (by kernel_rfl) (d_lst (d_cons (by kernel_rfl) d_ci (d_cons (by kernel_rfl) d_ci (d_cons (by kernel_rfl) d_ci (d_cons (by kernel_rfl) d_ci (d_cons (by kernel_rfl) d_ci (d_cons (by kernel_rfl) d_ci d_nil))))))) (d_bin g (d_bin g (d_v g (by kernel_rfl)) d_ci) d_ci))) (s_cons (s_asg G (by kernel_rfl) (by kernel_rfl) (d_blt g (by kernel_rfl) (by kernel_rfl) (d_cons (by kernel_rfl) (d_v g (by kernel_rfl)) (d_cons (by kernel_rfl) (d_bin g (d_blt g (by kernel_rfl) (by kernel_rfl) (d_cons (by kernel_rfl) (d_v g (by kernel_rfl)) d_nil)) (d_v g (by kernel_rfl))) d_nil)))) (s_cons (s_ite (t_cmp g (by kernel_rfl) (d_bin g (d_v g (by kernel_rfl)) d_ci) d_ci) (s_cons (s_drop (by kernel_rfl) (d_mth g (by kernel_rfl) (by kernel_rfl) (d_v g (by kernel_rfl)) (d_cons (by kernel_rfl) (d_tup (d_cons (by kernel_rfl) d_cs (d_cons (by kernel_rfl) (d_call g (by kernel_rfl) (by kernel_rfl) (d_cons (by kernel_rfl) (d_v g (by kernel_rfl)) (d_cons (by kernel_rfl) (d_v g (by kernel_rfl)) d_nil))) d_nil))) d_nil))) s_nil) (s_cons (s_ite (t_cmp g (by kernel_rfl) (d_bin g (d_v g (by kernel_rfl)) d_ci) d_ci) (s_cons (s_drop (by kernel_rfl) (d_mth g (by kernel_rfl) (by kernel_rfl) (d_v g (by kernel_rfl)) (d_cons (by kernel_rfl) (d_tup (d_cons (by kernel_rfl) d_cs (d_cons (by kernel_rfl) (d_sl g (d_v g (by kernel_rfl)) (d_some (d_v g (by kernel_rfl))) (d_some (d_bin g (d_v g (by kernel_rfl)) (d_v g (by kernel_rfl))))) d_nil))) d_nil))) s_nil) (s_cons (s_drop (by kernel_rfl) (d_mth g (by kernel_rfl) (by kernel_rfl) (d_v g (by kernel_rfl)) (d_cons (by kernel_rfl) (d_tup (d_cons (by kernel_rfl) d_cs (d_cons (by kernel_rfl) (d_v g (by kernel_rfl)) d_nil))) d_nil))) s_nil)) s_nil)) (s_cons (s_ite (t_cmp g (by kernel_rfl) (d_bin g (d_v g (by kernel_rfl)) d_ci) d_ci) (s_cons (s_asg G (by kernel_rfl) (by kernel_rfl) (d_bin g (d_v g (by kernel_rfl)) (d_v g (by kernel_rfl)))) s_nil) s_nil) s_nil)))))) (s_cons (s_ret (d_bin g (d_v g (by kernel_rfl)) (d_lst (d_cons (by kernel_rfl) (d_tup (d_cons (by kernel_rfl) d_cs (d_cons (by kernel_rfl) (d_bin g (d_blt g (by kernel_rfl) (by kernel_rfl) (d_cons (by kernel_rfl) (d_v g (by kernel_rfl)) d_nil)) (d_v g (by kernel_rfl))) d_nil))) d_nil)))) s_nil))))
/-! ### neatL -/
def N_neatL : List Str := ["_law_parts_here", "_law_rows", "_law_word_here", "_law_thing", "_law_found", "_law_put", "_law_cut", "_law_keep", "_law_some"]
def s_neatL : Stmt := stAt 38
theorem sc_neatL : FnScope N_neatL P_neatL (defScope s_neatL) := ⟨by kernel_rfl, by kernel_rfl, by kernel_rfl, by decide +kernel, by kernel_rfl, by decide +kernel, by decide +kernel⟩
theorem m_neatL {CX : CXT} {Γ : RCx} {X : Cx} (G : GoodS CX (scx N_neatL (defScope s_neatL) f_neatL g_neatL l_neatL mn_neatL kn_neatL en_neatL hn_neatL 0) Γ X) : PSs X (defBody s_neatL) (rdSs Γ b_neatL) := by
  have g := G.toGood
  exact (s_cons (s_asg G (by kernel_rfl) (by kernel_rfl) (d_lst (d_cons (by kernel_rfl) (d_lst (d_cons (by kernel_rfl) d_cs (d_cons (by kernel_rfl) d_cs (d_cons (by kernel_rfl) d_ci d_nil)))) d_nil))) (s_cons (s_forT [(_, _), (_, _)] G (by kernel_rfl) (by kernel_rfl) (i_list g (d_v g (by kernel_rfl))) (s_cons (s_ite (t_cmp g (by kernel_rfl) (d_v g (by kernel_rfl)) d_cs) (s_cons (s_set (by kernel_rfl) (d_bin g (d_ix g (by kernel_rfl) (d_ix g (by kernel_rfl) (d_v g (by kernel_rfl)) (d_neg d_ci)) d_ci) (d_v g (by kernel_rfl))) (d_ix g (by kernel_rfl) (d_v g (by kernel_rfl)) (d_neg d_ci)) d_ci) s_nil) (s_cons (s_ite (t_cmp g (by kernel_rfl) (d_v g (by kernel_rfl)) d_cs) (s_cons (s_ite (t_cmp g (by kernel_rfl) (d_ix g (by kernel_rfl) (d_ix g (by kernel_rfl) (d_v g (by kernel_rfl)) (d_neg d_ci)) d_ci) d_ci) (s_cons (s_drop (by kernel_rfl) (d_mth g (by kernel_rfl) (by kernel_rfl) (d_v g (by kernel_rfl)) (d_cons (by kernel_rfl) (d_lst (d_cons (by kernel_rfl) d_cs (d_cons (by kernel_rfl) d_cs (d_cons (by kernel_rfl) d_ci d_nil)))) d_nil))) s_nil) s_nil) (s_cons (s_set (by kernel_rfl) (d_bin g (d_ix g (by kernel_rfl) (d_ix g (by kernel_rfl) (d_v g (by kernel_rfl)) (d_neg d_ci)) (d_blt g (by kernel_rfl) (by kernel_rfl) (d_cons (by kernel_rfl) (d_cmp g (by kernel_rfl) (d_v g (by kernel_rfl)) d_cs) d_nil))) (d_v g (by kernel_rfl))) (d_ix g (by kernel_rfl) (d_v g (by kernel_rfl)) (d_neg d_ci)) (d_blt g (by kernel_rfl) (by kernel_rfl) (d_cons (by kernel_rfl) (d_cmp g (by kernel_rfl) (d_v g (by kernel_rfl)) d_cs) d_nil))) s_nil)) s_nil) s_nil)) s_nil)) (s_cons (s_asg G (by kernel_rfl) (by kernel_rfl) (d_lst d_nil)) (s_cons (s_forT [(_, _), (_, _), (_, _)] G (by kernel_rfl) (by kernel_rfl) (i_list g (d_v g (by kernel_rfl))) (s_cons (s_asg G (by kernel_rfl) (by kernel_rfl) (d_lst (d_cons (by kernel_rfl) (d_tup (d_cons (by kernel_rfl) d_cs (d_cons (by kernel_rfl) (d_v g (by kernel_rfl)) d_nil))) (d_cons (by kernel_rfl) (d_tup (d_cons (by kernel_rfl) d_cs (d_cons (by kernel_rfl) (d_v g (by kernel_rfl)) d_nil))) (d_cons (by kernel_rfl) (d_tup (d_cons (by kernel_rfl) d_cs (d_cons (by kernel_rfl) (d_v g (by kernel_rfl)) d_nil))) d_nil))))) (s_cons (s_asg G (by kernel_rfl) (by kernel_rfl) (d_bin g (d_v g (by kernel_rfl)) (d_comp (ln := ["_law_part"]) g (by kernel_rfl) (i_list g (d_v g (by kernel_rfl))) (d_if1 fun _ g => (PW.pt (t_and (t_cmp g (by kernel_rfl) (d_ix g (by kernel_rfl) (d_v g (by kernel_rfl)) d_ci) d_cs) (t_and1 (t_cmp g (by kernel_rfl) (d_ix g (by kernel_rfl) (d_v g (by kernel_rfl)) d_ci) d_ci))))) (fun _ g => (d_v g (by kernel_rfl)))))) s_nil))) (s_cons (s_ret (d_v g (by kernel_rfl))) s_nil)))))
/-! ### changeL -/
def s_changeL : Stmt := stAt 39
theorem sc_changeL : FnScope N_changeL P_changeL (defScope s_changeL) := ⟨by kernel_rfl, by kernel_rfl, by kernel_rfl, by decide +kernel, by kernel_rfl, by decide +kernel, by decide +kernel⟩
theorem m_changeL {CX : CXT} {Γ : RCx} {X : Cx} (G : GoodS CX (scx N_changeL (defScope s_changeL) f_changeL g_changeL l_changeL mn_changeL kn_changeL en_changeL hn_changeL 0) Γ X) : PSs X (defBody s_changeL) (rdSs Γ b_changeL) := by
  have g := G.toGood
  exact (s_cons (s_ret (d_call g (by kernel_rfl) (by kernel_rfl) (d_cons (by kernel_rfl) (d_call g (by kernel_rfl) (by kernel_rfl) (d_cons (by kernel_rfl) (d_v g (by kernel_rfl)) (d_cons (by kernel_rfl) (d_v g (by kernel_rfl)) (d_cons (by kernel_rfl) (d_v g (by kernel_rfl)) d_nil)))) d_nil))) s_nil)
/-! ### wordL -/
def N_wordL : List Str := ["_law_e", "_law_some", "_law_found"]
def s_wordL : Stmt := stAt 40
theorem sc_wordL : FnScope N_wordL P_wordL (defScope s_wordL) := ⟨by kernel_rfl, by kernel_rfl, by kernel_rfl, by decide +kernel, by kernel_rfl, by decide +kernel, by decide +kernel⟩
theorem m_wordL_0 {CX : CXT} {Γ : RCx} {X : Cx} (G : GoodS CX (scx N_wordL (defScope s_wordL) f_wordL g_wordL l_wordL mn_wordL kn_wordL en_wordL hn_wordL 1) Γ X) : PS X ((defBody s_wordL).getD 0 (.Pass ⟨0, 0, 0, 0⟩)) (rdS Γ (b_wordL.getD 0 (.ret (.c .non)))) := by
  have g := G.toGood
  show PS X (.Assign [.Name "_law_some" _] _ _) (rdS Γ (.asg 1 _))
  with_reducible exact (s_asg G (by kernel_rfl) (by kernel_rfl) (d_lst (d_cons (by kernel_rfl) (d_tup (d_cons (by kernel_rfl) d_cs (d_cons (by kernel_rfl) (d_isx g (by kernel_rfl) (by kernel_rfl) (d_v g (by kernel_rfl)) (d_g g (by kernel_rfl))) d_nil))) (d_cons (by kernel_rfl) (d_tup (d_cons (by kernel_rfl) d_cs (d_cons (by kernel_rfl) (d_isx g (by kernel_rfl) (by kernel_rfl) (d_v g (by kernel_rfl)) (d_g g (by kernel_rfl))) d_nil))) (d_cons (by kernel_rfl) (d_tup (d_cons (by kernel_rfl) d_cs (d_cons (by kernel_rfl) (d_isx g (by kernel_rfl) (by kernel_rfl) (d_v g (by kernel_rfl)) (d_g g (by kernel_rfl))) d_nil))) d_nil)))))
theorem m_wordL_1 {CX : CXT} {Γ : RCx} {X : Cx} (G : GoodS CX (scx N_wordL (defScope s_wordL) f_wordL g_wordL l_wordL mn_wordL kn_wordL en_wordL hn_wordL 1) Γ X) : PS X ((defBody s_wordL).getD 1 (.Pass ⟨0, 0, 0, 0⟩)) (rdS Γ (b_wordL.getD 1 (.ret (.c .non)))) := by
  have g := G.toGood
  show PS X (.Assign [.Name "_law_some" _] _ _) (rdS Γ (.asg 1 _))
  with_reducible exact (s_asg G (by kernel_rfl) (by kernel_rfl) (d_bin g (d_v g (by kernel_rfl)) (d_lst (d_cons (by kernel_rfl) (d_tup (d_cons (by kernel_rfl) d_cs (d_cons (by kernel_rfl) (d_isx g (by kernel_rfl) (by kernel_rfl) (d_v g (by kernel_rfl)) (d_g g (by kernel_rfl))) d_nil))) (d_cons (by kernel_rfl) (d_tup (d_cons (by kernel_rfl) d_cs (d_cons (by kernel_rfl) (d_isx g (by kernel_rfl) (by kernel_rfl) (d_v g (by kernel_rfl)) (d_g g (by kernel_rfl))) d_nil))) (d_cons (by kernel_rfl) (d_tup (d_cons (by kernel_rfl) d_cs (d_cons (by kernel_rfl) (d_isx g (by kernel_rfl) (by kernel_rfl) (d_v g (by kernel_rfl)) (d_g g (by kernel_rfl))) d_nil))) d_nil))))))
theorem m_wordL_2 {CX : CXT} {Γ : RCx} {X : Cx} (G : GoodS CX (scx N_wordL (defScope s_wordL) f_wordL g_wordL l_wordL mn_wordL kn_wordL en_wordL hn_wordL 1) Γ X) : PS X ((defBody s_wordL).getD 2 (.Pass ⟨0, 0, 0, 0⟩)) (rdS Γ (b_wordL.getD 2 (.ret (.c .non)))) := by
  have g := G.toGood
  show PS X (.Assign [.Name "_law_some" _] _ _) (rdS Γ (.asg 1 _))
  with_reducible exact (s_asg G (by kernel_rfl) (by kernel_rfl) (d_bin g (d_v g (by kernel_rfl)) (d_lst (d_cons (by kernel_rfl) (d_tup (d_cons (by kernel_rfl) d_cs (d_cons (by kernel_rfl) (d_isx g (by kernel_rfl) (by kernel_rfl) (d_v g (by kernel_rfl)) (d_g g (by kernel_rfl))) d_nil))) (d_cons (by kernel_rfl) (d_tup (d_cons (by kernel_rfl) d_cs (d_cons (by kernel_rfl) (d_isx g (by kernel_rfl) (by kernel_rfl) (d_v g (by kernel_rfl)) (d_g g (by kernel_rfl))) d_nil))) d_nil)))))
theorem m_wordL_3 {CX : CXT} {Γ : RCx} {X : Cx} (G : GoodS CX (scx N_wordL (defScope s_wordL) f_wordL g_wordL l_wordL mn_wordL kn_wordL en_wordL hn_wordL 1) Γ X) : PS X ((defBody s_wordL).getD 3 (.Pass ⟨0, 0, 0, 0⟩)) (rdS Γ (b_wordL.getD 3 (.ret (.c .non)))) := by
  have g := G.toGood
  show PS X (.Assign [.Name "_law_some" _] _ _) (rdS Γ (.asg 1 _))
  with_reducible exact (s_asg G (by kernel_rfl) (by kernel_rfl) (d_bin g (d_v g (by kernel_rfl)) (d_lst (d_cons (by kernel_rfl) (d_tup (d_cons (by kernel_rfl) d_cs (d_cons (by kernel_rfl) (d_isx g (by kernel_rfl) (by kernel_rfl) (d_v g (by kernel_rfl)) (d_g g (by kernel_rfl))) d_nil))) (d_cons (by kernel_rfl) (d_tup (d_cons (by kernel_rfl) d_cs (d_cons (by kernel_rfl) (d_isx g (by kernel_rfl) (by kernel_rfl) (d_v g (by kernel_rfl)) (d_g g (by kernel_rfl))) d_nil))) d_nil)))))
theorem m_wordL_4 {CX : CXT} {Γ : RCx} {X : Cx} (G : GoodS CX (scx N_wordL (defScope s_wordL) f_wordL g_wordL l_wordL mn_wordL kn_wordL en_wordL hn_wordL 1) Γ X) : PS X ((defBody s_wordL).getD 4 (.Pass ⟨0, 0, 0, 0⟩)) (rdS Γ (b_wordL.getD 4 (.ret (.c .non)))) := by
  have g := G.toGood
  show PS X (.Assign [.Name "_law_some" _] _ _) (rdS Γ (.asg 1 _))
  with_reducible exact (s_asg G (by kernel_rfl) (by kernel_rfl) (d_bin g (d_v g (by kernel_rfl)) (d_lst (d_cons (by kernel_rfl) (d_tup (d_cons (by kernel_rfl) d_cs (d_cons (by kernel_rfl) (d_isx g (by kernel_rfl) (by kernel_rfl) (d_v g (by kernel_rfl)) (d_g g (by kernel_rfl))) d_nil))) (d_cons (by kernel_rfl) (d_tup (d_cons (by kernel_rfl) d_cs (d_cons (by kernel_rfl) (d_isx g (by kernel_rfl) (by kernel_rfl) (d_v g (by kernel_rfl)) (d_g g (by kernel_rfl))) d_nil))) (d_cons (by kernel_rfl) (d_tup (d_cons (by kernel_rfl) d_cs (d_cons (by kernel_rfl) (d_isx g (by kernel_rfl) (by kernel_rfl) (d_v g (by kernel_rfl)) (d_g g (by kernel_rfl))) d_nil))) d_nil))))))
theorem m_wordL_5 {CX : CXT} {Γ : RCx} {X : Cx} (G : GoodS CX (scx N_wordL (defScope s_wordL) f_wordL g_wordL l_wordL mn_wordL kn_wordL en_wordL hn_wordL 1) Γ X) : PS X ((defBody s_wordL).getD 5 (.Pass ⟨0, 0, 0, 0⟩)) (rdS Γ (b_wordL.getD 5 (.ret (.c .non)))) := by
  have g := G.toGood
  exact (s_asgCH G (by kernel_rfl) (by kernel_rfl) (by kernel_rfl) (d_v g (by kernel_rfl)) (d_if1 fun _ g => (t_v g (d_v g (by kernel_rfl)))) (fun _ g => (d_v g (by kernel_rfl))))
theorem m_wordL_6 {CX : CXT} {Γ : RCx} {X : Cx} (G : GoodS CX (scx N_wordL (defScope s_wordL) f_wordL g_wordL l_wordL mn_wordL kn_wordL en_wordL hn_wordL 1) Γ X) : PS X ((defBody s_wordL).getD 6 (.Pass ⟨0, 0, 0, 0⟩)) (rdS Γ (b_wordL.getD 6 (.ret (.c .non)))) := by
  have g := G.toGood
  exact (s_ite (PW.pt (t_or (t_not (t_isx g (d_isx g (by kernel_rfl) (by kernel_rfl) (d_v g (by kernel_rfl)) (d_g g (by kernel_rfl))))) (t_or1 (t_not (t_isx g (d_isx g (by kernel_rfl) (by kernel_rfl) (d_v g (by kernel_rfl)) (d_ty g (by kernel_rfl) (by decide +kernel) (by decide) (by decide)))))))) (s_cons (s_drop (by kernel_rfl) (d_mth g (by kernel_rfl) (by kernel_rfl) (d_v g (by kernel_rfl)) (d_cons (by kernel_rfl) d_cs d_nil))) s_nil) s_nil)
theorem m_wordL_7 {CX : CXT} {Γ : RCx} {X : Cx} (G : GoodS CX (scx N_wordL (defScope s_wordL) f_wordL g_wordL l_wordL mn_wordL kn_wordL en_wordL hn_wordL 1) Γ X) : PS X ((defBody s_wordL).getD 7 (.Pass ⟨0, 0, 0, 0⟩)) (rdS Γ (b_wordL.getD 7 (.ret (.c .non)))) := by
  have g := G.toGood
  show PS X (.Return (some _) _) (rdS Γ (.ret _))
  with_reducible exact (s_ret (d_mth g (by kernel_rfl) (by kernel_rfl) d_cs (d_cons (by kernel_rfl) (d_v g (by kernel_rfl)) d_nil)))
theorem m_wordL {CX : CXT} {Γ : RCx} {X : Cx} (G : GoodS CX (scx N_wordL (defScope s_wordL) f_wordL g_wordL l_wordL mn_wordL kn_wordL en_wordL hn_wordL 1) Γ X) : PSs X (defBody s_wordL) (rdSs Γ b_wordL) := by
  have e : defBody s_wordL = [((defBody s_wordL).getD 0 (.Pass ⟨0, 0, 0, 0⟩)), ((defBody s_wordL).getD 1 (.Pass ⟨0, 0, 0, 0⟩)), ((defBody s_wordL).getD 2 (.Pass ⟨0, 0, 0, 0⟩)), ((defBody s_wordL).getD 3 (.Pass ⟨0, 0, 0, 0⟩)), ((defBody s_wordL).getD 4 (.Pass ⟨0, 0, 0, 0⟩)), ((defBody s_wordL).getD 5 (.Pass ⟨0, 0, 0, 0⟩)), ((defBody s_wordL).getD 6 (.Pass ⟨0, 0, 0, 0⟩)), ((defBody s_wordL).getD 7 (.Pass ⟨0, 0, 0, 0⟩))] := by kernel_rfl
  have e2 : b_wordL = [(b_wordL.getD 0 (.ret (.c .non))), (b_wordL.getD 1 (.ret (.c .non))), (b_wordL.getD 2 (.ret (.c .non))), (b_wordL.getD 3 (.ret (.c .non))), (b_wordL.getD 4 (.ret (.c .non))), (b_wordL.getD 5 (.ret (.c .non))), (b_wordL.getD 6 (.ret (.c .non))), (b_wordL.getD 7 (.ret (.c .non)))] := by kernel_rfl
  rw [e, e2]
  with_reducible exact s_cons (m_wordL_0 G) (s_cons (m_wordL_1 G) (s_cons (m_wordL_2 G) (s_cons (m_wordL_3 G) (s_cons (m_wordL_4 G) (s_cons (m_wordL_5 G) (s_cons (m_wordL_6 G) (s_cons (m_wordL_7 G) (s_nil))))))))
/-! ### refusalL -/
def N_refusalL : List Str := ["_law_which", "_law_thing", "_law_e"]
def P_refusalL : List Str := ["_law_which", "_law_thing"]
def b_refusalL : List RS :=
  [.tryr 3 2 0 [.ite (.cmp .Eq (.v 0) (.c (.int 0))) [.ret (.call 0 [(.v 1)])] [],
    .ite (.cmp .Eq (.v 0) (.c (.int 1))) [.ret (.call 1 [(.v 1)])] [],
    .ite (.cmp .Eq (.v 0) (.c (.int 2))) [.ret (.call 2 [(.v 1)])] [],
    .ret (.call 3 [(.v 1)])] [.ret (.wrd 0 (.v 2))]]
def f_refusalL : List Str := ["need_text", "need_change", "sizes", "back"]
def g_refusalL : List Str := ["InkError"]
def l_refusalL : List Str := []
def mn_refusalL : List Str := []
def kn_refusalL : List Str := []
def en_refusalL : List Str := []
def hn_refusalL : List Str := ["_law_word"]
def s_refusalL : Stmt := stAt 41
theorem sc_refusalL : FnScope N_refusalL P_refusalL (defScope s_refusalL) := ⟨by kernel_rfl, by kernel_rfl, by kernel_rfl, by decide +kernel, by kernel_rfl, by decide +kernel, by decide +kernel⟩
theorem m_refusalL {CX : CXT} {Γ : RCx} {X : Cx} (G : GoodS CX (scx N_refusalL (defScope s_refusalL) f_refusalL g_refusalL l_refusalL mn_refusalL kn_refusalL en_refusalL hn_refusalL 0) Γ X) : PSs X (defBody s_refusalL) (rdSs Γ b_refusalL) := by
  have g := G.toGood
  exact (s_cons (s_try G (by kernel_rfl) (by kernel_rfl) (fun G => (fun g => (s_cons (s_ite (t_cmp g (by kernel_rfl) (d_v g (by kernel_rfl)) d_ci) (s_cons (s_ret (d_call g (by kernel_rfl) (by kernel_rfl) (d_cons (by kernel_rfl) (d_v g (by kernel_rfl)) d_nil))) s_nil) s_nil) (s_cons (s_ite (t_cmp g (by kernel_rfl) (d_v g (by kernel_rfl)) d_ci) (s_cons (s_ret (d_call g (by kernel_rfl) (by kernel_rfl) (d_cons (by kernel_rfl) (d_v g (by kernel_rfl)) d_nil))) s_nil) s_nil) (s_cons (s_ite (t_cmp g (by kernel_rfl) (d_v g (by kernel_rfl)) d_ci) (s_cons (s_ret (d_call g (by kernel_rfl) (by kernel_rfl) (d_cons (by kernel_rfl) (d_v g (by kernel_rfl)) d_nil))) s_nil) s_nil) (s_cons (s_ret (d_call g (by kernel_rfl) (by kernel_rfl) (d_cons (by kernel_rfl) (d_v g (by kernel_rfl)) d_nil))) s_nil))))) G.toGood) (fun G => (fun g => (s_cons (s_ret (d_wrd g (by kernel_rfl) (by kernel_rfl) (d_v g (by kernel_rfl)))) s_nil)) G.toGood)) s_nil)
/-! ### is_changeL -/
def N_is_changeL : List Str := ["_law_row", "_law_last", "_law_part", "_law_thing"]
def P_is_changeL : List Str := ["_law_row"]
def b_is_changeL : List RS :=
  [.ite (.not (.isi .list (.v 0))) [.ret (.c (.bl false))] [],
  .asg 1 (.c (.str "")),
  .for1 2 .list [(.v 0)] [.ite (.or [(.not (.isi .tuple (.v 2))), (.cmp .NotEq (.blt .len [(.v 2)]) (.c (.int 2))), (.cmp .NotIn (.ix (.v 2) (.c (.int 0))) (.tup [(.c (.str "keep")), (.c (.str "cut")), (.c (.str "put"))]))]) [.ret (.c (.bl false))] [],
    .asg 3 (.ix (.v 2) (.c (.int 1))),
    .ite (.and [(.cmp .Eq (.ix (.v 2) (.c (.int 0))) (.c (.str "keep"))), (.or [(.not (.isi .int (.v 3))), (.isi .bool (.v 3)), (.cmp .Lt (.v 3) (.c (.int 1)))])]) [.ret (.c (.bl false))] [],
    .ite (.and [(.cmp .NotEq (.ix (.v 2) (.c (.int 0))) (.c (.str "keep"))), (.or [(.not (.isi .str (.v 3))), (.cmp .Eq (.v 3) (.c (.str ""))), (.cmp .In (.c (.str "\t")) (.v 3))])]) [.ret (.c (.bl false))] [],
    .ite (.or [(.cmp .Eq (.ix (.v 2) (.c (.int 0))) (.v 1)), (.and [(.cmp .Eq (.ix (.v 2) (.c (.int 0))) (.c (.str "put"))), (.cmp .Eq (.v 1) (.c (.str "cut")))])]) [.ret (.c (.bl false))] [],
    .asg 1 (.ix (.v 2) (.c (.int 0)))],
  .ret (.c (.bl true))]
def f_is_changeL : List Str := []
def g_is_changeL : List Str := []
def l_is_changeL : List Str := ["isinstance", "list", "tuple", "len", "int", "bool", "str"]
def mn_is_changeL : List Str := []
def kn_is_changeL : List Str := []
def en_is_changeL : List Str := []
def hn_is_changeL : List Str := []
def s_is_changeL : Stmt := stAt 42
theorem sc_is_changeL : FnScope N_is_changeL P_is_changeL (defScope s_is_changeL) := ⟨by kernel_rfl, by kernel_rfl, by kernel_rfl, by decide +kernel, by kernel_rfl, by decide +kernel, by decide +kernel⟩
theorem m_is_changeL {CX : CXT} {Γ : RCx} {X : Cx} (G : GoodS CX (scx N_is_changeL (defScope s_is_changeL) f_is_changeL g_is_changeL l_is_changeL mn_is_changeL kn_is_changeL en_is_changeL hn_is_changeL 0) Γ X) : PSs X (defBody s_is_changeL) (rdSs Γ b_is_changeL) := by
  have g := G.toGood
  exact (s_cons (s_ite (t_not (t_isi g (d_isi g (by kernel_rfl) (by kernel_rfl) (by kernel_rfl) (d_v g (by kernel_rfl))))) (s_cons (s_ret d_cb) s_nil) s_nil) (s_cons (s_asg G (by kernel_rfl) (by kernel_rfl) d_cs) (s_cons (s_for1 G (by kernel_rfl) (by kernel_rfl) (i_list g (d_v g (by kernel_rfl))) (s_cons (s_ite (PW.pt (t_or (t_not (t_isi g (d_isi g (by kernel_rfl) (by kernel_rfl) (by kernel_rfl) (d_v g (by kernel_rfl))))) (t_or (t_cmp g (by kernel_rfl) (d_blt g (by kernel_rfl) (by kernel_rfl) (d_cons (by kernel_rfl) (d_v g (by kernel_rfl)) d_nil)) d_ci) (t_or1 (t_cmp g (by kernel_rfl) (d_ix g (by kernel_rfl) (d_v g (by kernel_rfl)) d_ci) (d_tup (d_cons (by kernel_rfl) d_cs (d_cons (by kernel_rfl) d_cs (d_cons (by kernel_rfl) d_cs d_nil))))))))) (s_cons (s_ret d_cb) s_nil) s_nil) (s_cons (s_asg G (by kernel_rfl) (by kernel_rfl) (d_ix g (by kernel_rfl) (d_v g (by kernel_rfl)) d_ci)) (s_cons (s_ite (PW.pt (t_and (t_cmp g (by kernel_rfl) (d_ix g (by kernel_rfl) (d_v g (by kernel_rfl)) d_ci) d_cs) (t_and1 (PW.pt (t_or (t_not (t_isi g (d_isi g (by kernel_rfl) (by kernel_rfl) (by kernel_rfl) (d_v g (by kernel_rfl))))) (t_or (t_isi g (d_isi g (by kernel_rfl) (by kernel_rfl) (by kernel_rfl) (d_v g (by kernel_rfl)))) (t_or1 (t_cmp g (by kernel_rfl) (d_v g (by kernel_rfl)) d_ci)))))))) (s_cons (s_ret d_cb) s_nil) s_nil) (s_cons (s_ite (PW.pt (t_and (t_cmp g (by kernel_rfl) (d_ix g (by kernel_rfl) (d_v g (by kernel_rfl)) d_ci) d_cs) (t_and1 (PW.pt (t_or (t_not (t_isi g (d_isi g (by kernel_rfl) (by kernel_rfl) (by kernel_rfl) (d_v g (by kernel_rfl))))) (t_or (t_cmp g (by kernel_rfl) (d_v g (by kernel_rfl)) d_cs) (t_or1 (t_cmp g (by kernel_rfl) d_cs (d_v g (by kernel_rfl)))))))))) (s_cons (s_ret d_cb) s_nil) s_nil) (s_cons (s_ite (PW.pt (t_or (t_cmp g (by kernel_rfl) (d_ix g (by kernel_rfl) (d_v g (by kernel_rfl)) d_ci) (d_v g (by kernel_rfl))) (t_or1 (PW.pt (t_and (t_cmp g (by kernel_rfl) (d_ix g (by kernel_rfl) (d_v g (by kernel_rfl)) d_ci) d_cs) (t_and1 (t_cmp g (by kernel_rfl) (d_v g (by kernel_rfl)) d_cs))))))) (s_cons (s_ret d_cb) s_nil) s_nil) (s_cons (s_asg G (by kernel_rfl) (by kernel_rfl) (d_ix g (by kernel_rfl) (d_v g (by kernel_rfl)) d_ci)) s_nil))))))) (s_cons (s_ret d_cb) s_nil))))
/-! ### odd_partL -/
def N_odd_partL : List Str := ["_law_cell", "_law_number", "_law_some"]
def P_odd_partL : List Str := ["_law_cell", "_law_number"]
def b_odd_partL : List RS :=
  [.asg 2 (.lst [(.tup [(.c (.str "keep")), (.c (.int 0))]), (.tup [(.c (.str "keep")), (.neg (.v 1))]), (.tup [(.c (.str "keep")), (.c (.bl true))]), (.tup [(.c (.str "keep")), (.c (.str "a"))]), (.tup [(.c (.str "keep")), (.c .non)])]),
  .asg 2 (.bin .Add (.v 2) (.lst [(.tup [(.c (.str "put")), (.c (.str ""))]), (.tup [(.c (.str "cut")), (.c (.str ""))]), (.tup [(.c (.str "put")), (.c (.int 3))]), (.tup [(.c (.str "cut")), (.c .non)]), (.tup [(.c (.str "put")), (.c (.str "\t"))]), (.tup [(.c (.str "cut")), (.c (.str "a\t"))])])),
  .asg 2 (.bin .Add (.v 2) (.lst [(.tup [(.c (.str "put")), (.lst [(.c (.str "a"))])]), (.tup [(.c (.str "Keep")), (.c (.int 1))]), (.tup [(.c (.str "keep ")), (.c (.int 1))]), (.tup [(.c (.str "")), (.c (.int 1))]), (.tup [(.c (.str "keep"))]), (.tup [(.c (.str "keep")), (.c (.int 1)), (.c (.int 2))])])),
  .asg 2 (.bin .Add (.v 2) (.lst [(.lst [(.c (.str "keep")), (.c (.int 1))]), (.c (.str "keep")), (.c .non), (.c (.int 5)), (.tup []), (.tup [(.c (.int 1)), (.c (.int 2))]), (.tup [(.c (.str "cut")), (.c (.bl true))]), (.tup [(.lst [(.c (.str "put"))]), (.c (.str "a"))]), (.tup [.dct, (.c (.int 1))])])),
  .asg 2 (.bin .Add (.v 2) (.lst [(.tup [(.c (.str "keep")), (.lst [(.c (.int 1))])]), (.tup [(.c (.str "put")), .dct]), (.tup [(.c (.str "cut")), (.tup [(.c (.str "a"))])]), (.tup [(.c .non), (.c (.str "a"))])])),
  .ret (.ix (.v 2) (.bin .Mod (.v 0) (.c (.int 30))))]
def f_odd_partL : List Str := []
def g_odd_partL : List Str := []
def l_odd_partL : List Str := []
def mn_odd_partL : List Str := []
def kn_odd_partL : List Str := []
def en_odd_partL : List Str := []
def hn_odd_partL : List Str := []
def s_odd_partL : Stmt := stAt 43
theorem sc_odd_partL : FnScope N_odd_partL P_odd_partL (defScope s_odd_partL) := ⟨by kernel_rfl, by kernel_rfl, by kernel_rfl, by decide +kernel, by kernel_rfl, by decide +kernel, by decide +kernel⟩
theorem m_odd_partL_0 {CX : CXT} {Γ : RCx} {X : Cx} (G : GoodS CX (scx N_odd_partL (defScope s_odd_partL) f_odd_partL g_odd_partL l_odd_partL mn_odd_partL kn_odd_partL en_odd_partL hn_odd_partL 0) Γ X) : PS X ((defBody s_odd_partL).getD 0 (.Pass ⟨0, 0, 0, 0⟩)) (rdS Γ (b_odd_partL.getD 0 (.ret (.c .non)))) := by
  have g := G.toGood
  show PS X (.Assign [.Name "_law_some" _] _ _) (rdS Γ (.asg 2 _))
  with_reducible exact (s_asg G (by kernel_rfl) (by kernel_rfl) (d_lst (d_cons (by kernel_rfl) (d_tup (d_cons (by kernel_rfl) d_cs (d_cons (by kernel_rfl) d_ci d_nil))) (d_cons (by kernel_rfl) (d_tup (d_cons (by kernel_rfl) d_cs (d_cons (by kernel_rfl) (d_neg (d_v g (by kernel_rfl))) d_nil))) (d_cons (by kernel_rfl) (d_tup (d_cons (by kernel_rfl) d_cs (d_cons (by kernel_rfl) d_cb d_nil))) (d_cons (by kernel_rfl) (d_tup (d_cons (by kernel_rfl) d_cs (d_cons (by kernel_rfl) d_cs d_nil))) (d_cons (by kernel_rfl) (d_tup (d_cons (by kernel_rfl) d_cs (d_cons (by kernel_rfl) d_cn d_nil))) d_nil)))))))
theorem m_odd_partL_1 {CX : CXT} {Γ : RCx} {X : Cx} (G : GoodS CX (scx N_odd_partL (defScope s_odd_partL) f_odd_partL g_odd_partL l_odd_partL mn_odd_partL kn_odd_partL en_odd_partL hn_odd_partL 0) Γ X) : PS X ((defBody s_odd_partL).getD 1 (.Pass ⟨0, 0, 0, 0⟩)) (rdS Γ (b_odd_partL.getD 1 (.ret (.c .non)))) := by
  have g := G.toGood
  show PS X (.Assign [.Name "_law_some" _] _ _) (rdS Γ (.asg 2 _))
  with_reducible exact (s_asg G (by kernel_rfl) (by kernel_rfl) (d_bin g (d_v g (by kernel_rfl)) (d_lst (d_cons (by kernel_rfl) (d_tup (d_cons (by kernel_rfl) d_cs (d_cons (by kernel_rfl) d_cs d_nil))) (d_cons (by kernel_rfl) (d_tup (d_cons (by kernel_rfl) d_cs (d_cons (by kernel_rfl) d_cs d_nil))) (d_cons (by kernel_rfl) (d_tup (d_cons (by kernel_rfl) d_cs (d_cons (by kernel_rfl) d_ci d_nil))) (d_cons (by kernel_rfl) (d_tup (d_cons (by kernel_rfl) d_cs (d_cons (by kernel_rfl) d_cn d_nil))) (d_cons (by kernel_rfl) (d_tup (d_cons (by kernel_rfl) d_cs (d_cons (by kernel_rfl) d_cs d_nil))) (d_cons (by kernel_rfl) (d_tup (d_cons (by kernel_rfl) d_cs (d_cons (by kernel_rfl) d_cs d_nil))) d_nil)))))))))
theorem m_odd_partL_2 {CX : CXT} {Γ : RCx} {X : Cx} (G : GoodS CX (scx N_odd_partL (defScope s_odd_partL) f_odd_partL g_odd_partL l_odd_partL mn_odd_partL kn_odd_partL en_odd_partL hn_odd_partL 0) Γ X) : PS X ((defBody s_odd_partL).getD 2 (.Pass ⟨0, 0, 0, 0⟩)) (rdS Γ (b_odd_partL.getD 2 (.ret (.c .non)))) := by
  have g := G.toGood
  show PS X (.Assign [.Name "_law_some" _] _ _) (rdS Γ (.asg 2 _))
  with_reducible exact (s_asg G (by kernel_rfl) (by kernel_rfl) (d_bin g (d_v g (by kernel_rfl)) (d_lst (d_cons (by kernel_rfl) (d_tup (d_cons (by kernel_rfl) d_cs (d_cons (by kernel_rfl) (d_lst (d_cons (by kernel_rfl) d_cs d_nil)) d_nil))) (d_cons (by kernel_rfl) (d_tup (d_cons (by kernel_rfl) d_cs (d_cons (by kernel_rfl) d_ci d_nil))) (d_cons (by kernel_rfl) (d_tup (d_cons (by kernel_rfl) d_cs (d_cons (by kernel_rfl) d_ci d_nil))) (d_cons (by kernel_rfl) (d_tup (d_cons (by kernel_rfl) d_cs (d_cons (by kernel_rfl) d_ci d_nil))) (d_cons (by kernel_rfl) (d_tup (d_cons (by kernel_rfl) d_cs d_nil)) (d_cons (by kernel_rfl) (d_tup (d_cons (by kernel_rfl) d_cs (d_cons (by kernel_rfl) d_ci (d_cons (by kernel_rfl) d_ci d_nil)))) d_nil)))))))))
theorem m_odd_partL_3 {CX : CXT} {Γ : RCx} {X : Cx} (G : GoodS CX (scx N_odd_partL (defScope s_odd_partL) f_odd_partL g_odd_partL l_odd_partL mn_odd_partL kn_odd_partL en_odd_partL hn_odd_partL 0) Γ X) : PS X ((defBody s_odd_partL).getD 3 (.Pass ⟨0, 0, 0, 0⟩)) (rdS Γ (b_odd_partL.getD 3 (.ret (.c .non)))) := by
  have g := G.toGood
  show PS X (.Assign [.Name "_law_some" _] _ _) (rdS Γ (.asg 2 _))
  with_reducible exact (s_asg G (by kernel_rfl) (by kernel_rfl) (d_bin g (d_v g (by kernel_rfl)) (d_lst (d_cons (by kernel_rfl) (d_lst (d_cons (by kernel_rfl) d_cs (d_cons (by kernel_rfl) d_ci d_nil))) (d_cons (by kernel_rfl) d_cs (d_cons (by kernel_rfl) d_cn (d_cons (by kernel_rfl) d_ci (d_cons (by kernel_rfl) (d_tup d_nil) (d_cons (by kernel_rfl) (d_tup (d_cons (by kernel_rfl) d_ci (d_cons (by kernel_rfl) d_ci d_nil))) (d_cons (by kernel_rfl) (d_tup (d_cons (by kernel_rfl) d_cs (d_cons (by kernel_rfl) d_cb d_nil))) (d_cons (by kernel_rfl) (d_tup (d_cons (by kernel_rfl) (d_lst (d_cons (by kernel_rfl) d_cs d_nil)) (d_cons (by kernel_rfl) d_cs d_nil))) (d_cons (by kernel_rfl) (d_tup (d_cons (by kernel_rfl) d_dct (d_cons (by kernel_rfl) d_ci d_nil))) d_nil))))))))))))
theorem m_odd_partL_4 {CX : CXT} {Γ : RCx} {X : Cx} (G : GoodS CX (scx N_odd_partL (defScope s_odd_partL) f_odd_partL g_odd_partL l_odd_partL mn_odd_partL kn_odd_partL en_odd_partL hn_odd_partL 0) Γ X) : PS X ((defBody s_odd_partL).getD 4 (.Pass ⟨0, 0, 0, 0⟩)) (rdS Γ (b_odd_partL.getD 4 (.ret (.c .non)))) := by
  have g := G.toGood
  show PS X (.Assign [.Name "_law_some" _] _ _) (rdS Γ (.asg 2 _))
  with_reducible exact (s_asg G (by kernel_rfl) (by kernel_rfl) (d_bin g (d_v g (by kernel_rfl)) (d_lst (d_cons (by kernel_rfl) (d_tup (d_cons (by kernel_rfl) d_cs (d_cons (by kernel_rfl) (d_lst (d_cons (by kernel_rfl) d_ci d_nil)) d_nil))) (d_cons (by kernel_rfl) (d_tup (d_cons (by kernel_rfl) d_cs (d_cons (by kernel_rfl) d_dct d_nil))) (d_cons (by kernel_rfl) (d_tup (d_cons (by kernel_rfl) d_cs (d_cons (by kernel_rfl) (d_tup (d_cons (by kernel_rfl) d_cs d_nil)) d_nil))) (d_cons (by kernel_rfl) (d_tup (d_cons (by kernel_rfl) d_cn (d_cons (by kernel_rfl) d_cs d_nil))) d_nil)))))))
theorem m_odd_partL_5 {CX : CXT} {Γ : RCx} {X : Cx} (G : GoodS CX (scx N_odd_partL (defScope s_odd_partL) f_odd_partL g_odd_partL l_odd_partL mn_odd_partL kn_odd_partL en_odd_partL hn_odd_partL 0) Γ X) : PS X ((defBody s_odd_partL).getD 5 (.Pass ⟨0, 0, 0, 0⟩)) (rdS Γ (b_odd_partL.getD 5 (.ret (.c .non)))) := by
  have g := G.toGood
  show PS X (.Return (some _) _) (rdS Γ (.ret _))
  with_reducible exact (s_ret (d_ix g (by kernel_rfl) (d_v g (by kernel_rfl)) (d_bin g (d_v g (by kernel_rfl)) d_ci)))
theorem m_odd_partL {CX : CXT} {Γ : RCx} {X : Cx} (G : GoodS CX (scx N_odd_partL (defScope s_odd_partL) f_odd_partL g_odd_partL l_odd_partL mn_odd_partL kn_odd_partL en_odd_partL hn_odd_partL 0) Γ X) : PSs X (defBody s_odd_partL) (rdSs Γ b_odd_partL) := by
  have e : defBody s_odd_partL = [((defBody s_odd_partL).getD 0 (.Pass ⟨0, 0, 0, 0⟩)), ((defBody s_odd_partL).getD 1 (.Pass ⟨0, 0, 0, 0⟩)), ((defBody s_odd_partL).getD 2 (.Pass ⟨0, 0, 0, 0⟩)), ((defBody s_odd_partL).getD 3 (.Pass ⟨0, 0, 0, 0⟩)), ((defBody s_odd_partL).getD 4 (.Pass ⟨0, 0, 0, 0⟩)), ((defBody s_odd_partL).getD 5 (.Pass ⟨0, 0, 0, 0⟩))] := by kernel_rfl
  have e2 : b_odd_partL = [(b_odd_partL.getD 0 (.ret (.c .non))), (b_odd_partL.getD 1 (.ret (.c .non))), (b_odd_partL.getD 2 (.ret (.c .non))), (b_odd_partL.getD 3 (.ret (.c .non))), (b_odd_partL.getD 4 (.ret (.c .non))), (b_odd_partL.getD 5 (.ret (.c .non)))] := by kernel_rfl
  rw [e, e2]
  with_reducible exact s_cons (m_odd_partL_0 G) (s_cons (m_odd_partL_1 G) (s_cons (m_odd_partL_2 G) (s_cons (m_odd_partL_3 G) (s_cons (m_odd_partL_4 G) (s_cons (m_odd_partL_5 G) (s_nil))))))
/-! ### bentL -/
def N_bentL : List Str := ["_law_change_here", "_law_cell", "_law_number", "_law_at", "_law_word_here", "_law_thing", "_law_ahead", "_law_behind"]
def P_bentL : List Str := ["_law_change_here", "_law_cell", "_law_number"]
def b_bentL : List RS :=
  [.asg 3 (.bin .Mod (.bin .FloorDiv (.v 1) (.c (.int 8))) (.bin .Add (.blt .len [(.v 0)]) (.c (.int 1)))),
  .ite (.cmp .Lt (.bin .Mod (.v 1) (.c (.int 8))) (.c (.int 3))) [.ret (.bin .Add (.bin .Add (.sl (.v 0) none (some (.v 3))) (.lst [(.call 0 [(.bin .FloorDiv (.v 1) (.c (.int 800))), (.v 2)])])) (.sl (.v 0) (some (.v 3)) none))] [],
  .ite (.cmp .Eq (.v 0) (.lst [])) [.ret (.v 0)] [],
  .asg 3 (.bin .Mod (.bin .FloorDiv (.v 1) (.c (.int 8))) (.blt .len [(.v 0)])),
  .asgT [4, 5] (.ix (.v 0) (.v 3)),
  .asg 6 (.sl (.v 0) none (some (.v 3))),
  .asg 7 (.sl (.v 0) (some (.bin .Add (.v 3) (.c (.int 1)))) none),
  .ite (.cmp .Eq (.bin .Mod (.v 1) (.c (.int 8))) (.c (.int 3))) [.ret (.bin .Add (.bin .Add (.v 6) (.lst [(.tup [(.v 4), (.v 5)]), (.tup [(.v 4), (.v 5)])])) (.v 7))] [],
  .ite (.and [(.cmp .Eq (.bin .Mod (.v 1) (.c (.int 8))) (.c (.int 4))), (.cmp .Eq (.v 4) (.c (.str "keep"))), (.cmp .Gt (.v 5) (.c (.int 1)))]) [.ret (.bin .Add (.bin .Add (.v 6) (.lst [(.tup [(.v 4), (.c (.int 1))]), (.tup [(.v 4), (.bin .Sub (.v 5) (.c (.int 1)))])])) (.v 7))] [],
  .ite (.and [(.cmp .Eq (.bin .Mod (.v 1) (.c (.int 8))) (.c (.int 5))), (.cmp .NotEq (.v 4) (.c (.str "keep"))), (.cmp .Gt (.blt .len [(.v 5)]) (.c (.int 1)))]) [.ret (.bin .Add (.bin .Add (.v 6) (.lst [(.tup [(.v 4), (.sl (.v 5) none (some (.c (.int 1))))]), (.tup [(.v 4), (.sl (.v 5) (some (.c (.int 1))) none)])])) (.v 7))] [],
  .ite (.cmp .Eq (.bin .Mod (.v 1) (.c (.int 8))) (.c (.int 6))) [.ret (.bin .Add (.bin .Add (.bin .Add (.v 6) (.sl (.v 7) none (some (.c (.int 1))))) (.lst [(.tup [(.v 4), (.v 5)])])) (.sl (.v 7) (some (.c (.int 1))) none))] [],
  .ret (.v 0)]
def f_bentL : List Str := ["_law_odd_part"]
def g_bentL : List Str := []
def l_bentL : List Str := ["len"]
def mn_bentL : List Str := []
def kn_bentL : List Str := []
def en_bentL : List Str := []
def hn_bentL : List Str := []
def s_bentL : Stmt := stAt 44
theorem sc_bentL : FnScope N_bentL P_bentL (defScope s_bentL) := ⟨by kernel_rfl, by kernel_rfl, by kernel_rfl, by decide +kernel, by kernel_rfl, by decide +kernel, by decide +kernel⟩
theorem m_bentL_0 {CX : CXT} {Γ : RCx} {X : Cx} (G : GoodS CX (scx N_bentL (defScope s_bentL) f_bentL g_bentL l_bentL mn_bentL kn_bentL en_bentL hn_bentL 0) Γ X) : PS X ((defBody s_bentL).getD 0 (.Pass ⟨0, 0, 0, 0⟩)) (rdS Γ (b_bentL.getD 0 (.ret (.c .non)))) := by
  have g := G.toGood
  show PS X (.Assign [.Name "_law_at" _] _ _) (rdS Γ (.asg 3 _))
  with_reducible exact (s_asg G (by kernel_rfl) (by kernel_rfl) (d_bin g (d_bin g (d_v g (by kernel_rfl)) d_ci) (d_bin g (d_blt g (by kernel_rfl) (by kernel_rfl) (d_cons (by kernel_rfl) (d_v g (by kernel_rfl)) d_nil)) d_ci)))
theorem m_bentL_1 {CX : CXT} {Γ : RCx} {X : Cx} (G : GoodS CX (scx N_bentL (defScope s_bentL) f_bentL g_bentL l_bentL mn_bentL kn_bentL en_bentL hn_bentL 0) Γ X) : PS X ((defBody s_bentL).getD 1 (.Pass ⟨0, 0, 0, 0⟩)) (rdS Γ (b_bentL.getD 1 (.ret (.c .non)))) := by
  have g := G.toGood
  exact (s_ite (t_cmp g (by kernel_rfl) (d_bin g (d_v g (by kernel_rfl)) d_ci) d_ci) (s_cons (s_ret (d_bin g (d_bin g (d_sl g (d_v g (by kernel_rfl)) d_no (d_some (d_v g (by kernel_rfl)))) (d_lst (d_cons (by kernel_rfl) (d_call g (by kernel_rfl) (by kernel_rfl) (d_cons (by kernel_rfl) (d_bin g (d_v g (by kernel_rfl)) d_ci) (d_cons (by kernel_rfl) (d_v g (by kernel_rfl)) d_nil))) d_nil))) (d_sl g (d_v g (by kernel_rfl)) (d_some (d_v g (by kernel_rfl))) d_no))) s_nil) s_nil)
theorem m_bentL_2 {CX : CXT} {Γ : RCx} {X : Cx} (G : GoodS CX (scx N_bentL (defScope s_bentL) f_bentL g_bentL l_bentL mn_bentL kn_bentL en_bentL hn_bentL 0) Γ X) : PS X ((defBody s_bentL).getD 2 (.Pass ⟨0, 0, 0, 0⟩)) (rdS Γ (b_bentL.getD 2 (.ret (.c .non)))) := by
  have g := G.toGood
  exact (s_ite (t_cmp g (by kernel_rfl) (d_v g (by kernel_rfl)) (d_lst d_nil)) (s_cons (s_ret (d_v g (by kernel_rfl))) s_nil) s_nil)
theorem m_bentL_3 {CX : CXT} {Γ : RCx} {X : Cx} (G : GoodS CX (scx N_bentL (defScope s_bentL) f_bentL g_bentL l_bentL mn_bentL kn_bentL en_bentL hn_bentL 0) Γ X) : PS X ((defBody s_bentL).getD 3 (.Pass ⟨0, 0, 0, 0⟩)) (rdS Γ (b_bentL.getD 3 (.ret (.c .non)))) := by
  have g := G.toGood
  show PS X (.Assign [.Name "_law_at" _] _ _) (rdS Γ (.asg 3 _))
  with_reducible exact (s_asg G (by kernel_rfl) (by kernel_rfl) (d_bin g (d_bin g (d_v g (by kernel_rfl)) d_ci) (d_blt g (by kernel_rfl) (by kernel_rfl) (d_cons (by kernel_rfl) (d_v g (by kernel_rfl)) d_nil))))
theorem m_bentL_4 {CX : CXT} {Γ : RCx} {X : Cx} (G : GoodS CX (scx N_bentL (defScope s_bentL) f_bentL g_bentL l_bentL mn_bentL kn_bentL en_bentL hn_bentL 0) Γ X) : PS X ((defBody s_bentL).getD 4 (.Pass ⟨0, 0, 0, 0⟩)) (rdS Γ (b_bentL.getD 4 (.ret (.c .non)))) := by
  have g := G.toGood
  exact (s_asgT [(_, _), (_, _)] G (by kernel_rfl) (by kernel_rfl) (d_ix g (by kernel_rfl) (d_v g (by kernel_rfl)) (d_v g (by kernel_rfl))))
theorem m_bentL_5 {CX : CXT} {Γ : RCx} {X : Cx} (G : GoodS CX (scx N_bentL (defScope s_bentL) f_bentL g_bentL l_bentL mn_bentL kn_bentL en_bentL hn_bentL 0) Γ X) : PS X ((defBody s_bentL).getD 5 (.Pass ⟨0, 0, 0, 0⟩)) (rdS Γ (b_bentL.getD 5 (.ret (.c .non)))) := by
  have g := G.toGood
  show PS X (.Assign [.Name "_law_ahead" _] _ _) (rdS Γ (.asg 6 _))
  with_reducible exact (s_asg G (by kernel_rfl) (by kernel_rfl) (d_sl g (d_v g (by kernel_rfl)) d_no (d_some (d_v g (by kernel_rfl)))))
theorem m_bentL_6 {CX : CXT} {Γ : RCx} {X : Cx} (G : GoodS CX (scx N_bentL (defScope s_bentL) f_bentL g_bentL l_bentL mn_bentL kn_bentL en_bentL hn_bentL 0) Γ X) : PS X ((defBody s_bentL).getD 6 (.Pass ⟨0, 0, 0, 0⟩)) (rdS Γ (b_bentL.getD 6 (.ret (.c .non)))) := by
  have g := G.toGood
  show PS X (.Assign [.Name "_law_behind" _] _ _) (rdS Γ (.asg 7 _))
  with_reducible exact (s_asg G (by kernel_rfl) (by kernel_rfl) (d_sl g (d_v g (by kernel_rfl)) (d_some (d_bin g (d_v g (by kernel_rfl)) d_ci)) d_no))
theorem m_bentL_7 {CX : CXT} {Γ : RCx} {X : Cx} (G : GoodS CX (scx N_bentL (defScope s_bentL) f_bentL g_bentL l_bentL mn_bentL kn_bentL en_bentL hn_bentL 0) Γ X) : PS X ((defBody s_bentL).getD 7 (.Pass ⟨0, 0, 0, 0⟩)) (rdS Γ (b_bentL.getD 7 (.ret (.c .non)))) := by
  have g := G.toGood
  exact (s_ite (t_cmp g (by kernel_rfl) (d_bin g (d_v g (by kernel_rfl)) d_ci) d_ci) (s_cons (s_ret (d_bin g (d_bin g (d_v g (by kernel_rfl)) (d_lst (d_cons (by kernel_rfl) (d_tup (d_cons (by kernel_rfl) (d_v g (by kernel_rfl)) (d_cons (by kernel_rfl) (d_v g (by kernel_rfl)) d_nil))) (d_cons (by kernel_rfl) (d_tup (d_cons (by kernel_rfl) (d_v g (by kernel_rfl)) (d_cons (by kernel_rfl) (d_v g (by kernel_rfl)) d_nil))) d_nil)))) (d_v g (by kernel_rfl)))) s_nil) s_nil)
theorem m_bentL_8 {CX : CXT} {Γ : RCx} {X : Cx} (G : GoodS CX (scx N_bentL (defScope s_bentL) f_bentL g_bentL l_bentL mn_bentL kn_bentL en_bentL hn_bentL 0) Γ X) : PS X ((defBody s_bentL).getD 8 (.Pass ⟨0, 0, 0, 0⟩)) (rdS Γ (b_bentL.getD 8 (.ret (.c .non)))) := by
  have g := G.toGood
  exact (s_ite (PW.pt (t_and (t_cmp g (by kernel_rfl) (d_bin g (d_v g (by kernel_rfl)) d_ci) d_ci) (t_and (t_cmp g (by kernel_rfl) (d_v g (by kernel_rfl)) d_cs) (t_and1 (t_cmp g (by kernel_rfl) (d_v g (by kernel_rfl)) d_ci))))) (s_cons (s_ret (d_bin g (d_bin g (d_v g (by kernel_rfl)) (d_lst (d_cons (by kernel_rfl) (d_tup (d_cons (by kernel_rfl) (d_v g (by kernel_rfl)) (d_cons (by kernel_rfl) d_ci d_nil))) (d_cons (by kernel_rfl) (d_tup (d_cons (by kernel_rfl) (d_v g (by kernel_rfl)) (d_cons (by kernel_rfl) (d_bin g (d_v g (by kernel_rfl)) d_ci) d_nil))) d_nil)))) (d_v g (by kernel_rfl)))) s_nil) s_nil)
theorem m_bentL_9 {CX : CXT} {Γ : RCx} {X : Cx} (G : GoodS CX (scx N_bentL (defScope s_bentL) f_bentL g_bentL l_bentL mn_bentL kn_bentL en_bentL hn_bentL 0) Γ X) : PS X ((defBody s_bentL).getD 9 (.Pass ⟨0, 0, 0, 0⟩)) (rdS Γ (b_bentL.getD 9 (.ret (.c .non)))) := by
  have g := G.toGood
  exact (s_ite (PW.pt (t_and (t_cmp g (by kernel_rfl) (d_bin g (d_v g (by kernel_rfl)) d_ci) d_ci) (t_and (t_cmp g (by kernel_rfl) (d_v g (by kernel_rfl)) d_cs) (t_and1 (t_cmp g (by kernel_rfl) (d_blt g (by kernel_rfl) (by kernel_rfl) (d_cons (by kernel_rfl) (d_v g (by kernel_rfl)) d_nil)) d_ci))))) (s_cons (s_ret (d_bin g (d_bin g (d_v g (by kernel_rfl)) (d_lst (d_cons (by kernel_rfl) (d_tup (d_cons (by kernel_rfl) (d_v g (by kernel_rfl)) (d_cons (by kernel_rfl) (d_sl g (d_v g (by kernel_rfl)) d_no (d_some d_ci)) d_nil))) (d_cons (by kernel_rfl) (d_tup (d_cons (by kernel_rfl) (d_v g (by kernel_rfl)) (d_cons (by kernel_rfl) (d_sl g (d_v g (by kernel_rfl)) (d_some d_ci) d_no) d_nil))) d_nil)))) (d_v g (by kernel_rfl)))) s_nil) s_nil)
theorem m_bentL_10 {CX : CXT} {Γ : RCx} {X : Cx} (G : GoodS CX (scx N_bentL (defScope s_bentL) f_bentL g_bentL l_bentL mn_bentL kn_bentL en_bentL hn_bentL 0) Γ X) : PS X ((defBody s_bentL).getD 10 (.Pass ⟨0, 0, 0, 0⟩)) (rdS Γ (b_bentL.getD 10 (.ret (.c .non)))) := by
  have g := G.toGood
  exact (s_ite (t_cmp g (by kernel_rfl) (d_bin g (d_v g (by kernel_rfl)) d_ci) d_ci) (s_cons (s_ret (d_bin g (d_bin g (d_bin g (d_v g (by kernel_rfl)) (d_sl g (d_v g (by kernel_rfl)) d_no (d_some d_ci))) (d_lst (d_cons (by kernel_rfl) (d_tup (d_cons (by kernel_rfl) (d_v g (by kernel_rfl)) (d_cons (by kernel_rfl) (d_v g (by kernel_rfl)) d_nil))) d_nil))) (d_sl g (d_v g (by kernel_rfl)) (d_some d_ci) d_no))) s_nil) s_nil)
theorem m_bentL_11 {CX : CXT} {Γ : RCx} {X : Cx} (G : GoodS CX (scx N_bentL (defScope s_bentL) f_bentL g_bentL l_bentL mn_bentL kn_bentL en_bentL hn_bentL 0) Γ X) : PS X ((defBody s_bentL).getD 11 (.Pass ⟨0, 0, 0, 0⟩)) (rdS Γ (b_bentL.getD 11 (.ret (.c .non)))) := by
  have g := G.toGood
  show PS X (.Return (some _) _) (rdS Γ (.ret _))
  with_reducible exact (s_ret (d_v g (by kernel_rfl)))
theorem m_bentL {CX : CXT} {Γ : RCx} {X : Cx} (G : GoodS CX (scx N_bentL (defScope s_bentL) f_bentL g_bentL l_bentL mn_bentL kn_bentL en_bentL hn_bentL 0) Γ X) : PSs X (defBody s_bentL) (rdSs Γ b_bentL) := by
  have e : defBody s_bentL = [((defBody s_bentL).getD 0 (.Pass ⟨0, 0, 0, 0⟩)), ((defBody s_bentL).getD 1 (.Pass ⟨0, 0, 0, 0⟩)), ((defBody s_bentL).getD 2 (.Pass ⟨0, 0, 0, 0⟩)), ((defBody s_bentL).getD 3 (.Pass ⟨0, 0, 0, 0⟩)), ((defBody s_bentL).getD 4 (.Pass ⟨0, 0, 0, 0⟩)), ((defBody s_bentL).getD 5 (.Pass ⟨0, 0, 0, 0⟩)), ((defBody s_bentL).getD 6 (.Pass ⟨0, 0, 0, 0⟩)), ((defBody s_bentL).getD 7 (.Pass ⟨0, 0, 0, 0⟩)), ((defBody s_bentL).getD 8 (.Pass ⟨0, 0, 0, 0⟩)), ((defBody s_bentL).getD 9 (.Pass ⟨0, 0, 0, 0⟩)), ((defBody s_bentL).getD 10 (.Pass ⟨0, 0, 0, 0⟩)), ((defBody s_bentL).getD 11 (.Pass ⟨0, 0, 0, 0⟩))] := by kernel_rfl
  have e2 : b_bentL = [(b_bentL.getD 0 (.ret (.c .non))), (b_bentL.getD 1 (.ret (.c .non))), (b_bentL.getD 2 (.ret (.c .non))), (b_bentL.getD 3 (.ret (.c .non))), (b_bentL.getD 4 (.ret (.c .non))), (b_bentL.getD 5 (.ret (.c .non))), (b_bentL.getD 6 (.ret (.c .non))), (b_bentL.getD 7 (.ret (.c .non))), (b_bentL.getD 8 (.ret (.c .non))), (b_bentL.getD 9 (.ret (.c .non))), (b_bentL.getD 10 (.ret (.c .non))), (b_bentL.getD 11 (.ret (.c .non)))] := by kernel_rfl
  rw [e, e2]
  with_reducible exact s_cons (m_bentL_0 G) (s_cons (m_bentL_1 G) (s_cons (m_bentL_2 G) (s_cons (m_bentL_3 G) (s_cons (m_bentL_4 G) (s_cons (m_bentL_5 G) (s_cons (m_bentL_6 G) (s_cons (m_bentL_7 G) (s_cons (m_bentL_8 G) (s_cons (m_bentL_9 G) (s_cons (m_bentL_10 G) (s_cons (m_bentL_11 G) (s_nil))))))))))))
/-! ### bent_goodL -/
def N_bent_goodL : List Str := ["_law_bent_here", "_law_good", "_law_handed", "_law_which", "_law_found"]
def P_bent_goodL : List Str := ["_law_bent_here"]
def b_bent_goodL : List RS :=
  [.asg 1 (.call 0 [(.v 0)]),
  .asg 2 (.blt .list [(.v 0)]),
  .for1 3 .tup [(.tup [(.c (.int 1)), (.c (.int 2)), (.c (.int 3))])] [.asg 4 (.call 1 [(.v 3), (.v 2)]),
    .ite (.cmp .Eq (.cmp .Eq (.v 4) (.c (.str "change"))) (.v 1)) [.ret (.c (.bl false))] [],
    .ite (.and [(.v 1), (.cmp .Eq (.v 3) (.c (.int 1))), (.cmp .IsNot (.v 4) (.c .non))]) [.ret (.c (.bl false))] []],
  .ret (.same (.v 2) (.v 0))]
def f_bent_goodL : List Str := ["_law_is_change", "_law_refusal"]
def g_bent_goodL : List Str := []
def l_bent_goodL : List Str := ["list"]
def mn_bent_goodL : List Str := []
def kn_bent_goodL : List Str := []
def en_bent_goodL : List Str := []
def hn_bent_goodL : List Str := []
def s_bent_goodL : Stmt := stAt 45
theorem sc_bent_goodL : FnScope N_bent_goodL P_bent_goodL (defScope s_bent_goodL) := ⟨by kernel_rfl, by kernel_rfl, by kernel_rfl, by decide +kernel, by kernel_rfl, by decide +kernel, by decide +kernel⟩
theorem m_bent_goodL {CX : CXT} {Γ : RCx} {X : Cx} (G : GoodS CX (scx N_bent_goodL (defScope s_bent_goodL) f_bent_goodL g_bent_goodL l_bent_goodL mn_bent_goodL kn_bent_goodL en_bent_goodL hn_bent_goodL 0) Γ X) : PSs X (defBody s_bent_goodL) (rdSs Γ b_bent_goodL) := by
  have g := G.toGood
  exact (s_cons (s_asg G (by kernel_rfl) (by kernel_rfl) (d_call g (by kernel_rfl) (by kernel_rfl) (d_cons (by kernel_rfl) (d_v g (by kernel_rfl)) d_nil))) (s_cons (s_asg G (by kernel_rfl) (by kernel_rfl) (d_blt g (by kernel_rfl) (by kernel_rfl) (d_cons (by kernel_rfl) (d_v g (by kernel_rfl)) d_nil))) (s_cons (s_for1 G (by kernel_rfl) (by kernel_rfl) (i_tup g (d_tup (d_cons (by kernel_rfl) d_ci (d_cons (by kernel_rfl) d_ci (d_cons (by kernel_rfl) d_ci d_nil))))) (s_cons (s_asg G (by kernel_rfl) (by kernel_rfl) (d_call g (by kernel_rfl) (by kernel_rfl) (d_cons (by kernel_rfl) (d_v g (by kernel_rfl)) (d_cons (by kernel_rfl) (d_v g (by kernel_rfl)) d_nil)))) (s_cons (s_ite (t_cmp g (by kernel_rfl) (d_cmp g (by kernel_rfl) (d_v g (by kernel_rfl)) d_cs) (d_v g (by kernel_rfl))) (s_cons (s_ret d_cb) s_nil) s_nil) (s_cons (s_ite (PW.pt (t_and (t_v g (d_v g (by kernel_rfl))) (t_and (t_cmp g (by kernel_rfl) (d_v g (by kernel_rfl)) d_ci) (t_and1 (t_cmp g (by kernel_rfl) (d_v g (by kernel_rfl)) d_cn))))) (s_cons (s_ret d_cb) s_nil) s_nil) s_nil)))) (s_cons (s_ret (d_same g (by kernel_rfl) (d_v g (by kernel_rfl)) (d_v g (by kernel_rfl)))) s_nil))))
/-! ### law -/
def N_law : List Str := ["_law_script", "_law_cell", "_law_text_here", "_law_at", "_law_thing", "_law_found", "_law_far", "_law_some", "_law_odd", "_law_change_here", "_law_k", "_law_strange", "_law_words"]
def P_law : List Str := ["_law_script"]
def b_law : List RS :=
  [.asg 1 (.call 0 [(.v 0), (.c (.int 0))]),
  .asg 2 (.call 1 [(.call 0 [(.v 0), (.c (.int 1))]), (.call 2 [(.v 1)])]),
  .asg 3 (.bin .Mod (.bin .FloorDiv (.call 0 [(.v 0), (.c (.int 2))]) (.c (.int 2))) (.bin .Add (.blt .len [(.v 2)]) (.c (.int 1)))),
  .asg 4 (.v 2),
  .ite (.cmp .Eq (.bin .Mod (.call 0 [(.v 0), (.c (.int 2))]) (.c (.int 2))) (.c (.int 1))) [.asg 4 (.bin .Add (.bin .Add (.sl (.v 2) none (some (.v 3))) (.c (.str "\t"))) (.sl (.v 2) (some (.v 3)) none))] [],
  .asg 5 (.call 3 [(.v 4)]),
  .ite (.or [(.not (.isi .bool (.v 5))), (.cmp .NotEq (.v 5) (.cmp .Eq (.v 4) (.v 2)))]) [.ret (.c (.bl false))] [],
  .ite (.cmp .NotEq (.call 4 [(.c (.int 0)), (.v 4)]) (.ix (.lst [(.c .non), (.c (.str "text"))]) (.blt .int [(.cmp .NotEq (.v 4) (.v 2))]))) [.ret (.c (.bl false))] [],
  .asg 6 (.bin .Mod (.call 0 [(.v 0), (.c (.int 3))]) (.bin .Pow (.c (.int 10)) (.c (.int 30)))),
  .asg 7 (.lst [(.c .non), (.c (.int 5)), (.c (.bl true)), (.c (.bl false)), (.lst [(.c (.str "a"))]), (.tup [(.c (.str "a")), (.c (.str "b"))]), .dct, (.c (.int 0)), (.neg (.v 6)), (.lst []), (.tup [])]),
  .asg 8 (.ix (.v 7) (.bin .Mod (.call 0 [(.v 0), (.c (.int 4))]) (.c (.int 11)))),
  .ite (.cmp .IsNot (.call 3 [(.v 8)]) (.c (.bl false))) [.ret (.c (.bl false))] [],
  .ite (.cmp .NotEq (.call 4 [(.c (.int 0)), (.v 8)]) (.c (.str "text"))) [.ret (.c (.bl false))] [],
  .ite (.or [(.cmp .IsNot (.call 5 [(.v 6)]) (.c (.bl true))), (.cmp .IsNot (.call 5 [(.neg (.v 6))]) (.c (.bl true)))]) [.ret (.c (.bl false))] [],
  .asg 5 (.call 5 [(.v 8)]),
  .ite (.or [(.cmp .IsNot (.call 5 [(.v 2)]) (.c (.bl false))), (.not (.isi .bool (.v 5)))]) [.ret (.c (.bl false))] [],
  .ite (.cmp .NotEq (.v 5) (.cmp .In (.bin .Mod (.call 0 [(.v 0), (.c (.int 4))]) (.c (.int 11))) (.tup [(.c (.int 1)), (.c (.int 7)), (.c (.int 8))]))) [.ret (.c (.bl false))] [],
  .asg 9 (.call 6 [(.call 0 [(.v 0), (.c (.int 5))]), (.v 2), (.bin .Mod (.call 0 [(.v 0), (.c (.int 6))]) (.c (.int 9)))]),
  .for1 10 .rng [(.c (.int 6))] [.ite (.not (.call 7 [(.call 8 [(.v 9), (.call 9 [(.call 0 [(.v 0), (.c (.int 7))]), (.bin .Add (.c (.int 3)) (.v 10))]), (.v 6)])])) [.ret (.c (.bl false))] []],
  .asg 7 (.lst [(.c .non), (.c (.str "keep")), (.blt .tuple [(.v 9)]), (.c (.int 7)), .dct, (.tup [(.c (.str "keep")), (.c (.int 1))]), (.c (.bl true))]),
  .asg 11 (.ix (.v 7) (.bin .Mod (.call 0 [(.v 0), (.c (.int 8))]) (.c (.int 7)))),
  .asgC 12 (.comp none [("_law_strange", 11)] .tup [(.tup [(.c (.int 1)), (.c (.int 2)), (.c (.int 3))])] none (.call 4 [(.v 0), (.v 1)])),
  .ret (.cmp .Eq (.v 12) (.bin .Mult (.lst [(.c (.str "change"))]) (.c (.int 3))))]
def f_law : List Str := ["_law_cell_at", "_law_text", "_law_size", "is_text", "_law_refusal", "is_whole", "_law_change", "_law_bent_good", "_law_bent", "_law_mixed"]
def g_law : List Str := []
def l_law : List Str := ["len", "isinstance", "bool", "int", "range", "tuple"]
def mn_law : List Str := []
def kn_law : List Str := []
def en_law : List Str := []
def hn_law : List Str := []
def s_law : Stmt := stAt 46
theorem sc_law : FnScope N_law P_law (defScope s_law) := ⟨by kernel_rfl, by kernel_rfl, by kernel_rfl, by decide +kernel, by kernel_rfl, by decide +kernel, by decide +kernel⟩
theorem m_law_0 {CX : CXT} {Γ : RCx} {X : Cx} (G : GoodS CX (scx N_law (defScope s_law) f_law g_law l_law mn_law kn_law en_law hn_law 0) Γ X) : PS X ((defBody s_law).getD 0 (.Pass ⟨0, 0, 0, 0⟩)) (rdS Γ (b_law.getD 0 (.ret (.c .non)))) := by
  have g := G.toGood
  show PS X (.Assign [.Name "_law_cell" _] _ _) (rdS Γ (.asg 1 _))
  with_reducible exact (s_asg G (by kernel_rfl) (by kernel_rfl) (d_call g (by kernel_rfl) (by kernel_rfl) (d_cons (by kernel_rfl) (d_v g (by kernel_rfl)) (d_cons (by kernel_rfl) d_ci d_nil))))
theorem m_law_1 {CX : CXT} {Γ : RCx} {X : Cx} (G : GoodS CX (scx N_law (defScope s_law) f_law g_law l_law mn_law kn_law en_law hn_law 0) Γ X) : PS X ((defBody s_law).getD 1 (.Pass ⟨0, 0, 0, 0⟩)) (rdS Γ (b_law.getD 1 (.ret (.c .non)))) := by
  have g := G.toGood
  show PS X (.Assign [.Name "_law_text_here" _] _ _) (rdS Γ (.asg 2 _))
  with_reducible exact (s_asg G (by kernel_rfl) (by kernel_rfl) (d_call g (by kernel_rfl) (by kernel_rfl) (d_cons (by kernel_rfl) (d_call g (by kernel_rfl) (by kernel_rfl) (d_cons (by kernel_rfl) (d_v g (by kernel_rfl)) (d_cons (by kernel_rfl) d_ci d_nil))) (d_cons (by kernel_rfl) (d_call g (by kernel_rfl) (by kernel_rfl) (d_cons (by kernel_rfl) (d_v g (by kernel_rfl)) d_nil)) d_nil))))
theorem m_law_2 {CX : CXT} {Γ : RCx} {X : Cx} (G : GoodS CX (scx N_law (defScope s_law) f_law g_law l_law mn_law kn_law en_law hn_law 0) Γ X) : PS X ((defBody s_law).getD 2 (.Pass ⟨0, 0, 0, 0⟩)) (rdS Γ (b_law.getD 2 (.ret (.c .non)))) := by
  have g := G.toGood
  show PS X (.Assign [.Name "_law_at" _] _ _) (rdS Γ (.asg 3 _))
  with_reducible exact (s_asg G (by kernel_rfl) (by kernel_rfl) (d_bin g (d_bin g (d_call g (by kernel_rfl) (by kernel_rfl) (d_cons (by kernel_rfl) (d_v g (by kernel_rfl)) (d_cons (by kernel_rfl) d_ci d_nil))) d_ci) (d_bin g (d_blt g (by kernel_rfl) (by kernel_rfl) (d_cons (by kernel_rfl) (d_v g (by kernel_rfl)) d_nil)) d_ci)))
theorem m_law_3 {CX : CXT} {Γ : RCx} {X : Cx} (G : GoodS CX (scx N_law (defScope s_law) f_law g_law l_law mn_law kn_law en_law hn_law 0) Γ X) : PS X ((defBody s_law).getD 3 (.Pass ⟨0, 0, 0, 0⟩)) (rdS Γ (b_law.getD 3 (.ret (.c .non)))) := by
  have g := G.toGood
  show PS X (.Assign [.Name "_law_thing" _] _ _) (rdS Γ (.asg 4 _))
  with_reducible exact (s_asg G (by kernel_rfl) (by kernel_rfl) (d_v g (by kernel_rfl)))
theorem m_law_4 {CX : CXT} {Γ : RCx} {X : Cx} (G : GoodS CX (scx N_law (defScope s_law) f_law g_law l_law mn_law kn_law en_law hn_law 0) Γ X) : PS X ((defBody s_law).getD 4 (.Pass ⟨0, 0, 0, 0⟩)) (rdS Γ (b_law.getD 4 (.ret (.c .non)))) := by
  have g := G.toGood
  exact (s_ite (t_cmp g (by kernel_rfl) (d_bin g (d_call g (by kernel_rfl) (by kernel_rfl) (d_cons (by kernel_rfl) (d_v g (by kernel_rfl)) (d_cons (by kernel_rfl) d_ci d_nil))) d_ci) d_ci) (s_cons (s_asg G (by kernel_rfl) (by kernel_rfl) (d_bin g (d_bin g (d_sl g (d_v g (by kernel_rfl)) d_no (d_some (d_v g (by kernel_rfl)))) d_cs) (d_sl g (d_v g (by kernel_rfl)) (d_some (d_v g (by kernel_rfl))) d_no))) s_nil) s_nil)
theorem m_law_5 {CX : CXT} {Γ : RCx} {X : Cx} (G : GoodS CX (scx N_law (defScope s_law) f_law g_law l_law mn_law kn_law en_law hn_law 0) Γ X) : PS X ((defBody s_law).getD 5 (.Pass ⟨0, 0, 0, 0⟩)) (rdS Γ (b_law.getD 5 (.ret (.c .non)))) := by
  have g := G.toGood
  show PS X (.Assign [.Name "_law_found" _] _ _) (rdS Γ (.asg 5 _))
  with_reducible exact (s_asg G (by kernel_rfl) (by kernel_rfl) (d_call g (by kernel_rfl) (by kernel_rfl) (d_cons (by kernel_rfl) (d_v g (by kernel_rfl)) d_nil)))
theorem m_law_6 {CX : CXT} {Γ : RCx} {X : Cx} (G : GoodS CX (scx N_law (defScope s_law) f_law g_law l_law mn_law kn_law en_law hn_law 0) Γ X) : PS X ((defBody s_law).getD 6 (.Pass ⟨0, 0, 0, 0⟩)) (rdS Γ (b_law.getD 6 (.ret (.c .non)))) := by
  have g := G.toGood
  exact (s_ite (PW.pt (t_or (t_not (t_isi g (d_isi g (by kernel_rfl) (by kernel_rfl) (by kernel_rfl) (d_v g (by kernel_rfl))))) (t_or1 (t_cmp g (by kernel_rfl) (d_v g (by kernel_rfl)) (d_cmp g (by kernel_rfl) (d_v g (by kernel_rfl)) (d_v g (by kernel_rfl))))))) (s_cons (s_ret d_cb) s_nil) s_nil)
theorem m_law_7 {CX : CXT} {Γ : RCx} {X : Cx} (G : GoodS CX (scx N_law (defScope s_law) f_law g_law l_law mn_law kn_law en_law hn_law 0) Γ X) : PS X ((defBody s_law).getD 7 (.Pass ⟨0, 0, 0, 0⟩)) (rdS Γ (b_law.getD 7 (.ret (.c .non)))) := by
  have g := G.toGood
  exact (s_ite (t_cmp g (by kernel_rfl) (d_call g (by kernel_rfl) (by kernel_rfl) (d_cons (by kernel_rfl) d_ci (d_cons (by kernel_rfl) (d_v g (by kernel_rfl)) d_nil))) (d_ix g (by kernel_rfl) (d_lst (d_cons (by kernel_rfl) d_cn (d_cons (by kernel_rfl) d_cs d_nil))) (d_blt g (by kernel_rfl) (by kernel_rfl) (d_cons (by kernel_rfl) (d_cmp g (by kernel_rfl) (d_v g (by kernel_rfl)) (d_v g (by kernel_rfl))) d_nil)))) (s_cons (s_ret d_cb) s_nil) s_nil)
theorem m_law_8 {CX : CXT} {Γ : RCx} {X : Cx} (G : GoodS CX (scx N_law (defScope s_law) f_law g_law l_law mn_law kn_law en_law hn_law 0) Γ X) : PS X ((defBody s_law).getD 8 (.Pass ⟨0, 0, 0, 0⟩)) (rdS Γ (b_law.getD 8 (.ret (.c .non)))) := by
  have g := G.toGood
  show PS X (.Assign [.Name "_law_far" _] _ _) (rdS Γ (.asg 6 _))
  with_reducible exact (s_asg G (by kernel_rfl) (by kernel_rfl) (d_bin g (d_call g (by kernel_rfl) (by kernel_rfl) (d_cons (by kernel_rfl) (d_v g (by kernel_rfl)) (d_cons (by kernel_rfl) d_ci d_nil))) (d_bin g d_ci d_ci)))
theorem m_law_9 {CX : CXT} {Γ : RCx} {X : Cx} (G : GoodS CX (scx N_law (defScope s_law) f_law g_law l_law mn_law kn_law en_law hn_law 0) Γ X) : PS X ((defBody s_law).getD 9 (.Pass ⟨0, 0, 0, 0⟩)) (rdS Γ (b_law.getD 9 (.ret (.c .non)))) := by
  have g := G.toGood
  show PS X (.Assign [.Name "_law_some" _] _ _) (rdS Γ (.asg 7 _))
  with_reducible exact (s_asg G (by kernel_rfl) (by kernel_rfl) (d_lst (d_cons (by kernel_rfl) d_cn (d_cons (by kernel_rfl) d_ci (d_cons (by kernel_rfl) d_cb (d_cons (by kernel_rfl) d_cb (d_cons (by kernel_rfl) (d_lst (d_cons (by kernel_rfl) d_cs d_nil)) (d_cons (by kernel_rfl) (d_tup (d_cons (by kernel_rfl) d_cs (d_cons (by kernel_rfl) d_cs d_nil))) (d_cons (by kernel_rfl) d_dct (d_cons (by kernel_rfl) d_ci (d_cons (by kernel_rfl) (d_neg (d_v g (by kernel_rfl))) (d_cons (by kernel_rfl) (d_lst d_nil) (d_cons (by kernel_rfl) (d_tup d_nil) d_nil)))))))))))))
theorem m_law_10 {CX : CXT} {Γ : RCx} {X : Cx} (G : GoodS CX (scx N_law (defScope s_law) f_law g_law l_law mn_law kn_law en_law hn_law 0) Γ X) : PS X ((defBody s_law).getD 10 (.Pass ⟨0, 0, 0, 0⟩)) (rdS Γ (b_law.getD 10 (.ret (.c .non)))) := by
  have g := G.toGood
  show PS X (.Assign [.Name "_law_odd" _] _ _) (rdS Γ (.asg 8 _))
  with_reducible exact (s_asg G (by kernel_rfl) (by kernel_rfl) (d_ix g (by kernel_rfl) (d_v g (by kernel_rfl)) (d_bin g (d_call g (by kernel_rfl) (by kernel_rfl) (d_cons (by kernel_rfl) (d_v g (by kernel_rfl)) (d_cons (by kernel_rfl) d_ci d_nil))) d_ci)))
theorem m_law_11 {CX : CXT} {Γ : RCx} {X : Cx} (G : GoodS CX (scx N_law (defScope s_law) f_law g_law l_law mn_law kn_law en_law hn_law 0) Γ X) : PS X ((defBody s_law).getD 11 (.Pass ⟨0, 0, 0, 0⟩)) (rdS Γ (b_law.getD 11 (.ret (.c .non)))) := by
  have g := G.toGood
  exact (s_ite (t_cmp g (by kernel_rfl) (d_call g (by kernel_rfl) (by kernel_rfl) (d_cons (by kernel_rfl) (d_v g (by kernel_rfl)) d_nil)) d_cb) (s_cons (s_ret d_cb) s_nil) s_nil)
theorem m_law_12 {CX : CXT} {Γ : RCx} {X : Cx} (G : GoodS CX (scx N_law (defScope s_law) f_law g_law l_law mn_law kn_law en_law hn_law 0) Γ X) : PS X ((defBody s_law).getD 12 (.Pass ⟨0, 0, 0, 0⟩)) (rdS Γ (b_law.getD 12 (.ret (.c .non)))) := by
  have g := G.toGood
  exact (s_ite (t_cmp g (by kernel_rfl) (d_call g (by kernel_rfl) (by kernel_rfl) (d_cons (by kernel_rfl) d_ci (d_cons (by kernel_rfl) (d_v g (by kernel_rfl)) d_nil))) d_cs) (s_cons (s_ret d_cb) s_nil) s_nil)
theorem m_law_13 {CX : CXT} {Γ : RCx} {X : Cx} (G : GoodS CX (scx N_law (defScope s_law) f_law g_law l_law mn_law kn_law en_law hn_law 0) Γ X) : PS X ((defBody s_law).getD 13 (.Pass ⟨0, 0, 0, 0⟩)) (rdS Γ (b_law.getD 13 (.ret (.c .non)))) := by
  have g := G.toGood
  exact (s_ite (PW.pt (t_or (t_cmp g (by kernel_rfl) (d_call g (by kernel_rfl) (by kernel_rfl) (d_cons (by kernel_rfl) (d_v g (by kernel_rfl)) d_nil)) d_cb) (t_or1 (t_cmp g (by kernel_rfl) (d_call g (by kernel_rfl) (by kernel_rfl) (d_cons (by kernel_rfl) (d_neg (d_v g (by kernel_rfl))) d_nil)) d_cb)))) (s_cons (s_ret d_cb) s_nil) s_nil)
theorem m_law_14 {CX : CXT} {Γ : RCx} {X : Cx} (G : GoodS CX (scx N_law (defScope s_law) f_law g_law l_law mn_law kn_law en_law hn_law 0) Γ X) : PS X ((defBody s_law).getD 14 (.Pass ⟨0, 0, 0, 0⟩)) (rdS Γ (b_law.getD 14 (.ret (.c .non)))) := by
  have g := G.toGood
  show PS X (.Assign [.Name "_law_found" _] _ _) (rdS Γ (.asg 5 _))
  with_reducible exact (s_asg G (by kernel_rfl) (by kernel_rfl) (d_call g (by kernel_rfl) (by kernel_rfl) (d_cons (by kernel_rfl) (d_v g (by kernel_rfl)) d_nil)))
theorem m_law_15 {CX : CXT} {Γ : RCx} {X : Cx} (G : GoodS CX (scx N_law (defScope s_law) f_law g_law l_law mn_law kn_law en_law hn_law 0) Γ X) : PS X ((defBody s_law).getD 15 (.Pass ⟨0, 0, 0, 0⟩)) (rdS Γ (b_law.getD 15 (.ret (.c .non)))) := by
  have g := G.toGood
  exact (s_ite (PW.pt (t_or (t_cmp g (by kernel_rfl) (d_call g (by kernel_rfl) (by kernel_rfl) (d_cons (by kernel_rfl) (d_v g (by kernel_rfl)) d_nil)) d_cb) (t_or1 (t_not (t_isi g (d_isi g (by kernel_rfl) (by kernel_rfl) (by kernel_rfl) (d_v g (by kernel_rfl)))))))) (s_cons (s_ret d_cb) s_nil) s_nil)
theorem m_law_16 {CX : CXT} {Γ : RCx} {X : Cx} (G : GoodS CX (scx N_law (defScope s_law) f_law g_law l_law mn_law kn_law en_law hn_law 0) Γ X) : PS X ((defBody s_law).getD 16 (.Pass ⟨0, 0, 0, 0⟩)) (rdS Γ (b_law.getD 16 (.ret (.c .non)))) := by
  have g := G.toGood
  exact (s_ite (t_cmp g (by kernel_rfl) (d_v g (by kernel_rfl)) (d_cmp g (by kernel_rfl) (d_bin g (d_call g (by kernel_rfl) (by kernel_rfl) (d_cons (by kernel_rfl) (d_v g (by kernel_rfl)) (d_cons (by kernel_rfl) d_ci d_nil))) d_ci) (d_tup (d_cons (by kernel_rfl) d_ci (d_cons (by kernel_rfl) d_ci (d_cons (by kernel_rfl) d_ci d_nil)))))) (s_cons (s_ret d_cb) s_nil) s_nil)
theorem m_law_17 {CX : CXT} {Γ : RCx} {X : Cx} (G : GoodS CX (scx N_law (defScope s_law) f_law g_law l_law mn_law kn_law en_law hn_law 0) Γ X) : PS X ((defBody s_law).getD 17 (.Pass ⟨0, 0, 0, 0⟩)) (rdS Γ (b_law.getD 17 (.ret (.c .non)))) := by
  have g := G.toGood
  show PS X (.Assign [.Name "_law_change_here" _] _ _) (rdS Γ (.asg 9 _))
  with_reducible exact (s_asg G (by kernel_rfl) (by kernel_rfl) (d_call g (by kernel_rfl) (by kernel_rfl) (d_cons (by kernel_rfl) (d_call g (by kernel_rfl) (by kernel_rfl) (d_cons (by kernel_rfl) (d_v g (by kernel_rfl)) (d_cons (by kernel_rfl) d_ci d_nil))) (d_cons (by kernel_rfl) (d_v g (by kernel_rfl)) (d_cons (by kernel_rfl) (d_bin g (d_call g (by kernel_rfl) (by kernel_rfl) (d_cons (by kernel_rfl) (d_v g (by kernel_rfl)) (d_cons (by kernel_rfl) d_ci d_nil))) d_ci) d_nil)))))
theorem m_law_18 {CX : CXT} {Γ : RCx} {X : Cx} (G : GoodS CX (scx N_law (defScope s_law) f_law g_law l_law mn_law kn_law en_law hn_law 0) Γ X) : PS X ((defBody s_law).getD 18 (.Pass ⟨0, 0, 0, 0⟩)) (rdS Γ (b_law.getD 18 (.ret (.c .non)))) := by
  have g := G.toGood
  exact (s_for1 G (by kernel_rfl) (by kernel_rfl) (i_rng g (by kernel_rfl) (by kernel_rfl) d_ci) (s_cons (s_ite (t_not (t_call g (d_call g (by kernel_rfl) (by kernel_rfl) (d_cons (by kernel_rfl) (d_call g (by kernel_rfl) (by kernel_rfl) (d_cons (by kernel_rfl) (d_v g (by kernel_rfl)) (d_cons (by kernel_rfl) (d_call g (by kernel_rfl) (by kernel_rfl) (d_cons (by kernel_rfl) (d_call g (by kernel_rfl) (by kernel_rfl) (d_cons (by kernel_rfl) (d_v g (by kernel_rfl)) (d_cons (by kernel_rfl) d_ci d_nil))) (d_cons (by kernel_rfl) (d_bin g d_ci (d_v g (by kernel_rfl))) d_nil))) (d_cons (by kernel_rfl) (d_v g (by kernel_rfl)) d_nil)))) d_nil)))) (s_cons (s_ret d_cb) s_nil) s_nil) s_nil))
theorem m_law_19 {CX : CXT} {Γ : RCx} {X : Cx} (G : GoodS CX (scx N_law (defScope s_law) f_law g_law l_law mn_law kn_law en_law hn_law 0) Γ X) : PS X ((defBody s_law).getD 19 (.Pass ⟨0, 0, 0, 0⟩)) (rdS Γ (b_law.getD 19 (.ret (.c .non)))) := by
  have g := G.toGood
  show PS X (.Assign [.Name "_law_some" _] _ _) (rdS Γ (.asg 7 _))
  with_reducible exact (s_asg G (by kernel_rfl) (by kernel_rfl) (d_lst (d_cons (by kernel_rfl) d_cn (d_cons (by kernel_rfl) d_cs (d_cons (by kernel_rfl) (d_blt g (by kernel_rfl) (by kernel_rfl) (d_cons (by kernel_rfl) (d_v g (by kernel_rfl)) d_nil)) (d_cons (by kernel_rfl) d_ci (d_cons (by kernel_rfl) d_dct (d_cons (by kernel_rfl) (d_tup (d_cons (by kernel_rfl) d_cs (d_cons (by kernel_rfl) d_ci d_nil))) (d_cons (by kernel_rfl) d_cb d_nil)))))))))
theorem m_law_20 {CX : CXT} {Γ : RCx} {X : Cx} (G : GoodS CX (scx N_law (defScope s_law) f_law g_law l_law mn_law kn_law en_law hn_law 0) Γ X) : PS X ((defBody s_law).getD 20 (.Pass ⟨0, 0, 0, 0⟩)) (rdS Γ (b_law.getD 20 (.ret (.c .non)))) := by
  have g := G.toGood
  show PS X (.Assign [.Name "_law_strange" _] _ _) (rdS Γ (.asg 11 _))
  with_reducible exact (s_asg G (by kernel_rfl) (by kernel_rfl) (d_ix g (by kernel_rfl) (d_v g (by kernel_rfl)) (d_bin g (d_call g (by kernel_rfl) (by kernel_rfl) (d_cons (by kernel_rfl) (d_v g (by kernel_rfl)) (d_cons (by kernel_rfl) d_ci d_nil))) d_ci)))
theorem m_law_21 {CX : CXT} {Γ : RCx} {X : Cx} (G : GoodS CX (scx N_law (defScope s_law) f_law g_law l_law mn_law kn_law en_law hn_law 0) Γ X) : PS X ((defBody s_law).getD 21 (.Pass ⟨0, 0, 0, 0⟩)) (rdS Γ (b_law.getD 21 (.ret (.c .non)))) := by
  have g := G.toGood
  exact (s_asgC (ln := ["_law_which"]) G (by kernel_rfl) (by kernel_rfl) (by kernel_rfl) (i_tup g (d_tup (d_cons (by kernel_rfl) d_ci (d_cons (by kernel_rfl) d_ci (d_cons (by kernel_rfl) d_ci d_nil))))) d_if0 (fun _ g => (d_call g (by kernel_rfl) (by kernel_rfl) (d_cons (by kernel_rfl) (d_v g (by kernel_rfl)) (d_cons (by kernel_rfl) (d_v g (by kernel_rfl)) d_nil)))))
theorem m_law_22 {CX : CXT} {Γ : RCx} {X : Cx} (G : GoodS CX (scx N_law (defScope s_law) f_law g_law l_law mn_law kn_law en_law hn_law 0) Γ X) : PS X ((defBody s_law).getD 22 (.Pass ⟨0, 0, 0, 0⟩)) (rdS Γ (b_law.getD 22 (.ret (.c .non)))) := by
  have g := G.toGood
  show PS X (.Return (some _) _) (rdS Γ (.ret _))
  with_reducible exact (s_ret (d_cmp g (by kernel_rfl) (d_v g (by kernel_rfl)) (d_bin g (d_lst (d_cons (by kernel_rfl) d_cs d_nil)) d_ci)))
theorem m_law {CX : CXT} {Γ : RCx} {X : Cx} (G : GoodS CX (scx N_law (defScope s_law) f_law g_law l_law mn_law kn_law en_law hn_law 0) Γ X) : PSs X (defBody s_law) (rdSs Γ b_law) := by
  have e : defBody s_law = [((defBody s_law).getD 0 (.Pass ⟨0, 0, 0, 0⟩)), ((defBody s_law).getD 1 (.Pass ⟨0, 0, 0, 0⟩)), ((defBody s_law).getD 2 (.Pass ⟨0, 0, 0, 0⟩)), ((defBody s_law).getD 3 (.Pass ⟨0, 0, 0, 0⟩)), ((defBody s_law).getD 4 (.Pass ⟨0, 0, 0, 0⟩)), ((defBody s_law).getD 5 (.Pass ⟨0, 0, 0, 0⟩)), ((defBody s_law).getD 6 (.Pass ⟨0, 0, 0, 0⟩)), ((defBody s_law).getD 7 (.Pass ⟨0, 0, 0, 0⟩)), ((defBody s_law).getD 8 (.Pass ⟨0, 0, 0, 0⟩)), ((defBody s_law).getD 9 (.Pass ⟨0, 0, 0, 0⟩)), ((defBody s_law).getD 10 (.Pass ⟨0, 0, 0, 0⟩)), ((defBody s_law).getD 11 (.Pass ⟨0, 0, 0, 0⟩)), ((defBody s_law).getD 12 (.Pass ⟨0, 0, 0, 0⟩)), ((defBody s_law).getD 13 (.Pass ⟨0, 0, 0, 0⟩)), ((defBody s_law).getD 14 (.Pass ⟨0, 0, 0, 0⟩)), ((defBody s_law).getD 15 (.Pass ⟨0, 0, 0, 0⟩)), ((defBody s_law).getD 16 (.Pass ⟨0, 0, 0, 0⟩)), ((defBody s_law).getD 17 (.Pass ⟨0, 0, 0, 0⟩)), ((defBody s_law).getD 18 (.Pass ⟨0, 0, 0, 0⟩)), ((defBody s_law).getD 19 (.Pass ⟨0, 0, 0, 0⟩)), ((defBody s_law).getD 20 (.Pass ⟨0, 0, 0, 0⟩)), ((defBody s_law).getD 21 (.Pass ⟨0, 0, 0, 0⟩)), ((defBody s_law).getD 22 (.Pass ⟨0, 0, 0, 0⟩))] := by kernel_rfl
  have e2 : b_law = [(b_law.getD 0 (.ret (.c .non))), (b_law.getD 1 (.ret (.c .non))), (b_law.getD 2 (.ret (.c .non))), (b_law.getD 3 (.ret (.c .non))), (b_law.getD 4 (.ret (.c .non))), (b_law.getD 5 (.ret (.c .non))), (b_law.getD 6 (.ret (.c .non))), (b_law.getD 7 (.ret (.c .non))), (b_law.getD 8 (.ret (.c .non))), (b_law.getD 9 (.ret (.c .non))), (b_law.getD 10 (.ret (.c .non))), (b_law.getD 11 (.ret (.c .non))), (b_law.getD 12 (.ret (.c .non))), (b_law.getD 13 (.ret (.c .non))), (b_law.getD 14 (.ret (.c .non))), (b_law.getD 15 (.ret (.c .non))), (b_law.getD 16 (.ret (.c .non))), (b_law.getD 17 (.ret (.c .non))), (b_law.getD 18 (.ret (.c .non))), (b_law.getD 19 (.ret (.c .non))), (b_law.getD 20 (.ret (.c .non))), (b_law.getD 21 (.ret (.c .non))), (b_law.getD 22 (.ret (.c .non)))] := by kernel_rfl
  rw [e, e2]
  with_reducible exact s_cons (m_law_0 G) (s_cons (m_law_1 G) (s_cons (m_law_2 G) (s_cons (m_law_3 G) (s_cons (m_law_4 G) (s_cons (m_law_5 G) (s_cons (m_law_6 G) (s_cons (m_law_7 G) (s_cons (m_law_8 G) (s_cons (m_law_9 G) (s_cons (m_law_10 G) (s_cons (m_law_11 G) (s_cons (m_law_12 G) (s_cons (m_law_13 G) (s_cons (m_law_14 G) (s_cons (m_law_15 G) (s_cons (m_law_16 G) (s_cons (m_law_17 G) (s_cons (m_law_18 G) (s_cons (m_law_19 G) (s_cons (m_law_20 G) (s_cons (m_law_21 G) (s_cons (m_law_22 G) (s_nil)))))))))))))))))))))))
end L2.K01
set_option maxRecDepth 100000
set_option maxHeartbeats 4000000
namespace L2.B
open PySem PySem.Spec PyProof.Rows
/-! ### heaps -/
def Tups (H H' : Hp) : Prop := ∀ b xs, H b = some (.tup xs) → H' b = some (.tup xs)
theorem tupsOf {H H' : Hp} (h : Same H H') : Tups H H' := fun b xs e => h b _ e
theorem sameNew {H : Hp} {p : Addr} {o : HO} (h : H p = none) : Same H (upd H p o) := fun b u e => by rw [upd_ne (ne_of_none e h)]; exact e
/-- all but the object at c is as it was -/
def But (c : Addr) (H H' : Hp) : Prop := ∀ b o, H b = some o → b ≠ c → H' b = some o
theorem But.upd {H : Hp} {c : Addr} {o : HO} : But c H (upd H c o) := fun b u e n => by rw [upd_ne n]; exact e
theorem But.trans {c : Addr} {H H1 H2 : Hp} (a : But c H H1) (b : But c H1 H2) : But c H H2 := fun d o e n => b d o (a d o e n) n
theorem sameBut {c : Addr} {H H1 H2 : Hp} (a : Same H H1) (b : But c H1 H2) : But c H H2 := fun d o e n => b d o (a d o e) n
theorem sameBut' {c : Addr} {H H1 H2 : Hp} (a : Same H H1) (hc : H c = none) (b : But c H1 H2) : Same H H2 := fun d o e => b d o (a d o e) (ne_of_none e hc)
theorem But.tups {c : Addr} {H H' : Hp} {xs : List V} (h : But c H H') (hc : H c = some (.lst xs)) : Tups H H' := fun b ys e => h b _ e (fun z => by rw [z, hc] at e; cases e)
theorem iF {c : Bool} {A B : Prop} (q : B) (h : c = false := by first | rfl | decide) : if c = true then A else B := by
  rw [h]; exact iteF q
theorem iT {c : Bool} {A B : Prop} (q : A) (h : c = true := by first | rfl | decide) : if c = true then A else B := by
  rw [h]; exact iteT q
/-! ### parts -/
inductive Pt where | keep (n : Int) | put (s : Str) | cut (s : Str)
  deriving DecidableEq
def Pt.word : Pt → Str | .keep _ => "keep" | .put _ => "put" | .cut _ => "cut"
def Pt.val : Pt → V | .keep n => .int n | .put s => .str s | .cut s => .str s
def PtV (H : Hp) (v : V) (p : Pt) : Prop := ∃ a, v = .ref a ∧ H a = some (.tup [.str p.word, p.val])
abbrev PtsV (H : Hp) : List V → List Pt → Prop := Paired (PtV H)
theorem PtV.mono {H H' : Hp} {v : V} {p : Pt} (t : Tups H H') (h : PtV H v p) : PtV H' v p := by
  obtain ⟨a, e, h⟩ := h
  exact ⟨a, e, t _ _ h⟩
theorem PtsV.mono {H H' : Hp} (t : Tups H H') : ∀ {vs : List V} {ps : List Pt}, PtsV H vs ps → PtsV H' vs ps
  | _, _, .nil => .nil
  | _, _, .cons h r => .cons (h.mono t) (PtsV.mono t r)
theorem PtsV.get {H : Hp} : ∀ {vs : List V} {ps : List Pt} {i : Nat} {v : V}, PtsV H vs ps → vs[i]? = some v → ∃ p, ps[i]? = some p ∧ PtV H v p
  | _, _, i, v, .nil, e => by simp at e
  | _, _, 0, v, .cons h r, e => by simp at e; subst e; exact ⟨_, rfl, h⟩
  | _, _, i + 1, v, .cons h r, e => by
    obtain ⟨p, a, b⟩ := PtsV.get (i := i) r (by simpa using e)
    exact ⟨p, by simpa using a, b⟩
theorem PtsV.snoc {H : Hp} {vs : List V} {ps : List Pt} {v : V} {p : Pt} (h : PtsV H vs ps) (q : PtV H v p) : PtsV H (vs ++ [v]) (ps ++ [p]) := Paired.snoc h q
theorem PtsV.dropLast {H : Hp} : ∀ {vs : List V} {ps : List Pt}, PtsV H vs ps → PtsV H vs.dropLast ps.dropLast
  | _, _, .nil => .nil
  | _, _, .cons h .nil => .nil
  | _, _, .cons h (.cons h2 r) => .cons h (PtsV.dropLast (.cons h2 r))
/-! ### is_whole, may_follow, part_size -/
def mayFollow (w a : Str) : Bool := w != a && !(a == "cut" && w == "put")
def spFollow : Sp := fun vs H Q E => ∃ w a, vs = [.str w, .str a] ∧ Q (.bl (mayFollow w a)) H
theorem rd_follow {K : PySem.W.Frag} (vs : List V) (H : Hp) (Q : VK) (E : XK) (h : spFollow vs H Q E) : rdSs (rcx K [] [] (E := E)) b_may_follow { nx := fun _ H' => Q .non H', rt := Q } (start N_may_follow vs) H := by
  obtain ⟨w, a, rfl, q⟩ := h
  refine ⟨_, rfl, _, rfl, _, rfl, ?_⟩
  unfold mayFollow at q
  refine ite2 (fun h => ?_) (fun h => ?_)
  · rw [Bool.true_xor, dec_str] at h
    have e : (w != a) = true := h
    rw [e] at q
    refine ⟨_, rfl, _, rfl, ?_⟩
    refine ite2 (fun h2 => ?_) (fun h2 => ?_)
    · rw [Bool.false_xor, dec_str] at h2
      rw [h2] at q
      refine ⟨_, rfl, ?_⟩
      show Q (.bl (!(false ^^ decide (V.str w = V.str "put")))) H
      rw [Bool.false_xor, dec_str]
      exact q
    · rw [Bool.false_xor, dec_str] at h2
      have e2 : (a == "cut") = false := by simpa using h2
      rw [e2] at q
      exact q
  · rw [Bool.true_xor, dec_str] at h
    have e : (w != a) = false := by simpa using h
    rw [e] at q
    exact q
def psize : Pt → Int | .keep n => n | .put s => s.length | .cut s => s.length
def okLen : Pt → Prop | .keep _ => True | .put s => s.length ≤ 1000000 | .cut s => s.length ≤ 1000000
theorem le_line {n : Nat} (h : n ≤ 1000000) : n ≤ sizeLine := Nat.le_trans h (by decide)
theorem lt_line {n : Nat} (h : n ≤ 1000000) : n < sizeLine := Nat.lt_of_le_of_lt h (by decide)
def spSize : Sp := fun vs H Q E => ∃ v p, vs = [v] ∧ PtV H v p ∧ okLen p ∧ Q (.int (psize p)) H
theorem rd_size {K : PySem.W.Frag} (vs : List V) (H : Hp) (Q : VK) (E : XK) (h : spSize vs H Q E) : rdSs (rcx K [] [] (E := E)) b_part_size { nx := fun _ H' => Q .non H', rt := Q } (start N_part_size vs) H := by
  obtain ⟨v, p, rfl, ⟨a, rfl, ha⟩, ho, q⟩ := h
  refine ⟨_, rfl, .inr (.inl ⟨_, _, _, _, rfl, rfl, SqT.of ha, rfl, _, rfl, ?_⟩)⟩
  rw [Bool.false_xor, dec_str]
  cases p with
  | keep n => exact iteT ⟨_, rfl, .inr (.inl ⟨_, _, _, _, rfl, rfl, SqT.of ha, rfl, q⟩)⟩
  | put s => exact iteF ⟨_, rfl, .inr (.inl ⟨_, _, _, _, rfl, rfl, SqT.of ha, rfl, le_line ho, q⟩)⟩
  | cut s => exact iteF ⟨_, rfl, .inr (.inl ⟨_, _, _, _, rfl, rfl, SqT.of ha, rfl, le_line ho, q⟩)⟩
/-! ### _law_cell_at, _law_mixed -/
def cell (ns : List Int) (k : Nat) : Int := ns.getD k 0
def spCell (K : PySem.W.Frag) : Sp := fun vs H Q E => ∃ (a : Addr) (ns : List Int) (k : Int), vs = [.ref a, .int k] ∧ SqL K H a (ns.map V.int) ∧ 0 ≤ k ∧ Q (.int (cell ns k.toNat)) H
theorem rd_cell {K : PySem.W.Frag} (vs : List V) (H : Hp) (Q : VK) (E : XK) (h : spCell K vs H Q E) : rdSs (rcx K [] [] (E := E)) b_cell_atL { nx := fun _ H' => Q .non H', rt := Q } (start N_cell_atL vs) H := by
  obtain ⟨a, ns, k, rfl, ha, hk, q⟩ := h
  refine ⟨_, rfl, _, rfl, .inl ⟨_, ha, trivial, _, rfl, ?_⟩⟩
  rw [List.length_map]
  refine ite2 (fun h => ?_) (fun h => ?_)
  · have hlt : k < (ns.length : Int) := of_decide_eq_true h
    refine ⟨_, rfl, _, rfl, .inl ⟨_, _, _, _, rfl, rfl, ha, ?_, q⟩⟩
    have e := atI_nat (xs := ns.map V.int) (j := k.toNat) (v := .int (cell ns k.toNat)) (by
      have : k.toNat < ns.length := by omega
      simp [cell, this])
    rw [show ((k.toNat : Nat) : Int) = k by omega] at e
    exact e
  · have hge : ¬ k < (ns.length : Int) := fun z => h (decide_eq_true z)
    have e : cell ns k.toNat = 0 := by
      have z : ns[k.toNat]? = none := List.getElem?_eq_none_iff.mpr (by omega)
      unfold cell
      rw [List.getD_eq_getElem?_getD, z]; rfl
    rw [e] at q
    exact q
theorem pos_mod : (0 : Int) < 1000003 := by decide
def mixed (c k : Int) : Int := let n := (c * 48271 + 7919 * k + 11) % 1000003; n * n % 1000003 * n % 1000003
def spMixed : Sp := fun vs H Q E => ∃ c k, vs = [.int c, .int k] ∧ Q (.int (mixed c k)) H
theorem rd_mixed {K : PySem.W.Frag} (vs : List V) (H : Hp) (Q : VK) (E : XK) (h : spMixed vs H Q E) : rdSs (rcx K [] [] (E := E)) b_mixedL { nx := fun _ H' => Q .non H', rt := Q } (start N_mixedL vs) H := by
  obtain ⟨c, k, rfl, q⟩ := h
  have h0 : ∀ z : Int, 0 ≤ z % 1000003 ∧ z % 1000003 < 1000003 := fun z => ⟨Int.emod_nonneg _ (by decide), Int.emod_lt_of_pos _ (by decide)⟩
  have h1 := h0 (c * 48271 + 7919 * k + 11)
  have h2 := h0 ((c * 48271 + 7919 * k + 11) % 1000003 * ((c * 48271 + 7919 * k + 11) % 1000003))
  refine ⟨_, rfl, .inr ⟨by decide, by decide⟩, _, rfl, .inl ⟨by decide, by decide⟩, pos_mod, ?_⟩
  refine ⟨_, rfl, _, rfl, .inl ⟨by omega, by omega⟩, pos_mod, _, rfl, .inl ⟨by omega, by omega⟩, pos_mod, ?_⟩
  exact q
theorem mixed_pos (c k : Int) : 0 ≤ mixed c k ∧ mixed c k < 1000003 := ⟨Int.emod_nonneg _ (by decide), Int.emod_lt_of_pos _ (by decide)⟩
end L2.B
set_option maxRecDepth 100000
set_option maxHeartbeats 4000000
namespace L2.B
open PySem PySem.Spec PyProof.Rows
def SG : Str := " !\"#$&'()*+,-./0123456789:;<=>?@ABCDEFGHIJKLMNOPQRSTUVWXYZ[\\]^_`abcdefghijklmnopqrstuvwxyz{|}~\n"
def good (x : Str) : Prop := x.length ≤ 1000000 ∧ ∀ c ∈ x.cps.toList, SG.cps.contains c = true
theorem takeWhile_all {α : Type} (p : α → Bool) : ∀ l : List α, (∀ c ∈ l, p c = true) → l.takeWhile p = l
  | [], _ => rfl
  | c :: l, h => by rw [List.takeWhile_cons, h c List.mem_cons_self, takeWhile_all p l fun d hd => h d (List.mem_cons_of_mem _ hd)]; rfl
theorem lstrip_all (x y : Str) (h : ∀ c ∈ x.cps.toList, y.cps.contains c = true) : Txt.lstripChars x y = "" := by
  have e0 : stripLo y.cps.contains true x = x.length := by
    unfold stripLo
    rw [if_pos rfl, takeWhile_all _ _ h]
    simp [Str.length]
  have e1 : stripHi y.cps.contains false x x.length = x.length := rfl
  unfold Txt.lstripChars Txt.stripBy stripSame stripped
  rw [e0, e1]
  split
  · rename_i hq
    simp only [Bool.and_eq_true, beq_iff_eq] at hq
    have : x.cps = #[] := Array.eq_empty_of_size_eq_zero hq.1
    obtain ⟨c⟩ := x
    have e : c = #[] := this
    subst e
    rfl
  · show (⟨x.cps.extract x.length x.length⟩ : Str) = _
    have : x.cps.extract x.length x.length = #[] := by simp [Str.length]
    rw [this]; rfl
theorem isi_tup {H : Hp} {a : Addr} {xs : List V} {T : Ty} {k : Bool → Prop} (h : H a = some (.tup xs)) (q : k (T == .tuple)) : isiV T (.ref a) H k := by
  show (match H a with | some (.lst _) => k (T == .list) | some (.frz _ (.lst _)) => k (T == .list) | some (.tup _) => k (T == .tuple) | some (.dK _) => k (T == .dict) | some (.dT _) => k (T == .dict) | _ => False)
  rw [h]; exact q
theorem isi_lst {H : Hp} {a : Addr} {xs : List V} {T : Ty} {k : Bool → Prop} (h : H a = some (.lst xs)) (q : k (T == .list)) : isiV T (.ref a) H k := by
  show (match H a with | some (.lst _) => k (T == .list) | some (.frz _ (.lst _)) => k (T == .list) | some (.tup _) => k (T == .tuple) | some (.dK _) => k (T == .dict) | some (.dT _) => k (T == .dict) | _ => False)
  rw [h]; exact q
/-! ### is_text, is_part -/
abbrev gS : List (Str × V) := [("SIGNS", .str SG)]
def spText : Sp := fun vs H Q E => ∃ x, vs = [.str x] ∧ good x ∧ Q (.bl true) H
theorem rd_text {K : PySem.W.Frag} (vs : List V) (H : Hp) (Q : VK) (E : XK) (h : spText vs H Q E) : rdSs (rcx K [] gS (E := E)) b_is_text { nx := fun _ H' => Q .non H', rt := Q } (start N_is_text vs) H := by
  obtain ⟨x, rfl, hx, q⟩ := h
  refine ⟨_, rfl, rfl, _, rfl, iteT ⟨_, rfl, rfl, le_line hx.1, ?_⟩⟩
  show Q (.bl (false ^^ decide (V.str (Txt.lstripChars x SG) = V.str ""))) H
  rw [lstrip_all x SG hx.2, decide_eq_true rfl]
  exact q
def okPt : Pt → Prop | .keep n => 1 ≤ n | .put s => good s ∧ s ≠ "" | .cut s => good s ∧ s ≠ ""
def spWord (K : PySem.W.Frag) : Sp := fun vs H Q E => ∃ w p xs, vs = [.str w, .ref p] ∧ SqT K H p xs ∧ xs.all flatV = true ∧ Q (.bl (inV (.str w) xs)) H
theorem rd_word {K : PySem.W.Frag} (vs : List V) (H : Hp) (Q : VK) (E : XK) (h : spWord K vs H Q E) : rdSs (rcx K [] [] (E := E)) b_is_word { nx := fun _ H' => Q .non H', rt := Q } (start N_is_word vs) H := by
  obtain ⟨w, p, xs, rfl, hp, hf, q⟩ := h
  exact ⟨_, rfl, rfl, _, rfl, iteT ⟨_, rfl, _, rfl, p, xs, rfl, (.inr hp), rfl, hf, q⟩⟩
def spPart : Sp := fun vs H Q E => ∃ v p, vs = [v] ∧ PtV H v p ∧ okPt p ∧ ∀ H', Same H H' → Q (.bl true) H'
end L2.B
set_option maxRecDepth 100000
set_option maxHeartbeats 4000000
namespace L2.B
open PySem PySem.Spec PyProof.Rows
/-! ### need_change -/
def chainOk : Str → List Pt → Bool
  | _, [] => true
  | a, p :: r => mayFollow p.word a && chainOk p.word r
def aheadAt (a : Str) (ps : List Pt) : Nat → Str
  | 0 => a
  | i + 1 => match ps[i]? with | some p => p.word | none => ""
theorem chain_at : ∀ (ps : List Pt) (a : Str) (i : Nat) (p : Pt), chainOk a ps = true → ps[i]? = some p → mayFollow p.word (aheadAt a ps i) = true
  | [], _, _, _, _, h => by simp at h
  | q :: r, a, 0, p, h, e => by
    simp only [chainOk, Bool.and_eq_true] at h
    simp at e; subst e; exact h.1
  | q :: r, a, i + 1, p, h, e => by
    simp only [chainOk, Bool.and_eq_true] at h
    have e' : r[i]? = some p := by simpa using e
    have ih := chain_at r q.word i p h.2 e'
    cases i with
    | zero => simpa [aheadAt] using ih
    | succ i => simpa [aheadAt] using ih
abbrev tNeed0 : List (Str × Sp) := [("is_part", spPart), ("may_follow", spFollow)]
def spNeed : Sp := fun vs H Q E => ∃ a xs ps, vs = [.ref a] ∧ H a = some (.lst xs) ∧ PtsV H xs ps ∧ (∀ p ∈ ps, okPt p) ∧ chainOk "" ps = true ∧ ∀ H', Same H H' → Q .non H'
theorem rd_need {K : PySem.W.Frag} {et : List (Str × Addr)} (vs : List V) (H : Hp) (Q : VK) (E : XK) (h : spNeed vs H Q E) : rdSs (rcx K tNeed0 [] (et := et) (E := E)) b_need_change { nx := fun _ H' => Q .non H', rt := Q } (start N_need_change vs) H := by
  obtain ⟨a, xs, ps, rfl, ha, hps, hok, hch, q⟩ := h
  refine ⟨_, rfl, rfl, isi_lst ha ⟨_, rfl, a, rfl, ⟨_, SqL.of ha⟩, for_list (K := K) (a := a) (xs := xs) (fun i σ H2 => ∃ v, σ = [some (.ref a), some (.str (aheadAt "" ps i)), v] ∧ Same H H2) ⟨none, rfl, Same.refl _⟩
    (fun i σ H2 _ ⟨_, _, s2⟩ => SqL.of (s2 _ _ ha)) ?_ ?_⟩⟩
  · rintro i x σ H2 hi ⟨v, rfl, s2⟩
    obtain ⟨p, hp, ptv⟩ := hps.get hi
    obtain ⟨b, rfl, hb⟩ := ptv.mono (tupsOf s2)
    refine ⟨_, rfl, _, p, rfl, ⟨b, rfl, hb⟩, hok p (List.mem_of_getElem? hp), fun H3 s3 => ?_⟩
    refine ⟨_, rfl, .inr (.inl ⟨_, _, _, _, rfl, rfl, SqT.of (s3 _ _ hb), rfl, _, rfl, p.word, _, rfl, ?_⟩)⟩
    have e := chain_at ps "" i p hch hp
    show (fun c H1 => if (!c) = true then _ else _) (mayFollow p.word (aheadAt "" ps i)) H3
    rw [e]
    refine ⟨_, rfl, .inr (.inl ⟨_, _, _, _, rfl, rfl, SqT.of (s3 _ _ hb), rfl, some (.ref b), ?_, s2.trans s3⟩)⟩
    show [some (V.ref a), some (V.str p.word), some (V.ref b)] = _
    have e2 : aheadAt "" ps (i + 1) = p.word := by simp only [aheadAt, hp]
    rw [e2]
  · rintro σ H2 ⟨v, rfl, s2⟩
    exact q H2 s2
/-! ### sizes -/
def overOf (ps : List Pt) : List Int := (ps.filter fun p => decide (p.word ≠ ("put" : Str))).map psize
def givesOf (ps : List Pt) : List Int := (ps.filter fun p => decide (p.word ≠ ("cut" : Str))).map psize
abbrev tSizes0 : List (Str × Sp) := [("need_change", spNeed), ("part_size", spSize)]
def spSizes : Sp := fun vs H Q E => ∃ a xs ps, vs = [.ref a] ∧ H a = some (.lst xs) ∧ PtsV H xs ps ∧ (∀ p ∈ ps, okPt p) ∧ chainOk "" ps = true ∧ ps.length ≤ 1000000 ∧
  ∀ t H', Same H H' → H' t = some (.tup [.int (overOf ps).sum, .int (givesOf ps).sum]) → Q (.ref t) H'
theorem ok_len {p : Pt} (h : okPt p) : okLen p := by
  cases p with
  | keep n => trivial
  | put s => exact h.1.1
  | cut s => exact h.1.1
theorem take_filter_snoc {α : Type} (p : α → Bool) (l : List α) (i : Nat) (v : α) (h : l[i]? = some v) : (l.take (i + 1)).filter p = (l.take i).filter p ++ (if p v then [v] else []) := by
  rw [List.take_add_one, h, List.filter_append]
  cases hp : p v <;> simp [hp]
theorem rd_sizes {K : PySem.W.Frag} (vs : List V) (H : Hp) (Q : VK) (E : XK) (h : spSizes vs H Q E) : rdSs (rcx K tSizes0 [] (E := E)) b_sizes { nx := fun _ H' => Q .non H', rt := Q } (start N_sizes vs) H := by
  obtain ⟨a, xs, ps, rfl, ha, hps, hok, hch, hlen, q⟩ := h
  refine ⟨_, rfl, a, xs, ps, rfl, ha, hps, hok, hch, fun H1 s1 => ?_⟩
  have hl := Paired.length hps
  -- one of both sums
  have comp : ∀ (w : Str) (H1 : Hp) (Q1 : VK) (σ : St), Same H H1 → σ[0]? = some (some (.ref a)) →
      (∀ b H2, Same H H2 → H2 b = some (.lst (((ps.filter fun p => decide (p.word ≠ w)).map psize).map V.int)) → Q1 (.ref b) H2) →
      rdE (rcx K tSizes0 [] (E := E)) (.comp none [] .list [(.v 0)] (some (.cmp .NotEq (.ix (.v 0) (.c (.int 0))) (.c (.str w)))) (.call 1 [(.v 0)])) σ H1 Q1 := by
    intro w H1 Q1 σ s1 hσ hq
    refine ⟨_, hσ, a, rfl, ⟨_, SqL.of (s1 _ _ ha)⟩, fun i m ys H2 => m = xs.length - i ∧ i ≤ xs.length ∧ Same H H2 ∧ ys = (((ps.take i).filter fun p => decide (p.word ≠ w)).map psize).map V.int, ⟨_, rfl, Nat.zero_le _, s1, rfl⟩, ?_⟩
    rintro i m ys H2 ⟨rfl, hi, s2, rfl⟩
    by_cases hlt : i < xs.length
    · refine .inr ⟨⟨xs, xs[i], SqL.of (s2 _ _ ha), by simp [hlt]⟩, ?_⟩
      rintro x H3 ⟨rfl, hx⟩
      have hx' := hx xs (SqL.of (s2 _ _ ha))
      obtain ⟨p, hp, ptv⟩ := hps.get hx'
      obtain ⟨b, rfl, hb⟩ := ptv.mono (tupsOf s2)
      refine ⟨_, rfl, .inr (.inl ⟨_, _, _, _, rfl, rfl, SqT.of hb, rfl, _, rfl, ?_⟩)⟩
      rw [Bool.true_xor, dec_str]
      have tf := take_filter_snoc (fun p => decide (p.word ≠ w)) ps i p hp
      have hc : ((ps.take i).filter fun p => decide (p.word ≠ w)).length ≤ 1000000 := Nat.le_trans (List.length_filter_le _ _) (Nat.le_trans (List.length_take_le _ _) (by omega))
      refine ite2 (fun h => ?_) (fun h => ?_)
      · have e : decide (p.word ≠ w) = true := by simpa using h
        refine ⟨_, rfl, _, p, rfl, ⟨b, rfl, hb⟩, ok_len (hok p (List.mem_of_getElem? hp)), ?_, xs.length - (i + 1), by omega, rfl, hlt, s2, ?_⟩
        · rw [List.length_map, List.length_map]; exact lt_line hc
        · rw [tf, e]; simp
      · have e : decide (p.word ≠ w) = false := by simpa using h
        refine ⟨xs.length - (i + 1), by omega, rfl, hlt, s2, ?_⟩
        rw [tf, e]; simp
    · have hie : i = xs.length := by omega
      subst hie
      refine .inl ⟨⟨xs, SqL.of (s2 _ _ ha), Nat.le_refl _⟩, fun p hp => ?_⟩
      have e : ps.take xs.length = ps := List.take_of_length_le (by omega)
      rw [e]
      exact hq p _ (s2.trans (sameNew hp)) upd_same
  refine rd_asg (rd_blt (rd_a1 (comp "put" H1 _ _ s1 rfl fun b1 H2 s2 e2 => ⟨_, SqL.of e2, ?_⟩)))
  refine rd_asg (rd_blt (rd_a1 (comp "cut" H2 _ _ s2 rfl fun b2 H3 s3 e3 => ⟨_, SqL.of e3, ?_⟩)))
  refine ⟨_, rfl, _, rfl, (by show 2 ≤ sizeLine; decide), fun t ht => ?_⟩
  exact q t _ (s3.trans (sameNew ht)) upd_same
end L2.B
set_option maxRecDepth 100000
set_option maxHeartbeats 4000000
namespace L2.B
open PySem PySem.Spec PyProof.Rows
/-! ### texts joined -/
def cat (ts : List Str) : Str := Txt.join "" ts
def sz (ts : List Str) : Nat := (ts.map Str.length).sum
theorem ofString_empty : (Str.ofString "") = ⟨#[]⟩ := rfl
theorem cat_list (ts : List Str) : (cat ts).cps.toList = (ts.map fun t => t.cps.toList).flatten := by
  have e : (Str.ofString "").cps = #[] := rfl
  cases ts with
  | nil => rfl
  | cons t r =>
    show (r.foldl (fun acc p => acc ++ (Str.ofString "").cps ++ p.cps) t.cps).toList = _
    rw [e]
    have go : ∀ (r : List Str) (acc : Array Nat), (r.foldl (fun acc p => acc ++ #[] ++ p.cps) acc).toList = acc.toList ++ (r.map fun t => t.cps.toList).flatten := by
      intro r
      induction r with
      | nil => intro acc; simp
      | cons q r ih =>
        intro acc
        show (r.foldl (fun acc p => acc ++ #[] ++ p.cps) (acc ++ #[] ++ q.cps)).toList = _
        rw [ih]; simp
    rw [go]; simp
theorem str_ext {x y : Str} (h : x.cps.toList = y.cps.toList) : x = y := by
  obtain ⟨x⟩ := x
  obtain ⟨y⟩ := y
  exact congrArg Str.mk (Array.toList_inj.mp h)
theorem app_list (x y : Str) : (x ++ y).cps.toList = x.cps.toList ++ y.cps.toList := by
  show (x.cps ++ y.cps).toList = _
  simp
theorem cat_append (a b : List Str) : cat (a ++ b) = cat a ++ cat b := str_ext (by rw [app_list, cat_list, cat_list, cat_list]; simp)
theorem cat_one (x : Str) : cat [x] = x := str_ext (by rw [cat_list]; simp)
theorem len_list (x : Str) : x.length = x.cps.toList.length := by simp [Str.length]
theorem cat_length (ts : List Str) : (cat ts).length = sz ts := by
  rw [len_list, cat_list, List.length_flatten]
  unfold sz
  rw [List.map_map]
  congr 1
theorem app_nil (x : Str) : x ++ (Str.ofString "") = x := str_ext (by rw [app_list]; simp [ofString_empty])
theorem nil_app (x : Str) : (Str.ofString "") ++ x = x := str_ext (by rw [app_list]; simp [ofString_empty])
theorem sz_append (a b : List Str) : sz (a ++ b) = sz a + sz b := by simp [sz]
theorem joinOk_of {ts : List Str} (h : sz ts ≤ 1000000) : JoinOk "" ts = true := by
  have go : ∀ (l : List Str) (n : Nat), l.foldl (· + ·.length + (Str.ofString "").length) n = n + sz l := by
    intro l
    induction l with
    | nil => intro n; rfl
    | cons t r ih =>
      intro n
      show r.foldl _ (n + t.length + 0) = _
      rw [ih]
      show n + t.length + 0 + sz r = n + (t.length + sz r)
      omega
  unfold JoinOk
  have e : ts.toArray.foldl (· + ·.length + (Str.ofString "").length) 0 = sz ts := by
    rw [List.foldl_toArray, go, Nat.zero_add]
  rw [e]
  show (!decide (sz ts > sizeLine)) = true
  rw [decide_eq_false (by have := le_line h; omega)]
  rfl
/-! ### add_texts, add_keep -/
def txt (mk : Str → Pt) (x : Str) : List Pt := if x = "" then [] else [mk x]
def addTexts (ch : List Pt) (puts cuts : List Str) : List Pt := ch ++ txt .put (cat puts) ++ txt .cut (cat cuts)
def spTexts : Sp := fun vs H Q E => ∃ c p q xs ps puts cuts, vs = [.ref c, .ref p, .ref q] ∧ H c = some (.lst xs) ∧ PtsV H xs ps ∧ H p = some (.lst (puts.map .str)) ∧ H q = some (.lst (cuts.map .str)) ∧
  sz puts ≤ 1000000 ∧ sz cuts ≤ 1000000 ∧ ps.length ≤ 900000 ∧ ∀ H' xs', But c H H' → H' c = some (.lst xs') → PtsV H' xs' (addTexts ps puts cuts) → Q .non H'
theorem rd_texts {K : PySem.W.Frag} (vs : List V) (H : Hp) (Q : VK) (E : XK) (h : spTexts vs H Q E) : rdSs (rcx K [] [] (E := E)) b_add_texts { nx := fun _ H' => Q .non H', rt := Q } (start N_add_texts vs) H := by
  obtain ⟨c, p, q, xs, ps, puts, cuts, rfl, hc, hps, hp, hq, hz1, hz2, hl, k⟩ := h
  have hlen := Paired.length hps
  refine ⟨rfl, _, rfl, puts, SqL.of hp, joinOk_of hz1, ?_⟩
  refine ⟨rfl, _, rfl, cuts, SqL.of hq, joinOk_of hz2, ?_⟩
  -- a text put behind the list, if it is not empty
  have put1 : ∀ (i : Nat) (w x : Str) (mk : Str → Pt) (H1 : Hp) (xs1 : List V) (ps1 : List Pt) (σ : St) (D : Ends), (∀ y, (mk y).word = w ∧ (mk y).val = .str y) → H1 c = some (.lst xs1) → PtsV H1 xs1 ps1 → ps1.length ≤ 950000 → σ[0]? = some (some (.ref c)) → σ[i]? = some (some (.str x)) →
      (∀ H2 xs2, But c H1 H2 → H2 c = some (.lst xs2) → PtsV H2 xs2 (ps1 ++ txt mk x) → D.nx σ H2) →
      rdS (rcx K [] [] (E := E)) (.ite (.cmp .NotEq (.v i) (.c (.str ""))) [.drop (.mth .append (.v 0) [(.tup [(.c (.str w)), (.v i)])])] []) D σ H1 := by
    intro i w x mk H1 xs1 ps1 σ D hmk hc1 hps1 hl1 h0 hi kk
    have hlen1 := Paired.length hps1
    refine ⟨_, hi, _, rfl, ?_⟩
    rw [Bool.true_xor, dec_str]
    refine ite2 (fun h => ?_) (fun h => ?_)
    · have ne : x ≠ "" := by simpa using h
      refine ⟨_, h0, .inl ⟨rfl, _, SqL.of hc1⟩, _, hi, (by show 2 ≤ sizeLine; decide), fun t ht => ?_⟩
      have hct : c ≠ t := ne_of_none hc1 ht
      refine ⟨xs1, (by rw [upd_ne hct]; exact hc1), lt_line (by omega), kk _ (xs1 ++ [.ref t]) ((sameBut (sameNew ht) But.upd)) upd_same ?_⟩
      have tt : Tups H1 (upd (upd H1 t (.tup [.str w, .str x])) c (.lst (xs1 ++ [.ref t]))) := (sameBut (sameNew ht) But.upd).tups hc1
      unfold txt
      rw [if_neg ne]
      refine PtsV.snoc (hps1.mono tt) ⟨t, rfl, ?_⟩
      rw [upd_ne hct.symm, upd_same, (hmk x).1, (hmk x).2]
    · have e : x = "" := by simpa using h
      refine kk H1 xs1 (fun b o e _ => e) hc1 ?_
      unfold txt
      rw [if_pos e, List.append_nil]
      exact hps1
  refine put1 3 "put" (cat puts) .put H xs ps _ _ (fun _ => ⟨rfl, rfl⟩) hc hps (by omega) rfl rfl fun H2 xs2 b2 hc2 hps2 => ?_
  have l2 : (ps ++ txt .put (cat puts)).length ≤ 950000 := by
    rw [List.length_append]
    have : (txt .put (cat puts)).length ≤ 1 := by unfold txt; split <;> simp
    omega
  refine put1 4 "cut" (cat cuts) .cut H2 xs2 _ _ _ (fun _ => ⟨rfl, rfl⟩) hc2 hps2 l2 rfl rfl fun H3 xs3 b3 hc3 hps3 => ?_
  exact k H3 xs3 (b2.trans b3) hc3 hps3
def addKeep (ch : List Pt) (n : Int) : List Pt := match ch.getLast? with
  | some (.keep m) => ch.dropLast ++ [.keep (n + m)]
  | _ => ch ++ [.keep n]
def spKeep : Sp := fun vs H Q E => ∃ c n xs ps, vs = [.ref c, .int n] ∧ H c = some (.lst xs) ∧ PtsV H xs ps ∧ ps.length ≤ 900000 ∧
  ∀ H' xs', But c H H' → H' c = some (.lst xs') → PtsV H' xs' (addKeep ps n) → Q .non H'
theorem PtsV.last {H : Hp} {xs : List V} {ps : List Pt} (h : PtsV H xs ps) (hn : xs.length ≠ 0) : ∃ v p, xs[xs.length - 1]? = some v ∧ atI xs (-1) = some v ∧ ps.getLast? = some p ∧ PtV H v p := by
  have hlt : xs.length - 1 < xs.length := by omega
  obtain ⟨p, hp, pv⟩ := h.get (i := xs.length - 1) (v := xs[xs.length - 1]) (by simp [hlt])
  refine ⟨xs[xs.length - 1], p, by simp [hlt], ?_, ?_, pv⟩
  · unfold atI ixN
    have : ¬ (0 : Int) ≤ -1 := by decide
    rw [if_neg this, if_pos (by omega)]
    have e : ((-1 : Int) + (xs.length : Int)).toNat = xs.length - 1 := by omega
    show xs[((-1 : Int) + (xs.length : Int)).toNat]? = _
    rw [e]; simp [hlt]
  · rw [List.getLast?_eq_getElem?, ← Paired.length h]; exact hp
theorem rd_keep {K : PySem.W.Frag} (vs : List V) (H : Hp) (Q : VK) (E : XK) (h : spKeep vs H Q E) : rdSs (rcx K [] [] (E := E)) b_add_keep { nx := fun _ H' => Q .non H', rt := Q } (start N_add_keep vs) H := by
  obtain ⟨c, n, xs, ps, rfl, hc, hps, hl, k⟩ := h
  have hlen := Paired.length hps
  -- what is appended at the end
  have fin : ∀ (m : Int) (H1 : Hp) (xs1 : List V) (ps1 : List Pt), But c H H1 → H1 c = some (.lst xs1) → PtsV H1 xs1 ps1 → ps1.length ≤ 900000 → addKeep ps n = ps1 ++ [.keep m] →
      rdSs (rcx K [] [] (E := E)) [.drop (.mth .append (.v 0) [(.tup [(.c (.str "keep")), (.v 1)])])] { nx := fun _ H' => Q .non H', rt := Q } [some (.ref c), some (.int m)] H1 := by
    intro m H1 xs1 ps1 b1 hc1 hps1 hl1 e
    have hlen1 := Paired.length hps1
    refine ⟨_, rfl, .inl ⟨rfl, _, SqL.of hc1⟩, _, rfl, (by show 2 ≤ sizeLine; decide), fun t ht => ?_⟩
    have hct : c ≠ t := ne_of_none hc1 ht
    refine ⟨xs1, (by rw [upd_ne hct]; exact hc1), lt_line (by omega), k _ (xs1 ++ [.ref t]) (b1.trans (sameBut (sameNew ht) But.upd)) upd_same ?_⟩
    rw [e]
    refine PtsV.snoc (hps1.mono ((sameBut (sameNew ht) But.upd).tups hc1)) ⟨t, rfl, ?_⟩
    rw [upd_ne hct.symm, upd_same]; rfl
  refine ⟨_, rfl, .inl ⟨_, SqL.of hc, trivial, _, rfl, ?_⟩⟩
  refine ite2 (fun h => ?_) (fun h => ?_)
  · have hn : xs.length ≠ 0 := by
      have := of_decide_eq_true h
      omega
    obtain ⟨v, p, e1, e2, e3, a, rfl, ha⟩ := hps.last hn
    refine ⟨_, rfl, .inl ⟨_, _, _, _, rfl, rfl, SqL.of hc, e2, .inr (.inl ⟨_, _, _, _, rfl, rfl, SqT.of ha, rfl, _, rfl, ?_⟩)⟩⟩
    rw [Bool.false_xor, dec_str]
    cases p with
    | keep m =>
      have ha' : upd H c (.lst xs.dropLast) a = some (.tup [.str "keep", .int m]) := by rw [upd_ne (ne_of ha hc (by intro z; cases z))]; exact ha
      refine ⟨_, rfl, _, rfl, .inl ⟨rfl, _, SqL.of hc⟩, xs, _, hc, e1, .inr (.inl ⟨_, _, _, _, rfl, rfl, SqT.of ha', rfl, ?_⟩)⟩
      · refine fin (n + m) _ xs.dropLast ps.dropLast But.upd upd_same (hps.dropLast.mono (But.upd.tups hc)) (by rw [List.length_dropLast]; omega) ?_
        unfold addKeep
        rw [e3]
    | put s => exact fin n H xs ps (fun b o e _ => e) hc hps hl (by unfold addKeep; rw [e3])
    | cut s => exact fin n H xs ps (fun b o e _ => e) hc hps hl (by unfold addKeep; rw [e3])
  · have e0 : ps = [] := by
      have : ¬ (0 : Int) < (xs.length : Int) := fun z => h (decide_eq_true z)
      exact List.length_eq_zero_iff.mp (by omega)
    exact fin n H xs ps (fun b o e _ => e) hc hps hl (by rw [e0]; rfl)
end L2.B
set_option maxRecDepth 100000
set_option maxHeartbeats 4000000
namespace L2.B
open PySem PySem.Spec PyProof.Rows
abbrev NS := List Pt × List Str × List Str
def stepN : NS → Pt → NS
  | (ch, p, c), .put s => (ch, p ++ [s], c)
  | (ch, p, c), .cut s => (ch, p, c ++ [s])
  | (ch, p, c), .keep n => if 0 < n then (addKeep (addTexts ch p c) n, [], []) else (ch, p, c)
def neatM (ps : List Pt) : List Pt := let s := ps.foldl stepN ([], [], []); addTexts s.1 s.2.1 s.2.2
def tlen : Pt → Nat | .keep _ => 0 | .put s => s.length | .cut s => s.length
def tot (ps : List Pt) : Nat := (ps.map tlen).sum
theorem tot_take (ps : List Pt) (i : Nat) : tot (ps.take i) ≤ tot ps := by
  have : tot ps = tot (ps.take i) + tot (ps.drop i) := by
    unfold tot
    rw [← List.sum_append, ← List.map_append, List.take_append_drop]
  omega
theorem tot_snoc {ps : List Pt} {i : Nat} {p : Pt} (h : ps[i]? = some p) : tot (ps.take (i + 1)) = tot (ps.take i) + tlen p := by
  rw [List.take_add_one, h]
  simp [tot]
theorem fold_snoc {α β : Type} {f : β → α → β} {b : β} {l : List α} {i : Nat} {p : α} (h : l[i]? = some p) : (l.take (i + 1)).foldl f b = f ((l.take i).foldl f b) p := by
  rw [List.take_add_one, h, List.foldl_append]
  rfl
theorem txt_len (mk : Str → Pt) (x : Str) : (txt mk x).length ≤ 1 := by unfold txt; split <;> simp
theorem addTexts_len (ch : List Pt) (p c : List Str) : (addTexts ch p c).length ≤ ch.length + 2 := by
  unfold addTexts
  have := txt_len .put (cat p)
  have := txt_len .cut (cat c)
  simp only [List.length_append]
  omega
theorem addKeep_len (ch : List Pt) (n : Int) : (addKeep ch n).length ≤ ch.length + 1 := by
  unfold addKeep
  split
  · simp only [List.length_append, List.length_dropLast, List.length_singleton]; omega
  · simp
abbrev tNeat0 : List (Str × Sp) := [("add_texts", spTexts), ("add_keep", spKeep)]
def spNeat : Sp := fun vs H Q E => ∃ a xs ps, vs = [.ref a] ∧ H a = some (.lst xs) ∧ PtsV H xs ps ∧ ps.length ≤ 100000 ∧ tot ps ≤ 100000 ∧
  ∀ b H' ys, Same H H' → H b = none → H' b = some (.lst ys) → PtsV H' ys (neatM ps) → Q (.ref b) H'
theorem rd_neat {K : PySem.W.Frag} (vs : List V) (H : Hp) (Q : VK) (E : XK) (h : spNeat vs H Q E) : rdSs (rcx K tNeat0 [] (E := E)) b_neat { nx := fun _ H' => Q .non H', rt := Q } (start N_neat vs) H := by
  obtain ⟨a, xs, ps, rfl, ha, hps, hl, ht, k⟩ := h
  have hlen := Paired.length hps
  refine ⟨Nat.zero_le _, fun c hc => ⟨Nat.zero_le _, fun p0 hp0 => ⟨Nat.zero_le _, fun q0 hq0 => ?_⟩⟩⟩
  have hcp : c ≠ p0 := fun z => by rw [← z, upd_same] at hp0; cases hp0
  have hcq : c ≠ q0 := fun z => by rw [← z, upd_ne hcp, upd_same] at hq0; cases hq0
  have hpq : p0 ≠ q0 := fun z => by rw [← z, upd_same] at hq0; cases hq0
  have s0 : Same H (upd (upd (upd H c (.lst [])) p0 (.lst [])) q0 (.lst [])) := (sameNew hc).trans ((sameNew hp0).trans (sameNew hq0))
  have fp0 : H p0 = none := (sameNew hc).free hp0
  have fq0 : H q0 = none := ((sameNew hc).trans (sameNew hp0)).free hq0
  refine ⟨_, rfl, a, rfl, ⟨_, SqL.of (s0 _ _ ha)⟩, for_list (K := K) (a := a) (xs := xs) (fun i σ H2 => ∃ p q ch puts cuts xsC w x, σ = [some (.ref a), some (.ref c), some (.ref p), some (.ref q), w, x] ∧ H p = none ∧ H q = none ∧ p ≠ c ∧ q ≠ c ∧ p ≠ q ∧ Same H H2 ∧
      H2 c = some (.lst xsC) ∧ PtsV H2 xsC ch ∧ H2 p = some (.lst (puts.map .str)) ∧ H2 q = some (.lst (cuts.map .str)) ∧ (ps.take i).foldl stepN ([], [], []) = (ch, puts, cuts) ∧ ch.length ≤ 3 * i ∧ puts.length ≤ i ∧ cuts.length ≤ i ∧ sz puts + sz cuts ≤ tot (ps.take i))
    ⟨p0, q0, [], [], [], [], none, none, rfl, fp0, fq0, hcp.symm, hcq.symm, hpq, s0, (by rw [upd_ne hcq, upd_ne hcp, upd_same]), .nil, (by rw [upd_ne hpq, upd_same]; rfl), upd_same, rfl, by simp, by simp, by simp, by simp [sz]⟩
    (fun i σ H2 _ ⟨_, _, _, _, _, _, _, _, _, _, _, _, _, _, s2, _⟩ => SqL.of (s2 _ _ ha)) ?_ ?_⟩
  · rintro i x σ H2 hi ⟨p, q, ch, puts, cuts, xsC, w, x', rfl, fp, fq, pc, qc, pq, s2, h2c, hch, h2p, h2q, ef, l1, l2, l3, l4⟩
    obtain ⟨pt, hpt, ptv⟩ := hps.get hi
    obtain ⟨b, rfl, hb⟩ := ptv.mono (tupsOf s2)
    have hi' : i < ps.length := (List.getElem?_eq_some_iff.mp hpt).1
    have ef' : (ps.take (i + 1)).foldl stepN ([], [], []) = stepN (ch, puts, cuts) pt := by rw [fold_snoc hpt, ef]
    have et := tot_snoc hpt
    have tb := tot_take ps i
    refine ⟨b, _, rfl, .inl (SqT.of hb), rfl, _, _, rfl, _, _, rfl, rfl, ?_⟩
    cases pt with
    | put s =>
      refine ⟨_, rfl, _, rfl, _, rfl, .inl ⟨rfl, _, SqL.of h2p⟩, _, rfl, _, h2p, lt_line (by rw [List.length_map]; omega), ?_⟩
      have bt : But p H2 (upd H2 p (.lst (puts.map V.str ++ [.str s]))) := But.upd
      refine ⟨p, q, ch, puts ++ [s], cuts, xsC, _, _, rfl, fp, fq, pc, qc, pq, sameBut' s2 fp bt, bt _ _ h2c pc.symm, hch.mono (bt.tups h2p), (by rw [upd_same, List.map_append]; rfl), bt _ _ h2q pq.symm, ef', by omega, by simp; omega, by omega, ?_⟩
      rw [sz_append, et]
      show sz puts + (s.length + 0) + sz cuts ≤ tot (ps.take i) + s.length
      omega
    | cut s =>
      refine ⟨_, rfl, _, rfl, _, rfl, _, rfl, _, rfl, .inl ⟨rfl, _, SqL.of h2q⟩, _, rfl, _, h2q, lt_line (by rw [List.length_map]; omega), ?_⟩
      have bt : But q H2 (upd H2 q (.lst (cuts.map V.str ++ [.str s]))) := But.upd
      refine ⟨p, q, ch, puts, cuts ++ [s], xsC, _, _, rfl, fp, fq, pc, qc, pq, sameBut' s2 fq bt, bt _ _ h2c qc.symm, hch.mono (bt.tups h2q), bt _ _ h2p pq, (by rw [upd_same, List.map_append]; rfl), ef', by omega, by omega, by simp; omega, ?_⟩
      rw [sz_append, et]
      show sz puts + (sz cuts + (s.length + 0)) ≤ tot (ps.take i) + s.length
      omega
    | keep n =>
      refine ⟨_, rfl, _, rfl, _, rfl, _, rfl, _, rfl, trivial, _, rfl, ?_⟩
      refine ite2 (fun h => ?_) (fun h => ?_)
      · have hn : 0 < n := of_decide_eq_true h
        have e2 : stepN (ch, puts, cuts) (.keep n) = (addKeep (addTexts ch puts cuts) n, [], []) := if_pos hn
        refine ⟨_, rfl, _, rfl, _, rfl, c, p, q, xsC, ch, puts, cuts, rfl, h2c, hch, h2p, h2q, by omega, by omega, by omega, fun H3 xs3 b3 h3c hch3 => ?_⟩
        have s3 : Same H H3 := sameBut' s2 hc b3
        refine ⟨Nat.zero_le _, fun p1 hp1 => ⟨Nat.zero_le _, fun q1 hq1 => ?_⟩⟩
        have hcp1 : c ≠ p1 := ne_of_none h3c hp1
        have h4c : upd H3 p1 (.lst []) c = some (.lst xs3) := by rw [upd_ne hcp1]; exact h3c
        have hcq1 : c ≠ q1 := ne_of_none h4c hq1
        have hpq1 : p1 ≠ q1 := fun z => by rw [← z, upd_same] at hq1; cases hq1
        have h5c : upd (upd H3 p1 (.lst [])) q1 (.lst []) c = some (.lst xs3) := by rw [upd_ne hcq1]; exact h4c
        have s5 : Same H3 (upd (upd H3 p1 (.lst [])) q1 (.lst [])) := (sameNew hp1).trans (sameNew hq1)
        refine ⟨_, rfl, _, rfl, c, n, xs3, _, rfl, h5c, hch3.mono (tupsOf s5), ?_, fun H6 xs6 b6 h6c hch6 => ?_⟩
        · have := addTexts_len ch puts cuts
          omega
        · refine ⟨p1, q1, _, [], [], xs6, _, _, rfl, s3.free hp1, (s3.trans (sameNew hp1)).free hq1, hcp1.symm, hcq1.symm, hpq1, sameBut' (s3.trans s5) hc b6, h6c, hch6, b6 _ _ (by rw [upd_ne hpq1, upd_same]; rfl) hcp1.symm, b6 _ _ (by rw [upd_same]; rfl) hcq1.symm, ef'.trans e2, ?_, by simp, by simp, by simp [sz]⟩
          have := addTexts_len ch puts cuts
          have := addKeep_len (addTexts ch puts cuts) n
          omega
      · have hn : ¬ 0 < n := fun z => h (decide_eq_true z)
        have e2 : stepN (ch, puts, cuts) (.keep n) = (ch, puts, cuts) := if_neg hn
        refine ⟨p, q, ch, puts, cuts, xsC, _, _, rfl, fp, fq, pc, qc, pq, s2, h2c, hch, h2p, h2q, ef'.trans e2, by omega, by omega, by omega, by omega⟩
  · rintro σ H2 ⟨p, q, ch, puts, cuts, xsC, w, x', rfl, fp, fq, pc, qc, pq, s2, h2c, hch, h2p, h2q, ef, l1, l2, l3, l4⟩
    have e : ps.take xs.length = ps := List.take_of_length_le (by omega)
    rw [e] at ef l4
    refine ⟨_, rfl, _, rfl, _, rfl, c, p, q, xsC, ch, puts, cuts, rfl, h2c, hch, h2p, h2q, by omega, by omega, by omega, fun H3 xs3 b3 h3c hch3 => ?_⟩
    refine ⟨_, rfl, k c H3 xs3 (sameBut' s2 hc b3) hc h3c ?_⟩
    unfold neatM
    rw [ef]
    exact hch3
end L2.B
set_option maxRecDepth 100000
set_option maxHeartbeats 4000000
namespace L2.B
open PySem PySem.Spec PyProof.Rows
/-! ### _law_text -/
def A1 : Str := " !\"#$&'()*+,-./0123456789:;<=>?@ABCDEFGHIJKLMNOPQRSTUVWXYZ[\\]^_`"
def A2 : Str := "abcdefghijklmnopqrstuvwxyz{|}~\n"
def A3 : Str := "ab\n"
def alOk (al : Str) : Prop := 0 < al.length ∧ al.length ≤ 1000 ∧ ∀ c ∈ al.cps.toList, SG.cps.contains c = true
theorem al_of {al : Str} (h : (decide (0 < al.length) && decide (al.length ≤ 1000) && al.cps.toList.all fun c => SG.cps.contains c) = true) : alOk al := by
  simp only [Bool.and_eq_true, decide_eq_true_eq, List.all_eq_true] at h
  exact ⟨h.1.1, h.1.2, h.2⟩
theorem al12 : alOk (A1 ++ A2) := al_of (by decide +kernel)
theorem al3 : alOk A3 := al_of (by decide +kernel)
theorem a12_len : A1.length + A2.length ≤ sizeLine := by decide +kernel
abbrev tText0 : List (Str × Sp) := [("_law_mixed", spMixed)]
def spTextL : Sp := fun vs H Q E => ∃ c n, vs = [.int c, .int n] ∧ 0 ≤ n ∧ n ≤ 1000 ∧ ∀ x H', good x → x.length = n.toNat → Same H H' → Q (.str x) H'
def oneOk (t : Str) : Prop := t.length = 1 ∧ ∀ c ∈ t.cps.toList, SG.cps.contains c = true
theorem sz_ones : ∀ (ts : List Str), (∀ t ∈ ts, oneOk t) → sz ts = ts.length
  | [], _ => rfl
  | t :: r, h => by
    show t.length + sz r = r.length + 1
    rw [(h t List.mem_cons_self).1, sz_ones r fun q hq => h q (List.mem_cons_of_mem _ hq)]
    omega
theorem good_ones {ts : List Str} (h : ∀ t ∈ ts, oneOk t) (hl : ts.length ≤ 1000) : good (cat ts) := by
  refine ⟨by rw [cat_length, sz_ones ts h]; omega, fun c hc => ?_⟩
  rw [cat_list, List.mem_flatten] at hc
  obtain ⟨l, hl, hc⟩ := hc
  obtain ⟨t, ht, rfl⟩ := List.mem_map.mp hl
  exact (h t ht).2 c hc
theorem rd_textL {K : PySem.W.Frag} (vs : List V) (H : Hp) (Q : VK) (E : XK) (h : spTextL vs H Q E) : rdSs (rcx K tText0 [] (E := E)) b_textL { nx := fun _ H' => Q .non H', rt := Q } (start N_textL vs) H := by
  obtain ⟨c, n, rfl, hn0, hn1, k⟩ := h
  have fin : ∀ (al : Str), alOk al → rdSs (rcx K tText0 [] (E := E)) [.ret (.mth .join (.c (.str "")) [(.comp none [("_law_some", 2), ("_law_cell", 0)] .rng [(.v 1)] none (.ix (.v 1) (.bin .Mod (.bin .FloorDiv (.call 0 [(.v 2), (.v 0)]) (.c (.int 7))) (.blt .len [(.v 1)]))))])]
      { nx := fun _ H' => Q .non H', rt := Q } [some (.int c), some (.int n), some (.str al)] H := by
    intro al ho
    refine ⟨rfl, _, rfl, n, rfl, by omega, by omega, fun i m ys H2 => m = n.toNat - i ∧ i ≤ n.toNat ∧ H2 = H ∧ ∃ ts : List Str, ys = ts.map V.str ∧ ts.length = i ∧ ∀ t ∈ ts, oneOk t, ⟨_, rfl, Nat.zero_le _, rfl, [], rfl, rfl, fun t ht => by cases ht⟩, ?_⟩
    rintro i m ys H2 ⟨rfl, hi, rfl, ts, rfl, hl, hts⟩
    by_cases hlt : i < n.toNat
    · refine .inr ⟨hlt, ?_⟩
      rintro x H3 ⟨rfl, rfl⟩
      refine ⟨_, rfl, _, rfl, _, rfl, _, _, rfl, ⟨by decide, by decide⟩, _, rfl, le_line (by have := ho.2.1; omega), (by show (0 : Int) < (al.length : Int); have := ho.1; omega), ?_⟩
      have hm := mixed_pos c (0 + (i : Int))
      have hj0 : 0 ≤ mixed c (0 + (i : Int)) / 7 % (al.length : Int) := Int.emod_nonneg _ (by have := ho.1; omega)
      have hj1 : mixed c (0 + (i : Int)) / 7 % (al.length : Int) < (al.length : Int) := Int.emod_lt_of_pos _ (by have := ho.1; omega)
      obtain ⟨j, ej⟩ : ∃ j, j = mixed c (0 + (i : Int)) / 7 % (al.length : Int) := ⟨_, rfl⟩
      rw [← ej] at hj0 hj1
      have hjl : j.toNat < al.cps.toList.length := by rw [← len_list]; omega
      refine .inr (.inr (.inl ⟨al, j, al.cps.toList[j.toNat], rfl, (by rw [ej]), le_line (by have := ho.2.1; omega), ?_, ?_, n.toNat - (i + 1), by omega, rfl, hlt, rfl, ts ++ [⟨#[al.cps.toList[j.toNat]]⟩], (by rw [List.map_append]; rfl), by simp [hl], ?_⟩))
      · have e := atI_nat (xs := al.cps.toList) (j := j.toNat) (v := al.cps.toList[j.toNat]) (by simp [hjl])
        rw [show ((j.toNat : Nat) : Int) = j by omega] at e
        exact e
      · rw [List.length_map]; exact lt_line (by omega)
      · intro t ht
        rcases List.mem_append.mp ht with z | z
        · exact hts t z
        · rw [List.mem_singleton.mp z]
          refine ⟨rfl, fun d hd => ?_⟩
          have : d = al.cps.toList[j.toNat] := by simpa using hd
          rw [this]
          exact ho.2.2 _ (List.getElem_mem hjl)
    · have hie : i = n.toNat := by omega
      refine .inl ⟨by show n.toNat ≤ i; omega, fun p hp => ?_⟩
      refine ⟨ts, SqL.of upd_same, joinOk_of (by rw [sz_ones ts hts]; omega), ?_⟩
      exact k (cat ts) _ (good_ones hts (by omega)) (by rw [cat_length, sz_ones ts hts, hl, hie]) (sameNew hp)
  refine ⟨_, rfl, a12_len, _, rfl, (by show (0 : Int) < 3; decide), _, rfl, ?_⟩
  refine ite2 (fun h => ?_) (fun h => ?_)
  · exact fin A3 al3
  · exact fin (A1 ++ A2) al12
/-! ### _law_raw -/
def rawOk : Pt → Prop | .keep n => 0 ≤ n | .put s => good s ∧ s.length ≤ 100000 | .cut s => good s ∧ s.length ≤ 100000
end L2.B
set_option maxRecDepth 100000
set_option maxHeartbeats 4000000
namespace L2.B
open PySem PySem.Spec PyProof.Rows
/-! ### _law_neat -/
abbrev Row := Str × Str × Int
def rowL (r : Row) : List V := [.str r.1, .str r.2.1, .int r.2.2]
def RowV (H : Hp) (v : V) (r : Row) : Prop := ∃ b, v = .ref b ∧ H b = some (.lst (rowL r))
abbrev RowsV (H : Hp) : List V → List Row → Prop := Paired (RowV H)
theorem RowsV.mono {H H' : Hp} : ∀ {vs : List V} {ps : List Row}, RowsV H vs ps → (∀ v ∈ vs, ∀ b, v = .ref b → ∀ o, H b = some o → H' b = some o) → RowsV H' vs ps
  | _, _, .nil, _ => .nil
  | _, _, .cons ⟨b, e, h⟩ r, k => .cons ⟨b, e, k _ List.mem_cons_self b e _ h⟩ (RowsV.mono r fun v hv => k v (List.mem_cons_of_mem _ hv))
theorem RowsV.get {H : Hp} : ∀ {vs : List V} {ps : List Row} {i : Nat} {v : V}, RowsV H vs ps → vs[i]? = some v → ∃ p, ps[i]? = some p ∧ RowV H v p
  | _, _, i, v, .nil, e => by simp at e
  | _, _, 0, v, .cons h r, e => by simp at e; subst e; exact ⟨_, rfl, h⟩
  | _, _, i + 1, v, .cons h r, e => by
    obtain ⟨p, a, b⟩ := RowsV.get (i := i) r (by simpa using e)
    exact ⟨p, by simpa using a, b⟩
def stepR : List Row × Row → Pt → List Row × Row
  | (pre, r), .keep n => (pre, (r.1, r.2.1, r.2.2 + n))
  | (pre, r), .put s => if s = "" then (pre, r) else if 0 < r.2.2 then (pre ++ [r], (Str.ofString "" ++ s, "", 0)) else (pre, (r.1 ++ s, r.2.1, r.2.2))
  | (pre, r), .cut s => if s = "" then (pre, r) else if 0 < r.2.2 then (pre ++ [r], ("", Str.ofString "" ++ s, 0)) else (pre, (r.1, r.2.1 ++ s, r.2.2))
def rowParts (r : Row) : List Pt := txt .put r.1 ++ txt .cut r.2.1 ++ (if r.2.2 = 0 then [] else [.keep r.2.2])
def foundR (rows : List Row) : List Pt := (rows.map rowParts).flatten
def rowsM (ps : List Pt) : List Row := let s := ps.foldl stepR ([], ("", "", 0)); s.1 ++ [s.2]
def neatR (ps : List Pt) : List Pt := foundR (rowsM ps)
/-- the state of the rows: all but the last one, and that -/
structure RowSt (H H2 : Hp) (R : Addr) (rs : List V) (b : Addr) (pre : List Row) (r : Row) : Prop where
  same : Same H H2
  lst : H2 R = some (.lst (rs ++ [.ref b]))
  fr : H R = none
  rows : RowsV H2 rs pre
  last : H2 b = some (.lst (rowL r))
  fb : H b = none
  frs : ∀ v ∈ rs, ∀ x, v = .ref x → H x = none ∧ x ≠ b ∧ x ≠ R
  ne : b ≠ R
theorem atI_last' (xs : List V) (v : V) : atI (xs ++ [v]) (-1) = some v := atI_last xs v
/-- the last row is changed -/
theorem RowSt.set {H H2 : Hp} {R b : Addr} {rs : List V} {pre : List Row} {r r' : Row} (S : RowSt H H2 R rs b pre r) : RowSt H (upd H2 b (.lst (rowL r'))) R rs b pre r' where
  same := sameBut' S.same S.fb But.upd
  lst := by rw [upd_ne S.ne.symm]; exact S.lst
  fr := S.fr
  rows := S.rows.mono fun v hv x e o h => by rw [upd_ne (S.frs v hv x e).2.1]; exact h
  last := upd_same
  fb := S.fb
  frs := S.frs
  ne := S.ne
theorem RowSt.grow {H H2 : Hp} {R b t : Addr} {rs : List V} {pre : List Row} {r r' : Row} (S : RowSt H H2 R rs b pre r) (ht : H2 t = none) :
    RowSt H (upd (upd H2 t (.lst (rowL r'))) R (.lst (rs ++ [.ref b] ++ [.ref t]))) R (rs ++ [.ref b]) t (pre ++ [r]) r' := by
  have htR : t ≠ R := fun z => by rw [z, S.lst] at ht; cases ht
  have htb : b ≠ t := ne_of_none S.last ht
  have kk : ∀ x o, H2 x = some o → x ≠ R → upd (upd H2 t (.lst (rowL r'))) R (.lst (rs ++ [.ref b] ++ [.ref t])) x = some o := fun x o e n => by rw [upd_ne n, upd_ne (ne_of_none e ht)]; exact e
  exact {
    same := fun x o e => kk x o (S.same x o e) (ne_of_none e S.fr)
    lst := upd_same
    fr := S.fr
    rows := Paired.snoc (S.rows.mono fun v hv x e o h => kk x o h (S.frs v hv x e).2.2) ⟨b, rfl, kk b _ S.last S.ne⟩
    last := by rw [upd_ne htR, upd_same]
    fb := S.same.free ht
    frs := fun v hv x e => by
      rcases List.mem_append.mp hv with z | z
      · obtain ⟨h1, h2, h3⟩ := S.frs v z x e
        refine ⟨h1, fun q => ?_, h3⟩
        -- an old row is not the new one
        obtain ⟨i, hi⟩ := List.getElem?_of_mem z
        obtain ⟨p, _, y, e', hy⟩ := S.rows.get hi
        rw [e] at e'
        cases e'
        rw [q, ht] at hy; cases hy
      · rw [List.mem_singleton.mp z] at e
        cases e
        exact ⟨S.fb, htb, S.ne⟩
    ne := htR }
abbrev Dn (Q : VK) : Ends := { nx := fun _ H' => Q .non H', rt := Q }
def spNeatR : Sp := fun vs H Q E => ∃ a xs ps, vs = [.ref a] ∧ H a = some (.lst xs) ∧ PtsV H xs ps ∧ ps.length ≤ 100000 ∧ tot ps ≤ 100000 ∧
  ∀ b H' ys, Same H H' → H b = none → H' b = some (.lst ys) → PtsV H' ys (neatR ps) → Q (.ref b) H'
/-- a text put behind the last row's own -/
theorem rd_setText {K : PySem.W.Frag} {H H2 : Hp} {R b : Addr} {rs : List V} {pre : List Row} {r r' : Row} {D : Ends} {a : Addr} {w s : Str} {x4 x5 x6 x7 x8 : Option V} (S : RowSt H H2 R rs b pre r) (i : Nat) (hi : i < 2)
    (hw : (if (w == "cut") = true then 1 else 0 : Int) = (i : Int)) (o : Str) (ho : (rowL r)[i]? = some (.str o)) (hr : (rowL r).set i (.str (o ++ s)) = rowL r') (hs : o.length + s.length ≤ sizeLine)
    (k : ∀ H3, RowSt H H3 R rs b pre r' → D.nx [some (.ref a), some (.ref R), some (.str w), some (.str s), x4, x5, x6, x7, x8] H3) :
    rdS (rcx K [] [] (E := E)) (.set (.ix (.v 1) (.neg (.c (.int 1)))) (.blt .int [(.cmp .Eq (.v 2) (.c (.str "cut")))]) (.bin .Add (.ix (.ix (.v 1) (.neg (.c (.int 1)))) (.blt .int [(.cmp .Eq (.v 2) (.c (.str "cut")))])) (.v 3))) D
      [some (.ref a), some (.ref R), some (.str w), some (.str s), x4, x5, x6, x7, x8] H2 := by
  have lb : SqL K H2 b (rowL r) := SqL.of S.last
  have ei : (if (false ^^ decide (V.str w = V.str "cut")) = true then 1 else 0 : Int) = (i : Int) := by rw [Bool.false_xor, dec_str]; exact hw
  refine ⟨_, rfl, .inl ⟨_, _, _, _, rfl, rfl, SqL.of S.lst, atI_last' _ _, _, rfl, ?_⟩⟩
  show rIx2 K (rcx K [] [] (E := E)).sd (.ref b) (.int (if (false ^^ decide (V.str w = V.str "cut")) = true then 1 else 0)) H2 _
  rw [ei]
  refine .inl ⟨b, _, _, _, rfl, rfl, lb, atI_nat ho, _, rfl, hs, _, rfl, .inl ⟨_, _, _, _, rfl, rfl, SqL.of S.lst, atI_last' _ _, _, rfl, ?_⟩⟩
  show rSetL (.ref b) (.int (if (false ^^ decide (V.str w = V.str "cut")) = true then 1 else 0)) (.str (o ++ s)) H2 _
  rw [ei]
  refine ⟨b, rowL r, (i : Int), i, rfl, rfl, S.last, ?_, ?_⟩
  · unfold ixN
    rw [if_pos (by omega), if_pos (by show (i : Int) < ((3 : Nat) : Int); omega)]
    simp
  · rw [hr]
    exact k _ S.set
end L2.B
set_option maxRecDepth 100000
set_option maxHeartbeats 4000000
namespace L2.B
open PySem PySem.Spec PyProof.Rows
theorem foundR_snoc {rows : List Row} {i : Nat} {r : Row} (h : rows[i]? = some r) : foundR (rows.take (i + 1)) = foundR (rows.take i) ++ rowParts r := by
  unfold foundR
  rw [List.take_add_one, h]
  simp
/-- one turn of the first loop, the text's case -/
theorem rd_rowText {K : PySem.W.Frag} {H H2 : Hp} {R b : Addr} {rs : List V} {pre : List Row} {r : Row} {D : Ends} {a : Addr} {w s : Str} {x4 x5 x6 x7 x8 : Option V} (S : RowSt H H2 R rs b pre r) (p : Pt) (hp : (p = .put s ∧ w = "put") ∨ (p = .cut s ∧ w = "cut"))
    (hs : s.length ≤ 100000) (h1 : r.1.length ≤ 100000) (h2 : r.2.1.length ≤ 100000) (hn : rs.length ≤ 100000)
    (k : ∀ H3 rs' b', RowSt H H3 R rs' b' (stepR (pre, r) p).1 (stepR (pre, r) p).2 → rs'.length ≤ rs.length + 1 → D.nx [some (.ref a), some (.ref R), some (.str w), some (.str s), x4, x5, x6, x7, x8] H3) :
    rdSs (rcx K [] [] (E := E)) [.ite (.cmp .NotEq (.v 3) (.c (.str ""))) [.ite (.cmp .Gt (.ix (.ix (.v 1) (.neg (.c (.int 1)))) (.c (.int 2))) (.c (.int 0))) [.drop (.mth .append (.v 1) [(.lst [(.c (.str "")), (.c (.str "")), (.c (.int 0))])])] [],
        .set (.ix (.v 1) (.neg (.c (.int 1)))) (.blt .int [(.cmp .Eq (.v 2) (.c (.str "cut")))]) (.bin .Add (.ix (.ix (.v 1) (.neg (.c (.int 1)))) (.blt .int [(.cmp .Eq (.v 2) (.c (.str "cut")))])) (.v 3))] []] D
      [some (.ref a), some (.ref R), some (.str w), some (.str s), x4, x5, x6, x7, x8] H2 := by
  refine ⟨_, rfl, _, rfl, ?_⟩
  rw [Bool.true_xor, dec_str]
  refine ite2 (fun h => ?_) (fun h => ?_)
  · have ne : s ≠ "" := by simpa using h
    refine ⟨_, rfl, .inl ⟨_, _, _, _, rfl, rfl, SqL.of S.lst, atI_last' _ _, .inl ⟨_, _, _, _, rfl, rfl, SqL.of S.last, rfl, trivial, _, rfl, ?_⟩⟩⟩
    have line : ∀ n : Nat, n ≤ 100000 → n + s.length ≤ sizeLine := fun n hn => le_line (by omega)
    have e0 : (Str.ofString "").length = 0 := rfl
    refine ite2 (fun h => ?_) (fun h => ?_)
    · have hk : 0 < r.2.2 := of_decide_eq_true h
      refine ⟨_, rfl, .inl ⟨rfl, _, SqL.of S.lst⟩, (by show 3 ≤ sizeLine; decide), fun t ht => ?_⟩
      have htR : R ≠ t := ne_of_none S.lst ht
      refine ⟨_, (by rw [upd_ne htR]; exact S.lst), lt_line (by rw [List.length_append, List.length_singleton]; omega), ?_⟩
      have S' := S.grow (r' := ((Str.ofString "", Str.ofString "", 0) : Row)) ht
      rcases hp with ⟨rfl, rfl⟩ | ⟨rfl, rfl⟩
      · have es : stepR (pre, r) (.put s) = (pre ++ [r], ((Str.ofString "" ++ s, Str.ofString "", 0) : Row)) := by show (if s = "" then _ else if 0 < r.2.2 then _ else _) = _; rw [if_neg ne, if_pos hk]
        rw [es] at k
        exact rd_setText S' 0 (by omega) rfl "" rfl rfl (line _ (by rw [e0]; omega)) fun H3 S3 => k H3 _ t S3 (by simp)
      · have es : stepR (pre, r) (.cut s) = (pre ++ [r], ((Str.ofString "", Str.ofString "" ++ s, 0) : Row)) := by show (if s = "" then _ else if 0 < r.2.2 then _ else _) = _; rw [if_neg ne, if_pos hk]
        rw [es] at k
        exact rd_setText S' 1 (by omega) rfl "" rfl rfl (line _ (by rw [e0]; omega)) fun H3 S3 => k H3 _ t S3 (by simp)
    · have hk : ¬ 0 < r.2.2 := fun z => h (decide_eq_true z)
      rcases hp with ⟨rfl, rfl⟩ | ⟨rfl, rfl⟩
      · have es : stepR (pre, r) (.put s) = (pre, (r.1 ++ s, r.2.1, r.2.2)) := by show (if s = "" then _ else if 0 < r.2.2 then _ else _) = _; rw [if_neg ne, if_neg hk]
        rw [es] at k
        exact rd_setText S 0 (by omega) rfl r.1 rfl rfl (line _ h1) fun H3 S3 => k H3 _ b S3 (by omega)
      · have es : stepR (pre, r) (.cut s) = (pre, (r.1, r.2.1 ++ s, r.2.2)) := by show (if s = "" then _ else if 0 < r.2.2 then _ else _) = _; rw [if_neg ne, if_neg hk]
        rw [es] at k
        exact rd_setText S 1 (by omega) rfl r.2.1 rfl rfl (line _ h2) fun H3 S3 => k H3 _ b S3 (by omega)
  · have e : s = "" := by simpa using h
    have es : stepR (pre, r) p = (pre, r) := by
      rcases hp with ⟨rfl, rfl⟩ | ⟨rfl, rfl⟩
      · show (if s = "" then _ else _) = _; rw [if_pos e]
      · show (if s = "" then _ else _) = _; rw [if_pos e]
    rw [es] at k
    exact k H2 rs b S (by omega)
theorem app_len (x y : Str) : (x ++ y).length = x.length + y.length := by rw [len_list, app_list, List.length_append, ← len_list, ← len_list]
theorem step_len (pre : List Row) (r : Row) (p : Pt) (n : Nat) (h1 : r.1.length ≤ n) (h2 : r.2.1.length ≤ n) : (stepR (pre, r) p).2.1.length ≤ n + tlen p ∧ (stepR (pre, r) p).2.2.1.length ≤ n + tlen p := by
  have e0 : (Str.ofString "").length = 0 := rfl
  cases p with
  | keep m => exact ⟨by show r.1.length ≤ n + 0; omega, by show r.2.1.length ≤ n + 0; omega⟩
  | put s =>
    show (if s = "" then (pre, r) else if 0 < r.2.2 then (pre ++ [r], ((Str.ofString "" ++ s, Str.ofString "", 0) : Row)) else (pre, (r.1 ++ s, r.2.1, r.2.2))).2.1.length ≤ n + s.length ∧
      (if s = "" then (pre, r) else if 0 < r.2.2 then (pre ++ [r], ((Str.ofString "" ++ s, Str.ofString "", 0) : Row)) else (pre, (r.1 ++ s, r.2.1, r.2.2))).2.2.1.length ≤ n + s.length
    split
    · exact ⟨by show r.1.length ≤ _; omega, by show r.2.1.length ≤ _; omega⟩
    · split
      · exact ⟨by show (Str.ofString "" ++ s).length ≤ _; rw [app_len, e0]; omega, by show (Str.ofString "").length ≤ _; rw [e0]; omega⟩
      · exact ⟨by show (r.1 ++ s).length ≤ _; rw [app_len]; omega, by show r.2.1.length ≤ _; omega⟩
  | cut s =>
    show (if s = "" then (pre, r) else if 0 < r.2.2 then (pre ++ [r], ((Str.ofString "", Str.ofString "" ++ s, 0) : Row)) else (pre, (r.1, r.2.1 ++ s, r.2.2))).2.1.length ≤ n + s.length ∧
      (if s = "" then (pre, r) else if 0 < r.2.2 then (pre ++ [r], ((Str.ofString "", Str.ofString "" ++ s, 0) : Row)) else (pre, (r.1, r.2.1 ++ s, r.2.2))).2.2.1.length ≤ n + s.length
    split
    · exact ⟨by show r.1.length ≤ _; omega, by show r.2.1.length ≤ _; omega⟩
    · split
      · exact ⟨by show (Str.ofString "").length ≤ _; rw [e0]; omega, by show (Str.ofString "" ++ s).length ≤ _; rw [app_len, e0]; omega⟩
      · exact ⟨by show r.1.length ≤ _; omega, by show (r.2.1 ++ s).length ≤ _; rw [app_len]; omega⟩
theorem rd_cmpC {Γ : RCx} {op : CmpOp} {x v : V} {σ : St} {H : Hp} {Q : VK} (h : rCmp Γ.K op x v H Q) : rdE Γ (.c v) σ H fun y H2 => rCmp Γ.K op x y H2 Q := h
theorem cmpNe_of {K : PySem.W.Frag} {x y : V} {H : Hp} {Q : VK} (hs : scal x y = true) (q : Q (.bl (true ^^ decide (x = y))) H) : rCmp K .NotEq x y H Q := by
  show rEqV true x y H Q
  unfold rEqV
  rw [hs]; exact q
/-- the second loop's block -/
theorem rd_pick {K : PySem.W.Frag} {H1 : Hp} {l t1 t2 t3 : Addr} {r : Row} {σ : St} {Q1 : VK} (hl : H1 l = some (.lst [.ref t1, .ref t2, .ref t3])) (h1 : H1 t1 = some (.tup [.str "put", .str r.1])) (h2 : H1 t2 = some (.tup [.str "cut", .str r.2.1])) (h3 : H1 t3 = some (.tup [.str "keep", .int r.2.2]))
    (hσ : σ[8]? = some (some (.ref l))) (k : ∀ p ys, H1 p = none → PtsV H1 ys (rowParts r) → ys.length ≤ 3 → Q1 (.ref p) (upd H1 p (.lst ys))) :
    rdE (rcx K [] [] (E := E)) (.comp none [] .list [(.v 8)] (some (.and [(.cmp .NotEq (.ix (.v 0) (.c (.int 1))) (.c (.str ""))), (.cmp .NotEq (.ix (.v 0) (.c (.int 1))) (.c (.int 0)))])) (.v 0)) σ H1 Q1 := by
  have hl' : SqL K H1 l [.ref t1, .ref t2, .ref t3] := SqL.of hl
  let ans : Nat → List Pt := fun i => match i with | 0 => [] | 1 => txt .put r.1 | 2 => txt .put r.1 ++ txt .cut r.2.1 | _ => rowParts r
  refine ⟨_, hσ, l, rfl, ⟨_, hl'⟩, fun i m ys H2 => m = 3 - i ∧ i ≤ 3 ∧ H2 = H1 ∧ PtsV H1 ys (ans i) ∧ ys.length ≤ i, ⟨_, rfl, Nat.zero_le _, rfl, .nil, Nat.le_refl _⟩, ?_⟩
  rintro i m ys H2 ⟨rfl, hi, rfl, hys, hyl⟩
  have small : ys.length < sizeLine := lt_line (by omega)
  have go : ∀ (t : Addr) (p : Pt) (j : Nat), H2 t = some (.tup [.str p.word, p.val]) → i = j → j < 3 → (ans (j + 1) = ans j ++ [p] ∧ p.val ≠ .str "" ∧ p.val ≠ .int 0 ∨ ans (j + 1) = ans j ∧ (p.val = .str "" ∨ p.val = .int 0)) →
      (∃ s, p.val = .str s) ∨ (∃ n, p.val = .int n) →
      tCond (rdC (rcx K [] [] (E := E)).calm (some (.and [(.cmp .NotEq (.ix (.v 0) (.c (.int 1))) (.c (.str ""))), (.cmp .NotEq (.ix (.v 0) (.c (.int 1))) (.c (.int 0)))]))) ([V.ref t].map some ++ fvals σ []) H2 fun b H5 =>
        if b = true then rdE (rcx K [] [] (E := E)).calm (.v 0) ([V.ref t].map some ++ fvals σ []) H5 fun y H6 => ys.length < sizeLine ∧ ∃ m', m' < 3 - i ∧ m' = 3 - (i + 1) ∧ i + 1 ≤ 3 ∧ H6 = H2 ∧ PtsV H2 (ys ++ [y]) (ans (i + 1)) ∧ (ys ++ [y]).length ≤ i + 1
        else ∃ m', m' < 3 - i ∧ m' = 3 - (i + 1) ∧ i + 1 ≤ 3 ∧ H5 = H2 ∧ PtsV H2 ys (ans (i + 1)) ∧ ys.length ≤ i + 1 := by
    intro t p j ht ej hj hc hv
    subst ej
    have sc1 : scal p.val (.str "") = true := by rcases hv with ⟨s, e⟩ | ⟨n, e⟩ <;> rw [e] <;> rfl
    have sc2 : scal p.val (.int 0) = true := by rcases hv with ⟨s, e⟩ | ⟨n, e⟩ <;> rw [e] <;> rfl
    refine ⟨_, rfl, .inr (.inl ⟨_, _, _, _, rfl, rfl, SqT.of ht, rfl, rd_cmpC (cmpNe_of sc1 ⟨_, rfl, ?_⟩)⟩)⟩
    by_cases q1 : p.val = .str ""
    · rw [decide_eq_true q1]
      rcases hc with ⟨_, z, _⟩ | ⟨e, _⟩
      · exact absurd q1 z
      · exact ⟨3 - (i + 1), by omega, rfl, by omega, rfl, by rw [e]; exact hys, by omega⟩
    · rw [decide_eq_false q1]
      refine ⟨_, rfl, .inr (.inl ⟨_, _, _, _, rfl, rfl, SqT.of ht, rfl, rd_cmpC (cmpNe_of sc2 ⟨_, rfl, ?_⟩)⟩)⟩
      by_cases q2 : p.val = .int 0
      · rw [decide_eq_true q2]
        rcases hc with ⟨_, _, z⟩ | ⟨e, _⟩
        · exact absurd q2 z
        · exact ⟨3 - (i + 1), by omega, rfl, by omega, rfl, by rw [e]; exact hys, by omega⟩
      · rw [decide_eq_false q2]
        rcases hc with ⟨e, _, _⟩ | ⟨_, z⟩
        · refine ⟨_, rfl, small, 3 - (i + 1), by omega, rfl, by omega, rfl, ?_, by simp; omega⟩
          rw [e]
          exact PtsV.snoc hys ⟨t, rfl, ht⟩
        · rcases z with z | z
          · exact absurd z q1
          · exact absurd z q2
  have tx : ∀ (mk : Str → Pt) (x : Str) (l : List Pt), (mk x).val = .str x → (l ++ txt mk x = l ++ [mk x] ∧ (mk x).val ≠ .str "" ∧ (mk x).val ≠ .int 0 ∨ l ++ txt mk x = l ∧ ((mk x).val = .str "" ∨ (mk x).val = .int 0)) := by
    intro mk x l hv
    unfold txt
    by_cases e : x = ""
    · rw [if_pos e]; exact .inr ⟨by simp, .inl (by rw [hv, e])⟩
    · rw [if_neg e]; exact .inl ⟨rfl, by rw [hv]; exact fun z => e (by injection z), by rw [hv]; exact fun z => by cases z⟩
  by_cases hlt : i < 3
  · refine .inr ⟨⟨_, [V.ref t1, V.ref t2, V.ref t3][i], hl', by simp [hlt]⟩, ?_⟩
    rintro x H3 ⟨rfl, hx⟩
    have hx' := hx _ hl'
    have : i = 0 ∨ i = 1 ∨ i = 2 := by omega
    rcases this with rfl | rfl | rfl
    · have ex : x = .ref t1 := by simpa using hx'.symm
      subst ex
      exact go t1 (.put r.1) 0 h1 rfl (by omega) (tx .put r.1 [] rfl) (.inl ⟨_, rfl⟩)
    · have ex : x = .ref t2 := by simpa using hx'.symm
      subst ex
      exact go t2 (.cut r.2.1) 1 h2 rfl (by omega) (tx .cut r.2.1 _ rfl) (.inl ⟨_, rfl⟩)
    · have ex : x = .ref t3 := by simpa using hx'.symm
      subst ex
      refine go t3 (.keep r.2.2) 2 h3 rfl (by omega) ?_ (.inr ⟨_, rfl⟩)
      by_cases e : r.2.2 = 0
      · refine .inr ⟨?_, .inr (by show V.int r.2.2 = _; rw [e])⟩
        show rowParts r = txt .put r.1 ++ txt .cut r.2.1
        unfold rowParts
        rw [if_pos e, List.append_nil]
      · refine .inl ⟨?_, ?_, ?_⟩
        · show rowParts r = txt .put r.1 ++ txt .cut r.2.1 ++ [.keep r.2.2]
          unfold rowParts
          rw [if_neg e]
        · intro z
          have z' : V.int r.2.2 = V.str "" := z
          cases z'
        · intro z
          have z' : V.int r.2.2 = V.int 0 := z
          injection z' with z'
          exact e z'
  · have hie : i = 3 := by omega
    subst hie
    refine .inl ⟨⟨_, hl', by simp⟩, fun p hp => ?_⟩
    exact k p ys hp hys hyl
end L2.B
set_option maxRecDepth 100000
set_option maxHeartbeats 4000000
namespace L2.B
open PySem PySem.Spec PyProof.Rows
theorem rd_neatR {K : PySem.W.Frag} (vs : List V) (H : Hp) (Q : VK) (E : XK) (h : spNeatR vs H Q E) : rdSs (rcx K [] [] (E := E)) b_neatL { nx := fun _ H' => Q .non H', rt := Q } (start N_neatL vs) H := by
  obtain ⟨a, xs, ps, rfl, ha, hps, hl, ht, k⟩ := h
  have hlen := Paired.length hps
  refine ⟨(by show 3 ≤ sizeLine; decide), fun b0 hb0 => ⟨(by show 1 ≤ sizeLine; decide), fun R hR => ?_⟩⟩
  have hbR : b0 ≠ R := fun z => by rw [← z, upd_same] at hR; cases hR
  have fR : H R = none := (sameNew hb0).free hR
  have S0 : RowSt H (upd (upd H b0 (.lst [.str "", .str "", .int 0])) R (.lst [.ref b0])) R [] b0 [] ((Str.ofString "", Str.ofString "", 0) : Row) :=
    { same := (sameNew hb0).trans (sameNew hR), lst := upd_same, fr := fR, rows := .nil, last := (by rw [upd_ne hbR, upd_same]; rfl), fb := hb0, frs := (fun v hv => by cases hv), ne := hbR }
  refine ⟨_, rfl, a, rfl, ⟨_, SqL.of (S0.same _ _ ha)⟩, for_list (K := K) (a := a) (xs := xs) (fun i σ H2 => ∃ u v rs b pre r, σ = [some (.ref a), some (.ref R), u, v, none, none, none, none, none] ∧ RowSt H H2 R rs b pre r ∧
      (ps.take i).foldl stepR ([], ((Str.ofString "", Str.ofString "", 0) : Row)) = (pre, r) ∧ rs.length ≤ i ∧ r.1.length ≤ tot (ps.take i) ∧ r.2.1.length ≤ tot (ps.take i))
    ⟨none, none, [], b0, [], _, rfl, S0, rfl, Nat.le_refl _, Nat.zero_le _, Nat.zero_le _⟩ (fun i σ H2 _ ⟨_, _, _, _, _, _, _, S, _⟩ => SqL.of (S.same _ _ ha)) ?_ ?_⟩
  · rintro i x σ H2 hi ⟨u, v, rs, b, pre, r, rfl, S, ef, l1, l2, l3⟩
    obtain ⟨pt, hpt, ptv⟩ := hps.get hi
    obtain ⟨t, rfl, hb⟩ := ptv.mono (tupsOf S.same)
    have hi' : i < ps.length := (List.getElem?_eq_some_iff.mp hpt).1
    have ef' : (ps.take (i + 1)).foldl stepR ([], ((Str.ofString "", Str.ofString "", 0) : Row)) = stepR (pre, r) pt := by rw [fold_snoc hpt, ef]
    have et := tot_snoc hpt
    have tb := tot_take ps i
    have tb1 := tot_take ps (i + 1)
    have sl := step_len pre r pt _ l2 l3
    refine ⟨t, _, rfl, .inl (SqT.of hb), rfl, _, _, rfl, _, _, rfl, rfl, ?_⟩
    refine ⟨_, rfl, _, rfl, ?_⟩
    cases pt with
    | keep n =>
      refine ⟨_, rfl, .inl ⟨_, _, _, _, rfl, rfl, SqL.of S.lst, atI_last' _ _, .inl ⟨_, _, _, _, rfl, rfl, SqL.of S.last, rfl, _, rfl, _, rfl, .inl ⟨_, _, _, _, rfl, rfl, SqL.of S.lst, atI_last' _ _, b, rowL r, 2, 2, rfl, rfl, S.last, rfl, ?_⟩⟩⟩⟩
      refine ⟨_, _, rs, b, pre, (r.1, r.2.1, r.2.2 + n), rfl, S.set (r' := (r.1, r.2.1, r.2.2 + n)), ef', by omega, ?_, ?_⟩
      · show r.1.length ≤ _; omega
      · show r.2.1.length ≤ _; omega
    | put s =>
      refine rd_rowText S (.put s) (.inl ⟨rfl, rfl⟩) ?_ (by omega) (by omega) (by omega) fun H3 rs' b' S' hr' => ⟨_, _, rs', b', _, _, rfl, S', ef', by omega, by omega, by omega⟩
      have : tlen (.put s) = s.length := rfl
      omega
    | cut s =>
      refine rd_rowText S (.cut s) (.inr ⟨rfl, rfl⟩) ?_ (by omega) (by omega) (by omega) fun H3 rs' b' S' hr' => ⟨_, _, rs', b', _, _, rfl, S', ef', by omega, by omega, by omega⟩
      have : tlen (.cut s) = s.length := rfl
      omega
  · rintro σ Hm ⟨u, v, rs, b, pre, r, rfl, S, ef, l1, l2, l3⟩
    have e : ps.take xs.length = ps := List.take_of_length_le (by omega)
    rw [e] at ef
    have erows : rowsM ps = pre ++ [r] := by
      show (ps.foldl stepR ([], ((Str.ofString "", Str.ofString "", 0) : Row))).1 ++ [(ps.foldl stepR ([], ((Str.ofString "", Str.ofString "", 0) : Row))).2] = _
      rw [ef]
    have hrows : RowsV Hm (rs ++ [.ref b]) (rowsM ps) := by rw [erows]; exact Paired.snoc S.rows ⟨b, rfl, S.last⟩
    have hrl := Paired.length hrows
    refine ⟨Nat.zero_le _, fun f0 hf0 => ?_⟩
    refine ⟨_, rfl, R, rfl, ⟨_, SqL.of (sameNew hf0 _ _ S.lst)⟩, for_list (K := K) (a := R) (xs := rs ++ [.ref b]) (fun i σ H2 => ∃ f ys p5 p6 p7 p8, σ = [some (.ref a), some (.ref R), u, v, some (.ref f), p5, p6, p7, p8] ∧ Same Hm H2 ∧ H f = none ∧ H2 f = some (.lst ys) ∧ PtsV H2 ys (foundR ((rowsM ps).take i)) ∧ ys.length ≤ 3 * i)
      ⟨f0, [], none, none, none, none, rfl, sameNew hf0, S.same.free hf0, upd_same, .nil, Nat.le_refl _⟩ (fun i σ H2 _ ⟨_, _, _, _, _, _, _, s2, _⟩ => SqL.of (s2 _ _ S.lst)) ?_ ?_⟩
    · rintro i x σ H2 hi ⟨f, ys, p5, p6, p7, p8, rfl, s2, ff, h2f, hys, hyl⟩
      obtain ⟨row, hrow, w, rfl, hw⟩ := hrows.get hi
      have h2w := s2 _ _ hw
      have hi' : i < (rs ++ [V.ref b]).length := (List.getElem?_eq_some_iff.mp hi).1
      have hrs : rs.length ≤ 100000 := by omega
      have hil : i ≤ 100000 := by simp only [List.length_append, List.length_singleton] at hi'; omega
      refine ⟨w, _, rfl, .inr (SqL.of h2w), rfl, _, _, rfl, _, _, rfl, _, _, rfl, rfl, ?_⟩
      refine ⟨_, rfl, (by show 2 ≤ sizeLine; decide), fun t1 ht1 => ⟨_, rfl, (by show 2 ≤ sizeLine; decide), fun t2 ht2 => ⟨_, rfl, (by show 2 ≤ sizeLine; decide), fun t3 ht3 => ⟨(by show 3 ≤ sizeLine; decide), fun l hl' => ?_⟩⟩⟩⟩
      have c1 : t1 ≠ t2 := fun z => by rw [← z, upd_same] at ht2; cases ht2
      have c13 : t1 ≠ t3 := fun z => by rw [← z, upd_ne c1, upd_same] at ht3; cases ht3
      have c23 : t2 ≠ t3 := fun z => by rw [← z, upd_same] at ht3; cases ht3
      have c1l : t1 ≠ l := fun z => by rw [← z, upd_ne c13, upd_ne c1, upd_same] at hl'; cases hl'
      have c2l : t2 ≠ l := fun z => by rw [← z, upd_ne c23, upd_same] at hl'; cases hl'
      have c3l : t3 ≠ l := fun z => by rw [← z, upd_same] at hl'; cases hl'
      have s3 := ((sameNew (o := .tup [.str "put", .str row.1]) ht1).trans (sameNew (o := .tup [.str "cut", .str row.2.1]) ht2)).trans ((sameNew (o := .tup [.str "keep", .int row.2.2]) ht3).trans (sameNew (o := .lst [.ref t1, .ref t2, .ref t3]) hl'))
      refine ⟨_, rfl, rd_pick (r := row) (l := l) (t1 := t1) (t2 := t2) (t3 := t3) upd_same (by rw [upd_ne c1l, upd_ne c13, upd_ne c1, upd_same]) (by rw [upd_ne c2l, upd_ne c23, upd_same]) (by rw [upd_ne c3l, upd_same]) rfl fun p zs hp hzs hzl => ?_⟩
      generalize hH3 : upd (upd (upd (upd H2 t1 (.tup [.str "put", .str row.1])) t2 (.tup [.str "cut", .str row.2.1])) t3 (.tup [.str "keep", .int row.2.2])) l (.lst [.ref t1, .ref t2, .ref t3]) = H3 at s3 hp hzs
      have h3f := s3 _ _ h2f
      have h4f : upd H3 p (.lst zs) f = some (.lst ys) := by rw [upd_ne (ne_of_none h3f hp)]; exact h3f
      refine .inl ⟨f, p, ys, zs, rfl, rfl, h4f, upd_same, le_line (by omega), fun q hq => ?_⟩
      have s5 : Same Hm (upd (upd H3 p (.lst zs)) q (.lst (ys ++ zs))) := s2.trans (s3.trans ((sameNew hp).trans (sameNew hq)))
      have t5 : Tups H3 (upd (upd H3 p (.lst zs)) q (.lst (ys ++ zs))) := tupsOf ((sameNew hp).trans (sameNew hq))
      refine ⟨q, ys ++ zs, _, _, _, _, rfl, s5, S.same.free ((s2.trans (s3.trans (sameNew hp))).free hq), upd_same, ?_, by rw [List.length_append]; omega⟩
      rw [foundR_snoc hrow]
      have app : ∀ {vs : List V} {as : List Pt} {ws : List V} {bs : List Pt} {G : Hp}, PtsV G vs as → PtsV G ws bs → PtsV G (vs ++ ws) (as ++ bs) := fun {vs as ws bs G} h1 h2 => by
        induction h1 with
        | nil => exact h2
        | cons a _ ih => exact .cons a ih
      exact app ((hys.mono (tupsOf s3)).mono t5) (hzs.mono t5)
    · rintro σ H2 ⟨f, ys, p5, p6, p7, p8, rfl, s2, ff, h2f, hys, hyl⟩
      have e2 : (rowsM ps).take (rs ++ [V.ref b]).length = rowsM ps := List.take_of_length_le (by omega)
      rw [e2] at hys
      exact ⟨_, rfl, k f H2 ys (S.same.trans s2) ff h2f hys⟩
end L2.B
set_option maxRecDepth 100000
set_option maxHeartbeats 4000000
namespace L2.B
open PySem PySem.Spec PyProof.Rows
theorem foundR_append (a b : List Row) : foundR (a ++ b) = foundR a ++ foundR b := by simp [foundR]
theorem foundR_one (r : Row) : foundR [r] = rowParts r := by simp [foundR]
theorem rowParts_keep {r : Row} (h : 0 < r.2.2) : rowParts r = txt .put r.1 ++ txt .cut r.2.1 ++ [.keep r.2.2] := by
  unfold rowParts
  rw [if_neg (by omega)]
theorem rowParts_nil {r : Row} (h : r.2.2 = 0) : rowParts r = txt .put r.1 ++ txt .cut r.2.1 := by
  unfold rowParts
  rw [if_pos h, List.append_nil]
def isKeep : Pt → Bool | .keep _ => true | _ => false
theorem addKeep_other {ch : List Pt} {n : Int} (h : ∀ p, ch.getLast? = some p → isKeep p = false) : addKeep ch n = ch ++ [.keep n] := by
  unfold addKeep
  split
  · rename_i m e
    have := h _ e
    cases this
  · rfl
theorem addKeep_keep (ch : List Pt) (m n : Int) : addKeep (ch ++ [.keep m]) n = ch ++ [.keep (n + m)] := by
  unfold addKeep
  rw [List.getLast?_append]
  simp
theorem txt_nil (mk : Str → Pt) : txt mk "" = [] := if_pos rfl
theorem txt_cons {mk : Str → Pt} {x : Str} (h : x ≠ "") : txt mk x = [mk x] := if_neg h
theorem last_texts {pre : List Row} {r : Row} (h : pre ≠ [] → r.1 ≠ "" ∨ r.2.1 ≠ "") : ∀ p, (foundR pre ++ txt .put r.1 ++ txt .cut r.2.1).getLast? = some p → isKeep p = false := by
  intro p hp
  by_cases h2 : r.2.1 = ""
  · rw [h2, txt_nil, List.append_nil] at hp
    by_cases h1 : r.1 = ""
    · rw [h1, txt_nil, List.append_nil] at hp
      by_cases hpre : pre = []
      · rw [hpre] at hp
        simp [foundR] at hp
      · rcases h hpre with z | z
        · exact absurd h1 z
        · exact absurd h2 z
    · rw [txt_cons h1, List.getLast?_append] at hp
      simp at hp; subst hp; rfl
  · rw [txt_cons h2, List.getLast?_append] at hp
    simp at hp; subst hp; rfl
def Rel (s : NS) (t : List Row × Row) : Prop :=
  (∀ x ∈ t.1, 0 < x.2.2) ∧ (t.1 ≠ [] → t.2.1 ≠ "" ∨ t.2.2.1 ≠ "") ∧ 0 ≤ t.2.2.2 ∧
    ((t.2.2.2 = 0 ∧ s.1 = foundR t.1 ∧ cat s.2.1 = t.2.1 ∧ cat s.2.2 = t.2.2.1) ∨ (0 < t.2.2.2 ∧ s.1 = foundR (t.1 ++ [t.2]) ∧ cat s.2.1 = "" ∧ cat s.2.2 = ""))
theorem cat_snoc (a : List Str) (s : Str) : cat (a ++ [s]) = cat a ++ s := by rw [cat_append, cat_one]
theorem rel_step {s : NS} {t : List Row × Row} {p : Pt} (R : Rel s t) (hp : rawOk p) : Rel (stepN s p) (stepR t p) := by
  obtain ⟨ch, pu, cu⟩ := s
  obtain ⟨pre, r⟩ := t
  obtain ⟨r1, r2, r3, r4⟩ := R
  simp only at r1 r2 r3 r4
  cases p with
  | keep n =>
    have hn0 : 0 ≤ n := hp
    by_cases hn : 0 < n
    · have e1 : stepN (ch, pu, cu) (.keep n) = (addKeep (addTexts ch pu cu) n, [], []) := if_pos hn
      rw [e1]
      refine ⟨r1, r2, by show 0 ≤ r.2.2 + n; omega, .inr ⟨by show 0 < r.2.2 + n; omega, ?_, rfl, rfl⟩⟩
      show addKeep (addTexts ch pu cu) n = foundR (pre ++ [(r.1, r.2.1, r.2.2 + n)])
      rw [foundR_append, foundR_one, rowParts_keep (r := (r.1, r.2.1, r.2.2 + n)) (by show 0 < r.2.2 + n; omega)]
      rcases r4 with ⟨k0, e2, e3, e4⟩ | ⟨k0, e2, e3, e4⟩
      · have ea : addTexts ch pu cu = foundR pre ++ txt .put r.1 ++ txt .cut r.2.1 := by unfold addTexts; rw [e2, e3, e4]
        rw [ea, addKeep_other (last_texts r2)]
        show _ = foundR pre ++ (txt .put r.1 ++ txt .cut r.2.1 ++ [.keep (r.2.2 + n)])
        rw [k0, Int.zero_add]; simp
      · have ea : addTexts ch pu cu = foundR pre ++ (txt .put r.1 ++ txt .cut r.2.1) ++ [.keep r.2.2] := by
          unfold addTexts
          rw [e2, e3, e4, txt_nil, txt_nil, List.append_nil, List.append_nil, foundR_append, foundR_one, rowParts_keep k0]; simp
        rw [ea, addKeep_keep]
        show _ = foundR pre ++ (txt .put r.1 ++ txt .cut r.2.1 ++ [.keep (r.2.2 + n)])
        rw [Int.add_comm n]; simp
    · have e0 : n = 0 := by omega
      have e1 : stepN (ch, pu, cu) (.keep n) = (ch, pu, cu) := if_neg hn
      have e2 : stepR (pre, r) (.keep n) = (pre, r) := by show (pre, (r.1, r.2.1, r.2.2 + n)) = _; rw [e0, Int.add_zero]
      rw [e1, e2]
      exact ⟨r1, r2, r3, r4⟩
  | put x =>
    show Rel (ch, pu ++ [x], cu) (stepR (pre, r) (.put x))
    by_cases hx : x = ""
    · have e2 : stepR (pre, r) (.put x) = (pre, r) := if_pos hx
      rw [e2]
      refine ⟨r1, r2, r3, ?_⟩
      have e : cat (pu ++ [x]) = cat pu := by rw [cat_snoc, hx]; exact app_nil _
      show _ ∨ _
      simp only [e]
      exact r4
    · by_cases hk : 0 < r.2.2
      · have e2 : stepR (pre, r) (.put x) = (pre ++ [r], ((Str.ofString "" ++ x, Str.ofString "", 0) : Row)) := by show (if x = "" then _ else if 0 < r.2.2 then _ else _) = _; rw [if_neg hx, if_pos hk]
        rw [e2]
        rcases r4 with ⟨k0, _⟩ | ⟨_, e5, e3, e4⟩
        · omega
        · refine ⟨fun y hy => ?_, fun _ => .inl (by rw [nil_app]; exact hx), Int.le_refl _, .inl ⟨rfl, e5, ?_, e4⟩⟩
          · rcases List.mem_append.mp hy with z | z
            · exact r1 y z
            · rw [List.mem_singleton.mp z]; exact hk
          · show cat (pu ++ [x]) = _
            rw [cat_snoc, e3]
      · have e2 : stepR (pre, r) (.put x) = (pre, (r.1 ++ x, r.2.1, r.2.2)) := by show (if x = "" then _ else if 0 < r.2.2 then _ else _) = _; rw [if_neg hx, if_neg hk]
        rw [e2]
        rcases r4 with ⟨k0, e5, e3, e4⟩ | ⟨k0, _⟩
        · refine ⟨r1, fun _ => .inl ?_, r3, .inl ⟨k0, e5, ?_, e4⟩⟩
          · intro z
            have := congrArg Str.length z
            rw [app_len] at this
            have l0 : (Str.ofString "").length = 0 := rfl
            rw [l0] at this
            have hx0 : x.length = 0 := by omega
            exact hx (str_ext (by rw [len_list] at hx0; rw [List.length_eq_zero_iff.mp hx0]; rfl))
          · show cat (pu ++ [x]) = _
            rw [cat_snoc, e3]
        · omega
  | cut x =>
    show Rel (ch, pu, cu ++ [x]) (stepR (pre, r) (.cut x))
    by_cases hx : x = ""
    · have e2 : stepR (pre, r) (.cut x) = (pre, r) := if_pos hx
      rw [e2]
      refine ⟨r1, r2, r3, ?_⟩
      have e : cat (cu ++ [x]) = cat cu := by rw [cat_snoc, hx]; exact app_nil _
      show _ ∨ _
      simp only [e]
      exact r4
    · by_cases hk : 0 < r.2.2
      · have e2 : stepR (pre, r) (.cut x) = (pre ++ [r], ((Str.ofString "", Str.ofString "" ++ x, 0) : Row)) := by show (if x = "" then _ else if 0 < r.2.2 then _ else _) = _; rw [if_neg hx, if_pos hk]
        rw [e2]
        rcases r4 with ⟨k0, _⟩ | ⟨_, e5, e3, e4⟩
        · omega
        · refine ⟨fun y hy => ?_, fun _ => .inr (by rw [nil_app]; exact hx), Int.le_refl _, .inl ⟨rfl, e5, e3, ?_⟩⟩
          · rcases List.mem_append.mp hy with z | z
            · exact r1 y z
            · rw [List.mem_singleton.mp z]; exact hk
          · show cat (cu ++ [x]) = _
            rw [cat_snoc, e4]
      · have e2 : stepR (pre, r) (.cut x) = (pre, (r.1, r.2.1 ++ x, r.2.2)) := by show (if x = "" then _ else if 0 < r.2.2 then _ else _) = _; rw [if_neg hx, if_neg hk]
        rw [e2]
        rcases r4 with ⟨k0, e5, e3, e4⟩ | ⟨k0, _⟩
        · refine ⟨r1, fun _ => .inr ?_, r3, .inl ⟨k0, e5, e3, ?_⟩⟩
          · intro z
            have := congrArg Str.length z
            rw [app_len] at this
            have l0 : (Str.ofString "").length = 0 := rfl
            rw [l0] at this
            have hx0 : x.length = 0 := by omega
            exact hx (str_ext (by rw [len_list] at hx0; rw [List.length_eq_zero_iff.mp hx0]; rfl))
          · show cat (cu ++ [x]) = _
            rw [cat_snoc, e4]
        · omega
theorem rel_fold : ∀ (ps : List Pt) (s : NS) (t : List Row × Row), Rel s t → (∀ p ∈ ps, rawOk p) → Rel (ps.foldl stepN s) (ps.foldl stepR t)
  | [], s, t, R, _ => R
  | p :: r, s, t, R, h => rel_fold r _ _ (rel_step R (h p List.mem_cons_self)) fun q hq => h q (List.mem_cons_of_mem _ hq)
theorem rel_all (ps : List Pt) (h : ∀ p ∈ ps, rawOk p) : Rel (ps.foldl stepN ([], [], [])) (ps.foldl stepR ([], ((Str.ofString "", Str.ofString "", 0) : Row))) :=
  rel_fold ps _ _ ⟨(fun x hx => by cases hx), fun z => absurd rfl z, Int.le_refl _, .inl ⟨rfl, rfl, rfl, rfl⟩⟩ h
theorem neat_eq (ps : List Pt) (h : ∀ p ∈ ps, rawOk p) : neatM ps = neatR ps := by
  obtain ⟨r1, r2, r3, r4⟩ := rel_all ps h
  show addTexts _ _ _ = foundR (_ ++ [_])
  generalize ps.foldl stepN ([], [], []) = s at r4 ⊢
  generalize ps.foldl stepR ([], ((Str.ofString "", Str.ofString "", 0) : Row)) = t at r1 r2 r3 r4 ⊢
  unfold addTexts
  rcases r4 with ⟨k0, e5, e3, e4⟩ | ⟨k0, e5, e3, e4⟩
  · rw [e5, e3, e4, foundR_append, foundR_one, rowParts_nil k0]; simp
  · rw [e5, e3, e4, txt_nil, txt_nil]; simp
end L2.B
set_option maxRecDepth 100000
set_option maxHeartbeats 4000000
namespace L2.B
open PySem PySem.Spec PyProof.Rows
/-! ### sums -/
/-! ### what neat gives is a change -/
def sg (x : Str) : Prop := ∀ c ∈ x.cps.toList, SG.cps.contains c = true
theorem sg_app {x y : Str} (a : sg x) (b : sg y) : sg (x ++ y) := fun c hc => by
  rw [app_list] at hc
  rcases List.mem_append.mp hc with z | z
  · exact a c z
  · exact b c z
theorem sg_nil : sg (Str.ofString "") := fun c hc => by cases hc
def rlen (r : Row) : Nat := r.1.length + r.2.1.length
structure RI (n : Nat) (t : List Row × Row) : Prop where
  pos : ∀ x ∈ t.1, 0 < x.2.2
  nn : 0 ≤ t.2.2.2
  s1 : ∀ x ∈ t.1 ++ [t.2], sg x.1 ∧ sg x.2.1
  tl : ∀ x ∈ (t.1 ++ [t.2]).tail, x.1 ≠ "" ∨ x.2.1 ≠ ""
  tot : ((t.1 ++ [t.2]).map rlen).sum = n
theorem ne_app_l {x y : Str} (h : x ≠ "") : x ++ y ≠ "" := fun z => by
  have := congrArg Str.length z
  rw [app_len] at this
  have l0 : (Str.ofString "").length = 0 := rfl
  rw [l0] at this
  have hx0 : x.length = 0 := by omega
  exact h (str_ext (by rw [len_list] at hx0; rw [List.length_eq_zero_iff.mp hx0]; rfl))
theorem tail_snoc {α : Type} (l : List α) (a : α) : (l ++ [a]).tail = if l = [] then [] else l.tail ++ [a] := by
  cases l with
  | nil => rfl
  | cons b r => simp
theorem ri_set {n m : Nat} {pre : List Row} {r r' : Row} (I : RI n (pre, r)) (h0 : 0 ≤ r'.2.2) (h1 : sg r'.1 ∧ sg r'.2.1) (h2 : (r.1 ≠ "" → r'.1 ≠ "") ∧ (r.2.1 ≠ "" → r'.2.1 ≠ "")) (h3 : rlen r' = rlen r + m) : RI (n + m) (pre, r') := by
  refine ⟨I.pos, h0, fun x hx => ?_, fun x hx => ?_, ?_⟩
  · rcases List.mem_append.mp hx with z | z
    · exact I.s1 x (List.mem_append_left _ z)
    · rw [List.mem_singleton.mp z]; exact h1
  · have t1 := I.tl
    simp only at t1 hx
    rw [tail_snoc] at hx t1
    by_cases hp : pre = []
    · rw [if_pos hp] at hx; cases hx
    · rw [if_neg hp] at hx t1
      rcases List.mem_append.mp hx with z | z
      · exact t1 x (List.mem_append_left _ z)
      · rw [List.mem_singleton.mp z]
        rcases t1 r (by simp) with q | q
        · exact .inl (h2.1 q)
        · exact .inr (h2.2 q)
  · have := I.tot
    simp only [List.map_append, List.sum_append, List.map_cons, List.map_nil, List.sum_cons, List.sum_nil] at this ⊢
    omega
theorem ri_new {n m : Nat} {pre : List Row} {r r' : Row} (I : RI n (pre, r)) (hk : 0 < r.2.2) (h0 : 0 ≤ r'.2.2) (h1 : sg r'.1 ∧ sg r'.2.1) (h2 : r'.1 ≠ "" ∨ r'.2.1 ≠ "") (h3 : rlen r' = m) : RI (n + m) (pre ++ [r], r') := by
  refine ⟨fun x hx => ?_, h0, fun x hx => ?_, fun x hx => ?_, ?_⟩
  · rcases List.mem_append.mp hx with z | z
    · exact I.pos x z
    · rw [List.mem_singleton.mp z]; exact hk
  · rcases List.mem_append.mp hx with z | z
    · exact I.s1 x z
    · rw [List.mem_singleton.mp z]; exact h1
  · have t1 := I.tl
    simp only at t1 hx
    rw [tail_snoc, if_neg (by simp)] at hx
    rcases List.mem_append.mp hx with z | z
    · exact t1 x z
    · rw [List.mem_singleton.mp z]; exact h2
  · have := I.tot
    simp only [List.map_append, List.sum_append, List.map_cons, List.map_nil, List.sum_cons, List.sum_nil] at this ⊢
    omega
theorem ri_step {n : Nat} {t : List Row × Row} {p : Pt} (I : RI n t) (hp : rawOk p) : RI (n + tlen p) (stepR t p) := by
  obtain ⟨pre, r⟩ := t
  have hs := I.s1 r (by simp)
  have hnn : 0 ≤ r.2.2 := I.nn
  have e0 : (Str.ofString "").length = 0 := rfl
  cases p with
  | keep m => exact ri_set I (by show 0 ≤ r.2.2 + m; have : 0 ≤ m := hp; omega) hs ⟨fun z => z, fun z => z⟩ rfl
  | put x =>
    have gx : sg x := hp.1.2
    by_cases hx : x = ""
    · have e2 : stepR (pre, r) (.put x) = (pre, r) := if_pos hx
      have e3 : tlen (.put x) = 0 := by show x.length = 0; rw [hx]; rfl
      rw [e2, e3]; exact I
    · by_cases hk : 0 < r.2.2
      · have e2 : stepR (pre, r) (.put x) = (pre ++ [r], ((Str.ofString "" ++ x, Str.ofString "", 0) : Row)) := by show (if x = "" then _ else if 0 < r.2.2 then _ else _) = _; rw [if_neg hx, if_pos hk]
        rw [e2]
        refine ri_new I hk (Int.le_refl _) ⟨sg_app sg_nil gx, sg_nil⟩ (.inl (by rw [nil_app]; exact hx)) ?_
        show (Str.ofString "" ++ x).length + (Str.ofString "").length = x.length
        rw [app_len, e0]; omega
      · have e2 : stepR (pre, r) (.put x) = (pre, (r.1 ++ x, r.2.1, r.2.2)) := by show (if x = "" then _ else if 0 < r.2.2 then _ else _) = _; rw [if_neg hx, if_neg hk]
        rw [e2]
        refine ri_set I hnn ⟨sg_app hs.1 gx, hs.2⟩ ⟨ne_app_l, fun z => z⟩ ?_
        show (r.1 ++ x).length + r.2.1.length = r.1.length + r.2.1.length + x.length
        rw [app_len]; omega
  | cut x =>
    have gx : sg x := hp.1.2
    by_cases hx : x = ""
    · have e2 : stepR (pre, r) (.cut x) = (pre, r) := if_pos hx
      have e3 : tlen (.cut x) = 0 := by show x.length = 0; rw [hx]; rfl
      rw [e2, e3]; exact I
    · by_cases hk : 0 < r.2.2
      · have e2 : stepR (pre, r) (.cut x) = (pre ++ [r], ((Str.ofString "", Str.ofString "" ++ x, 0) : Row)) := by show (if x = "" then _ else if 0 < r.2.2 then _ else _) = _; rw [if_neg hx, if_pos hk]
        rw [e2]
        refine ri_new I hk (Int.le_refl _) ⟨sg_nil, sg_app sg_nil gx⟩ (.inr (by rw [nil_app]; exact hx)) ?_
        show (Str.ofString "").length + (Str.ofString "" ++ x).length = x.length
        rw [app_len, e0]; omega
      · have e2 : stepR (pre, r) (.cut x) = (pre, (r.1, r.2.1 ++ x, r.2.2)) := by show (if x = "" then _ else if 0 < r.2.2 then _ else _) = _; rw [if_neg hx, if_neg hk]
        rw [e2]
        refine ri_set I hnn ⟨hs.1, sg_app hs.2 gx⟩ ⟨fun z => z, ne_app_l⟩ ?_
        show r.1.length + (r.2.1 ++ x).length = r.1.length + r.2.1.length + x.length
        rw [app_len]; omega
theorem ri_fold : ∀ (ps : List Pt) (n : Nat) (t : List Row × Row), RI n t → (∀ p ∈ ps, rawOk p) → RI (n + tot ps) (ps.foldl stepR t)
  | [], n, t, I, _ => I
  | p :: r, n, t, I, h => by
    have := ri_fold r _ _ (ri_step I (h p List.mem_cons_self)) fun q hq => h q (List.mem_cons_of_mem _ hq)
    have e : n + tlen p + tot r = n + tot (p :: r) := by show _ = n + (tlen p + tot r); omega
    rw [e] at this
    exact this
/-- parts of a row, in a chain -/
theorem chain_row {r : Row} {a : Str} {rest : List Pt} (ha : a = "" ∨ (a = "keep" ∧ (r.1 ≠ "" ∨ r.2.1 ≠ ""))) (hk : 0 < r.2.2) (h : chainOk "keep" rest = true) : chainOk a (rowParts r ++ rest) = true := by
  rw [rowParts_keep hk]
  by_cases h1 : r.1 = "" <;> by_cases h2 : r.2.1 = ""
  · rw [h1, h2, txt_nil, txt_nil]
    rcases ha with rfl | ⟨_, z | z⟩
    · exact h
    · exact absurd h1 z
    · exact absurd h2 z
  · rw [h1, txt_nil, txt_cons h2]
    rcases ha with rfl | ⟨rfl, _⟩ <;> exact h
  · rw [h2, txt_nil, txt_cons h1]
    rcases ha with rfl | ⟨rfl, _⟩ <;> exact h
  · rw [txt_cons h1, txt_cons h2]
    rcases ha with rfl | ⟨rfl, _⟩ <;> exact h
theorem chain_last {r : Row} {a : Str} (ha : a = "" ∨ (a = "keep" ∧ (r.1 ≠ "" ∨ r.2.1 ≠ ""))) (hk : 0 ≤ r.2.2) : chainOk a (rowParts r) = true := by
  by_cases h0 : 0 < r.2.2
  · have := chain_row (rest := []) ha h0 rfl
    rw [List.append_nil] at this
    exact this
  · rw [rowParts_nil (by omega)]
    by_cases h1 : r.1 = "" <;> by_cases h2 : r.2.1 = ""
    · rw [h1, h2, txt_nil, txt_nil]; rfl
    · rw [h1, txt_nil, txt_cons h2]
      rcases ha with rfl | ⟨rfl, _⟩ <;> rfl
    · rw [h2, txt_nil, txt_cons h1]
      rcases ha with rfl | ⟨rfl, _⟩ <;> rfl
    · rw [txt_cons h1, txt_cons h2]
      rcases ha with rfl | ⟨rfl, _⟩ <;> rfl
theorem chain_rows : ∀ (pre : List Row) (r : Row) (a : Str), (∀ x ∈ pre, 0 < x.2.2) → 0 ≤ r.2.2 → (a = "" ∨ (a = "keep" ∧ ∀ x, (pre ++ [r]).head? = some x → x.1 ≠ "" ∨ x.2.1 ≠ "")) → (∀ x ∈ (pre ++ [r]).tail, x.1 ≠ "" ∨ x.2.1 ≠ "") →
    chainOk a (foundR (pre ++ [r])) = true
  | [], r, a, _, hk, ha, _ => by
    rw [List.nil_append, foundR_one]
    exact chain_last (ha.imp id fun ⟨x, y⟩ => ⟨x, y r rfl⟩) hk
  | q :: pre, r, a, hp, hk, ha, ht => by
    have e : foundR (q :: pre ++ [r]) = rowParts q ++ foundR (pre ++ [r]) := by simp [foundR]
    rw [e]
    refine chain_row (ha.imp id fun ⟨x, y⟩ => ⟨x, y q rfl⟩) (hp q List.mem_cons_self) ?_
    refine chain_rows pre r "keep" (fun x hx => hp x (List.mem_cons_of_mem _ hx)) hk (.inr ⟨rfl, fun x hx => ht x ?_⟩) fun x hx => ht x (List.mem_of_mem_tail hx)
    show x ∈ pre ++ [r]
    exact List.mem_of_mem_head? hx
theorem mem_row {r : Row} {p : Pt} (hs : sg r.1 ∧ sg r.2.1) (hl : rlen r ≤ 1000000) (hk : 0 ≤ r.2.2) (h : p ∈ rowParts r) : okPt p := by
  unfold rowParts txt at h
  unfold rlen at hl
  rcases List.mem_append.mp h with h | h
  · rcases List.mem_append.mp h with h | h
    · split at h
      · cases h
      · rename_i ne
        rw [List.mem_singleton.mp h]
        exact ⟨⟨by omega, hs.1⟩, ne⟩
    · split at h
      · cases h
      · rename_i ne
        rw [List.mem_singleton.mp h]
        exact ⟨⟨by omega, hs.2⟩, ne⟩
  · split at h
    · cases h
    · rw [List.mem_singleton.mp h]
      show 1 ≤ r.2.2
      omega
theorem tot_row (r : Row) : tot (rowParts r) = rlen r := by
  have t1 : ∀ (mk : Str → Pt) (x : Str), (∀ y, tlen (mk y) = y.length) → tot (txt mk x) = x.length := by
    intro mk x h
    unfold txt
    by_cases e : x = ""
    · rw [if_pos e, e]; rfl
    · rw [if_neg e]; show tlen (mk x) + 0 = _; rw [h, Nat.add_zero]
  have ta : ∀ a b : List Pt, tot (a ++ b) = tot a + tot b := fun a b => by simp [tot]
  unfold rowParts rlen
  rw [ta, ta, t1 .put _ fun _ => rfl, t1 .cut _ fun _ => rfl]
  split
  · rfl
  · rfl
theorem tot_found : ∀ rows : List Row, tot (foundR rows) = (rows.map rlen).sum
  | [] => rfl
  | r :: rows => by
    have e : foundR (r :: rows) = rowParts r ++ foundR rows := by simp [foundR]
    have ta : ∀ a b : List Pt, tot (a ++ b) = tot a + tot b := fun a b => by simp [tot]
    rw [e, ta, tot_row, tot_found rows]; rfl
theorem le_sum {l : List Row} {x : Row} (h : x ∈ l) : rlen x ≤ (l.map rlen).sum := by
  induction l with
  | nil => cases h
  | cons a l ih =>
    rw [List.map_cons, List.sum_cons]
    rcases List.mem_cons.mp h with rfl | h
    · omega
    · have := ih h; omega
theorem neat_change (ps : List Pt) (h : ∀ p ∈ ps, rawOk p) (ht : tot ps ≤ 100000) : chainOk "" (neatR ps) = true ∧ (∀ p ∈ neatR ps, okPt p) ∧ tot (neatR ps) ≤ 100000 := by
  have I := ri_fold ps 0 ([], ((Str.ofString "", Str.ofString "", 0) : Row)) ⟨(fun x hx => by cases hx), Int.le_refl _, (fun x hx => by rw [List.mem_singleton.mp hx]; exact ⟨sg_nil, sg_nil⟩), (fun x hx => by cases hx), rfl⟩ h
  rw [Nat.zero_add] at I
  have e : neatR ps = foundR ((ps.foldl stepR ([], ((Str.ofString "", Str.ofString "", 0) : Row))).1 ++ [(ps.foldl stepR ([], ((Str.ofString "", Str.ofString "", 0) : Row))).2]) := rfl
  rw [e]
  generalize ps.foldl stepR ([], ((Str.ofString "", Str.ofString "", 0) : Row)) = t at I
  refine ⟨chain_rows t.1 t.2 "" I.pos I.nn (.inl rfl) I.tl, fun p hp => ?_, by rw [tot_found, I.tot]; exact ht⟩
  unfold foundR at hp
  rw [List.mem_flatten] at hp
  obtain ⟨l, hl, hp⟩ := hp
  obtain ⟨x, hx, rfl⟩ := List.mem_map.mp hl
  have hle := le_sum hx
  rw [I.tot] at hle
  refine mem_row (I.s1 x hx) (by omega) ?_ hp
  rcases List.mem_append.mp hx with z | z
  · have := I.pos x z; omega
  · rw [List.mem_singleton.mp z]; exact I.nn
theorem neat_len (ps : List Pt) : (neatM ps).length ≤ 3 * ps.length + 2 := by
  have go : ∀ (l : List Pt) (s : NS), (l.foldl stepN s).1.length ≤ s.1.length + 3 * l.length := by
    intro l
    induction l with
    | nil => intro s; simp
    | cons p l ih =>
      intro s
      have h1 := ih (stepN s p)
      have h2 : (stepN s p).1.length ≤ s.1.length + 3 := by
        obtain ⟨ch, pu, cu⟩ := s
        cases p with
        | keep n =>
          by_cases hn : 0 < n
          · have e1 : stepN (ch, pu, cu) (.keep n) = (addKeep (addTexts ch pu cu) n, [], []) := if_pos hn
            rw [e1]
            have := addTexts_len ch pu cu
            have := addKeep_len (addTexts ch pu cu) n
            show (addKeep (addTexts ch pu cu) n).length ≤ ch.length + 3
            omega
          · have e1 : stepN (ch, pu, cu) (.keep n) = (ch, pu, cu) := if_neg hn
            rw [e1]
            show ch.length ≤ ch.length + 3
            omega
        | put x => show ch.length ≤ ch.length + 3; omega
        | cut x => show ch.length ≤ ch.length + 3; omega
      rw [List.foldl_cons, List.length_cons]
      omega
  have h1 := go ps ([], [], [])
  have h2 := addTexts_len (ps.foldl stepN ([], [], [])).1 (ps.foldl stepN ([], [], [])).2.1 (ps.foldl stepN ([], [], [])).2.2
  show (addTexts _ _ _).length ≤ _
  simp only [List.length_nil] at h1
  omega
end L2.B
set_option maxRecDepth 100000
set_option maxHeartbeats 4000000
namespace L2.B
open PySem PySem.Spec PyProof.Rows
/-! ### lists of parts compared -/
def valD : Pt → PyData | .keep n => .int n | .put s => .str s | .cut s => .str s
def toD (p : Pt) : PyData := .tuple [.str p.word, valD p]
def sOk : Pt → Prop | .keep _ => True | .put s => sg s | .cut s => sg s
theorem sg_ok {x : Str} (h : sg x) : PyData.strOk x = true := by
  have small : ∀ c, SG.cps.contains c = true → c < 0x110000 := by
    have all : SG.cps.toList.all (fun c => decide (c < 0x110000)) = true := by decide +kernel
    intro c hc
    have hm : c ∈ SG.cps.toList := by simpa using hc
    exact of_decide_eq_true (List.all_eq_true.mp all c hm)
  unfold PyData.strOk
  rw [Array.all_eq_true']
  intro c hc
  exact decide_eq_true (small c (h c (by simpa using hc)))
theorem toD_ok {p : Pt} (h : sOk p) : (toD p).canLay0 = true ∧ (toD p).depth = 1 := by
  cases p with
  | keep n => exact ⟨(by show (PyData.strOk (Str.ofString "keep") && (true && true)) = true; decide +kernel), rfl⟩
  | put s =>
    refine ⟨?_, rfl⟩
    show (PyData.strOk (Str.ofString "put") && (PyData.strOk s && true)) = true
    rw [sg_ok h]; decide +kernel
  | cut s =>
    refine ⟨?_, rfl⟩
    show (PyData.strOk (Str.ofString "cut") && (PyData.strOk s && true)) = true
    rw [sg_ok h]; decide +kernel
theorem listD_ok : ∀ (ps : List Pt), (∀ p ∈ ps, sOk p) → PyData.canLayAll0 (ps.map toD) = true ∧ PyData.depthAll (ps.map toD) ≤ 1
  | [], _ => ⟨rfl, Nat.zero_le _⟩
  | p :: r, h => by
    obtain ⟨a, b⟩ := toD_ok (h p List.mem_cons_self)
    obtain ⟨c, d⟩ := listD_ok r fun q hq => h q (List.mem_cons_of_mem _ hq)
    refine ⟨?_, ?_⟩
    · show ((toD p).canLay0 && PyData.canLayAll0 (r.map toD)) = true
      rw [a, c]; rfl
    · show max (toD p).depth (PyData.depthAll (r.map toD)) ≤ 1
      rw [b]; omega
theorem shaped_ok {ps : List Pt} (h : ∀ p ∈ ps, sOk p) : SeqAt.shaped (.list (ps.map toD)) = true := by
  obtain ⟨c, d⟩ := listD_ok ps h
  unfold SeqAt.shaped
  have e : (PyData.list (ps.map toD)).canLay0 = true := c
  have e2 : (PyData.list (ps.map toD)).depth ≤ 64 := by show PyData.depthAll (ps.map toD) + 1 ≤ 64; omega
  rw [e, decide_eq_true e2]; rfl
theorem isD {H : Hp} : ∀ {vs : List V} {ps : List Pt}, PtsV H vs ps → IsL H (ps.map toD) vs
  | _, _, .nil => rfl
  | _, _, .cons (a := v) (b := p) ⟨a, e, h⟩ r => by
    refine ⟨v, _, rfl, ?_, isD r⟩
    refine ⟨a, _, e, h, .str p.word, [p.val], rfl, rfl, p.val, [], rfl, ?_, rfl⟩
    cases p <;> rfl
theorem ok_s {p : Pt} (h : okPt p) : sOk p := by
  cases p with
  | keep n => trivial
  | put s => exact h.1.2
  | cut s => exact h.1.2
end L2.B
set_option maxRecDepth 100000
set_option maxHeartbeats 4000000
namespace L2.B
open PySem PySem.Spec PyProof.Rows
/-! ### the other words -/
def Pt.swp : Pt → Pt | .keep n => .keep n | .put s => .cut s | .cut s => .put s
def swps (ps : List Pt) : List Pt := ps.map Pt.swp
theorem swps_raw {ps : List Pt} (h : ∀ p ∈ ps, rawOk p) : ∀ p ∈ swps ps, rawOk p := by
  intro p hp
  obtain ⟨q, hq, rfl⟩ := List.mem_map.mp hp
  have := h q hq
  cases q <;> exact this
theorem tot_swps (ps : List Pt) : tot (swps ps) = tot ps := by
  unfold tot swps
  rw [List.map_map]
  congr 1
  refine List.map_congr_left fun p _ => ?_
  cases p <;> rfl
/-! ### the rows of what rows give -/
theorem rowsM_ri (ps : List Pt) (h : ∀ p ∈ ps, rawOk p) : RI (tot ps) (ps.foldl stepR ([], ((Str.ofString "", Str.ofString "", 0) : Row))) := by
  have I := ri_fold ps 0 ([], ((Str.ofString "", Str.ofString "", 0) : Row)) ⟨(fun x hx => by cases hx), Int.le_refl _, (fun x hx => by rw [List.mem_singleton.mp hx]; exact ⟨sg_nil, sg_nil⟩), (fun x hx => by cases hx), rfl⟩ h
  rwa [Nat.zero_add] at I
theorem ok_raw {p : Pt} (h : okPt p) (ht : tlen p ≤ 100000) : rawOk p := by
  cases p with
  | keep n => exact Int.le_trans (by decide) (show (1 : Int) ≤ n from h)
  | put s => exact ⟨h.1, ht⟩
  | cut s => exact ⟨h.1, ht⟩
theorem tlen_le {ps : List Pt} {p : Pt} (h : p ∈ ps) : tlen p ≤ tot ps := by
  induction ps with
  | nil => cases h
  | cons q ps ih =>
    have e : tot (q :: ps) = tlen q + tot ps := by simp [tot]
    rw [e]
    rcases List.mem_cons.mp h with rfl | h
    · omega
    · have := ih h; omega
theorem raws {ps : List Pt} (h : ∀ p ∈ ps, okPt p) (ht : tot ps ≤ 100000) : ∀ p ∈ ps, rawOk p := fun p hp => ok_raw (h p hp) (Nat.le_trans (tlen_le hp) ht)
/-! ### a change done: what is kept, put, cut -/
inductive Run : List Nat → List Pt → List Nat → Prop
  | nil : Run [] [] []
  | keep {a l r : List Nat} {n : Int} {ps : List Pt} : n = a.length → Run l ps r → Run (a ++ l) (.keep n :: ps) (a ++ r)
  | put {s : Str} {l r : List Nat} {ps : List Pt} : Run l ps r → Run l (.put s :: ps) (s.cps.toList ++ r)
  | cut {s : Str} {l r : List Nat} {ps : List Pt} : Run l ps r → Run (s.cps.toList ++ l) (.cut s :: ps) r
theorem Run.swp {l r : List Nat} {ps : List Pt} (h : Run l ps r) : Run r (swps ps) l := by
  induction h with
  | nil => exact .nil
  | keep e _ ih => exact .keep e ih
  | put _ ih => exact .cut ih
  | cut _ ih => exact .put ih
theorem Run.app {l l' r r' : List Nat} {ps qs : List Pt} (h : Run l ps r) (h' : Run l' qs r') : Run (l ++ l') (ps ++ qs) (r ++ r') := by
  induction h with
  | nil => exact h'
  | keep e _ ih => rw [List.append_assoc, List.append_assoc]; exact .keep e ih
  | put _ ih => rw [List.append_assoc]; exact .put ih
  | cut _ ih => rw [List.append_assoc]; exact .cut ih
def RunRow (r : Row) (l q : List Nat) : Prop := ∃ k : List Nat, r.2.2 = k.length ∧ l = r.2.1.cps.toList ++ k ∧ q = r.1.cps.toList ++ k
inductive RunRows : List Row → List Nat → List Nat → Prop
  | nil : RunRows [] [] []
  | snoc {rs : List Row} {r : Row} {l q l' q' : List Nat} : RunRows rs l q → RunRow r l' q' → RunRows (rs ++ [r]) (l ++ l') (q ++ q')
theorem run_txt_put {s : Str} : Run [] (txt .put s) s.cps.toList := by
  by_cases h : s = ""
  · rw [h, txt_nil]; exact .nil
  · rw [txt_cons h]
    have := Run.put (s := s) Run.nil
    rwa [List.append_nil] at this
theorem run_txt_cut {s : Str} : Run s.cps.toList (txt .cut s) [] := by
  have := (run_txt_put (s := s)).swp
  have e : swps (txt .put s) = txt .cut s := by
    unfold txt; split <;> rfl
  rwa [e] at this
theorem RunRow.run {r : Row} {l q : List Nat} (h : RunRow r l q) : Run l (rowParts r) q := by
  obtain ⟨k, hk, rfl, rfl⟩ := h
  have h3 : Run k (if r.2.2 = 0 then [] else [.keep r.2.2]) k := by
    split
    · rename_i h
      have : k = [] := List.length_eq_zero_iff.mp (by omega)
      rw [this]; exact .nil
    · have := Run.keep (a := k) hk Run.nil
      rwa [List.append_nil] at this
  have := ((run_txt_put (s := r.1)).app (run_txt_cut (s := r.2.1))).app h3
  simpa [rowParts] using this
theorem RunRows.run {rs : List Row} {l q : List Nat} (h : RunRows rs l q) : Run l (foundR rs) q := by
  induction h with
  | nil => exact .nil
  | snoc _ h2 ih => rw [foundR_append, foundR_one]; exact ih.app h2.run
def One : Pt → List Nat → List Nat → Prop
  | .keep n, l, q => l = q ∧ n = l.length
  | .put s, l, q => l = [] ∧ q = s.cps.toList
  | .cut s, l, q => l = s.cps.toList ∧ q = []
theorem run_one {p : Pt} {l q : List Nat} {ps : List Pt} (h : Run l (p :: ps) q) : ∃ l1 l2 q1 q2, l = l1 ++ l2 ∧ q = q1 ++ q2 ∧ Run l2 ps q2 ∧
    One p l1 q1 := by
  cases h with
  | keep e h => exact ⟨_, _, _, _, rfl, rfl, h, rfl, e⟩
  | put h => exact ⟨[], _, _, _, rfl, rfl, h, rfl, rfl⟩
  | cut h => exact ⟨_, _, [], _, rfl, rfl, h, rfl, rfl⟩
theorem row_step {pre : List Row} {r : Row} {p : Pt} {l0 q0 l1 q1 l2 q2 : List Nat} (h0 : RunRows pre l0 q0) (h1 : RunRow r l1 q1)
    (hp : One p l2 q2) :
    ∃ l0' q0' l1' q1', RunRows (stepR (pre, r) p).1 l0' q0' ∧ RunRow (stepR (pre, r) p).2 l1' q1' ∧ l0 ++ l1 ++ l2 = l0' ++ l1' ∧ q0 ++ q1 ++ q2 = q0' ++ q1' := by
  cases p with
  | keep n =>
    obtain ⟨rfl, rfl⟩ := hp
    obtain ⟨k, hk, rfl, rfl⟩ := h1
    refine ⟨l0, q0, _, _, h0, ⟨k ++ l2, ?_, rfl, rfl⟩, by simp [stepR], by simp [stepR]⟩
    show r.2.2 + (l2.length : Int) = _
    rw [hk, List.length_append]; simp
  | put s =>
    obtain ⟨rfl, rfl⟩ := hp
    by_cases hs : s = ""
    · have e : stepR (pre, r) (.put s) = (pre, r) := by simp only [stepR, if_pos hs]
      rw [e]
      refine ⟨l0, q0, l1, q1, h0, h1, by simp, ?_⟩
      rw [hs]
      show q0 ++ q1 ++ (Str.ofString "").cps.toList = _
      rw [ofString_empty]; simp
    · by_cases hk : 0 < r.2.2
      · have e : stepR (pre, r) (.put s) = (pre ++ [r], ((Str.ofString "" ++ s, "", 0) : Row)) := by simp only [stepR, if_neg hs, if_pos hk]
        rw [e]
        refine ⟨_, _, [], s.cps.toList, h0.snoc h1, ⟨[], rfl, rfl, ?_⟩, by simp, by simp⟩
        show s.cps.toList = (Str.ofString "" ++ s).cps.toList ++ []
        rw [nil_app]; simp
      · have e : stepR (pre, r) (.put s) = (pre, (r.1 ++ s, r.2.1, r.2.2)) := by simp only [stepR, if_neg hs, if_neg hk]
        rw [e]
        obtain ⟨k, hk', rfl, rfl⟩ := h1
        have : k = [] := List.length_eq_zero_iff.mp (by omega)
        subst this
        refine ⟨l0, q0, r.2.1.cps.toList, r.1.cps.toList ++ s.cps.toList, h0, ⟨[], hk', by simp, by simp [app_list]⟩, by simp, by simp⟩
  | cut s =>
    obtain ⟨rfl, rfl⟩ := hp
    by_cases hs : s = ""
    · have e : stepR (pre, r) (.cut s) = (pre, r) := by simp only [stepR, if_pos hs]
      rw [e]
      refine ⟨l0, q0, l1, q1, h0, h1, ?_, by simp⟩
      rw [hs]
      show l0 ++ l1 ++ (Str.ofString "").cps.toList = _
      rw [ofString_empty]; simp
    · by_cases hk : 0 < r.2.2
      · have e : stepR (pre, r) (.cut s) = (pre ++ [r], (("", Str.ofString "" ++ s, 0) : Row)) := by simp only [stepR, if_neg hs, if_pos hk]
        rw [e]
        refine ⟨_, _, s.cps.toList, [], h0.snoc h1, ⟨[], rfl, ?_, rfl⟩, by simp, by simp⟩
        show s.cps.toList = (Str.ofString "" ++ s).cps.toList ++ []
        rw [nil_app]; simp
      · have e : stepR (pre, r) (.cut s) = (pre, (r.1, r.2.1 ++ s, r.2.2)) := by simp only [stepR, if_neg hs, if_neg hk]
        rw [e]
        obtain ⟨k, hk', rfl, rfl⟩ := h1
        have : k = [] := List.length_eq_zero_iff.mp (by omega)
        subst this
        refine ⟨l0, q0, r.2.1.cps.toList ++ s.cps.toList, r.1.cps.toList, h0, ⟨[], hk', by simp [app_list], by simp⟩, by simp, by simp⟩
theorem row_fold : ∀ (ps : List Pt) (pre : List Row) (r : Row) (l0 q0 l1 q1 l2 q2 : List Nat), RunRows pre l0 q0 → RunRow r l1 q1 → Run l2 ps q2 →
    ∃ l0' q0' l1' q1', RunRows (ps.foldl stepR (pre, r)).1 l0' q0' ∧ RunRow (ps.foldl stepR (pre, r)).2 l1' q1' ∧ l0 ++ l1 ++ l2 = l0' ++ l1' ∧ q0 ++ q1 ++ q2 = q0' ++ q1'
  | [], pre, r, l0, q0, l1, q1, l2, q2, h0, h1, h2 => by
    cases h2
    exact ⟨l0, q0, l1, q1, h0, h1, by simp, by simp⟩
  | p :: ps, pre, r, l0, q0, l1, q1, l2, q2, h0, h1, h2 => by
    obtain ⟨a, b, c, d, rfl, rfl, h3, h4⟩ := run_one h2
    obtain ⟨l0', q0', l1', q1', g0, g1, e1, e2⟩ := row_step h0 h1 h4
    obtain ⟨l0'', q0'', l1'', q1'', f0, f1, e3, e4⟩ := row_fold ps _ _ l0' q0' l1' q1' b d g0 g1 h3
    refine ⟨l0'', q0'', l1'', q1'', f0, f1, ?_, ?_⟩
    · rw [← e3, ← e1]; simp
    · rw [← e4, ← e2]; simp
theorem run_neat {ps : List Pt} {l q : List Nat} (h : Run l ps q) : Run l (neatR ps) q := by
  obtain ⟨l0, q0, l1, q1, h0, h1, e1, e2⟩ := row_fold ps [] ("", "", 0) [] [] [] [] l q .nil ⟨[], rfl, rfl, rfl⟩ h
  have := (h0.snoc h1).run
  rw [← e1, ← e2] at this
  exact this
end L2.B
set_option maxRecDepth 100000
set_option maxHeartbeats 4000000
namespace L2.B
open PySem PySem.Spec PyProof.Rows
def spSizeL : Sp := fun vs H Q E => ∃ c, vs = [.int c] ∧ ∀ n, 0 ≤ n → n ≤ 400 → Q (.int n) H
theorem rd_sizeL {K : PySem.W.Frag} (vs : List V) (H : Hp) (Q : VK) (E : XK) (h : spSizeL vs H Q E) : rdSs (rcx K [] [] (E := E)) b_sizeL { nx := fun _ H' => Q .non H', rt := Q } (start N_sizeL vs) H := by
  obtain ⟨c, rfl, q⟩ := h
  refine ⟨_, rfl, by show (0 : Int) < 8; decide, _, rfl, ?_⟩
  refine ite2 (fun _ => ?_) (fun _ => ?_)
  · exact ⟨_, rfl, ⟨by decide, by decide⟩, by show (0 : Int) < 401; decide, q _ (Int.emod_nonneg _ (by decide)) (by have := Int.emod_lt_of_pos (c / 8) (show (0 : Int) < 401 by decide); omega)⟩
  · exact ⟨_, rfl, ⟨by decide, by decide⟩, by show (0 : Int) < 25; decide, q _ (Int.emod_nonneg _ (by decide)) (by have := Int.emod_lt_of_pos (c / 8) (show (0 : Int) < 25 by decide); omega)⟩
def WB : List (Key × V) := [(.inr "keep", .str "keep"), (.inr "cut", .str "put"), (.inr "put", .str "cut")]
abbrev tBack0 : List (Str × Sp) := [("need_change", spNeed), ("neat", spNeat)]
def spBack : Sp := fun vs H Q E => ∃ a xs ps, vs = [.ref a] ∧ H a = some (.lst xs) ∧ PtsV H xs ps ∧ (∀ p ∈ ps, okPt p) ∧ chainOk "" ps = true ∧ ps.length ≤ 100000 ∧ tot ps ≤ 100000 ∧
  ∀ b H' ys, Same H H' → H b = none → H' b = some (.lst ys) → PtsV H' ys (neatM (swps ps)) → Q (.ref b) H'
theorem rd_back {K : PySem.W.Frag} {p : Addr} (vs : List V) (H : Hp) (Q : VK) (E : XK) (h : spBack vs H Q E) : rdSs (rcx K tBack0 [("WAYS_BACK", .ref p)] [(p, WB)] (E := E)) b_back { nx := fun _ H' => Q .non H', rt := Q } (start N_back vs) H := by
  obtain ⟨a, xs, ps, rfl, ha, hps, hok, hch, hl, ht, q⟩ := h
  refine ⟨_, rfl, a, xs, ps, rfl, ha, hps, hok, hch, fun H1 s1 => ?_⟩
  have hlen := Paired.length hps
  refine ⟨_, rfl, a, rfl, ⟨_, SqL.of (s1 _ _ ha)⟩, fun i m ys H2 => m = xs.length - i ∧ i ≤ xs.length ∧ Same H H2 ∧ PtsV H2 ys (swps (ps.take i)), ⟨_, rfl, Nat.zero_le _, s1, .nil⟩, ?_⟩
  rintro i m ys H2 ⟨rfl, hi, s2, hy⟩
  by_cases hlt : i < xs.length
  · refine .inr ⟨⟨xs, xs[i], SqL.of (s2 _ _ ha), by simp [hlt]⟩, ?_⟩
    rintro x H3 ⟨rfl, hx⟩
    have hx' := hx xs (SqL.of (s2 _ _ ha))
    obtain ⟨pt, hp, ptv⟩ := hps.get hx'
    obtain ⟨b, rfl, hb⟩ := ptv.mono (tupsOf s2)
    have hyl := Paired.length hy
    have hv : valK WB (.inr pt.word) = some (.str pt.swp.word) := by
      cases pt <;> first | rfl | (show valK WB _ = _; decide +kernel)
    refine ⟨b, _, rfl, SqT.of hb, rfl, _, rfl, .inr (.inr (.inr ⟨p, WB, .inr pt.word, _, rfl, rfl, List.mem_singleton.2 rfl, hv, ?_⟩))⟩
    refine ⟨_, rfl, by show 2 ≤ sizeLine; decide, fun t ht' => ⟨?_, xs.length - (i + 1), by omega, rfl, hlt, s2.trans (sameNew ht'), ?_⟩⟩
    · have : (swps (ps.take i)).length = i := by simp [swps]; omega
      exact lt_line (by omega)
    · have e : swps (ps.take (i + 1)) = swps (ps.take i) ++ [pt.swp] := by
        rw [List.take_add_one, hp]; simp [swps]
      rw [e]
      refine (hy.mono (tupsOf (sameNew ht'))).snoc ⟨t, rfl, ?_⟩
      rw [upd_same]
      cases pt <;> rfl
  · have hie : i = xs.length := by omega
    subst hie
    refine .inl ⟨⟨xs, SqL.of (s2 _ _ ha), Nat.le_refl _⟩, fun b hb => ?_⟩
    have e : swps (ps.take xs.length) = swps ps := by rw [hlen, List.take_length]
    rw [e] at hy
    have sb := sameNew (o := .lst ys) hb
    refine ⟨b, ys, swps ps, rfl, upd_same, hy.mono (tupsOf sb), by simp [swps]; omega, by rw [tot_swps]; exact ht, fun c H3 zs s3 hc h3 hz => ?_⟩
    exact q c H3 zs (s2.trans (sb.trans s3)) ((s2.trans sb).free hc) h3 hz
end L2.B
set_option maxRecDepth 100000
set_option maxHeartbeats 4000000
namespace L2.B
open PySem PySem.Spec PyProof.Rows
/-! ### rows of signs -/
theorem cut_mid {x : Str} {a b c : List Nat} (h : x.cps.toList = a ++ (b ++ c)) (n : Int) (hn : n = b.length) : cutS x (some (a.length : Int)) (some ((a.length : Int) + n)) = ⟨b.toArray⟩ := by
  have e1 : (a.length : Int) + n = ((a.length + b.length : Nat) : Int) := by rw [hn]; simp
  unfold cutS cutL
  rw [e1, HT.sIx_nat, HT.sIx_nat, h]
  have l1 : (a ++ (b ++ c)).length = a.length + (b.length + c.length) := by simp
  rw [l1]
  have m1 : min a.length (a.length + (b.length + c.length)) = a.length := by omega
  have m2 : min (a.length + b.length) (a.length + (b.length + c.length)) = a.length + b.length := by omega
  rw [m1, m2, List.drop_left, show a.length + b.length - a.length = b.length by omega, List.take_left]
end L2.B
set_option maxRecDepth 100000
set_option maxHeartbeats 4000000
namespace L2.B
open PySem PySem.Spec PyProof.Rows
theorem item6 (j : Int) (h0 : 0 ≤ j) (h1 : j < 6) : ∃ n : Int, atI [V.int 1, V.int 2, V.int 0, V.int 3, V.int 5, V.int 40] j = some (.int n) ∧ 0 ≤ n ∧ n ≤ 40 := by
  obtain rfl | rfl | rfl | rfl | rfl | rfl : j = 0 ∨ j = 1 ∨ j = 2 ∨ j = 3 ∨ j = 4 ∨ j = 5 := by omega
  all_goals exact ⟨_, rfl, by decide, by decide⟩
theorem tot_app (a b : List Pt) : tot (a ++ b) = tot a + tot b := by simp [tot]
abbrev tParts0 : List (Str × Sp) := [("_law_mixed", spMixed), ("_law_text", spTextL)]
def spParts : Sp := fun vs H Q E => ∃ (c : Int) (x : Str) (m : Int), vs = [.int c, .str x, .int m] ∧ good x ∧ x.length ≤ 10000 ∧ 0 ≤ m ∧ m ≤ 100 ∧
  ∀ b H' ys ps q, Same H H' → H b = none → H' b = some (.lst ys) → PtsV H' ys ps → (∀ p ∈ ps, rawOk p) → ps.length ≤ 101 → tot ps ≤ 4000 → Run x.cps.toList ps q → Q (.ref b) H'
theorem rd_parts {K : PySem.W.Frag} (vs : List V) (H : Hp) (Q : VK) (E : XK) (h : spParts vs H Q E) : rdSs (rcx K tParts0 [] (E := E)) b_partsL { nx := fun _ H' => Q .non H', rt := Q } (start N_partsL vs) H := by
  obtain ⟨c, x, m, rfl, hx, hxl, hm0, hm1, k⟩ := h
  refine ⟨Nat.zero_le _, fun b hb => ?_⟩
  refine ⟨_, rfl, m, rfl, by omega, by omega, for_range (lo := 0) (n := m.toNat) (fun i σ H2 => ∃ u v w z ys ps l1 l2 q, σ = [some (.int c), some (.str x), some (.int m), some (.ref b), some (.int ((l1.length : Nat) : Int)), u, v, w, z] ∧ Same H H2 ∧ H2 b = some (.lst ys) ∧ PtsV H2 ys ps ∧ ps.length = i ∧ (∀ p ∈ ps, rawOk p) ∧
      tot ps ≤ 40 * i ∧ x.cps.toList = l1 ++ l2 ∧ Run l1 ps q)
    ⟨none, none, none, none, [], [], [], x.cps.toList, [], rfl, sameNew hb, upd_same, .nil, rfl, (fun p hp => by cases hp), Nat.le_refl _, rfl, .nil⟩ ?_ ?_⟩
  · rintro i σ H2 hi ⟨u, v, w, z, ys, ps, l1, l2, q, rfl, s2, h2b, hps, hl, hok, ht, ex, hrun⟩
    have hlen := Paired.length hps
    have hxx : x.length = l1.length + l2.length := by rw [len_list, ex]; simp
    refine ⟨_, rfl, _, rfl, c, _, rfl, ?_⟩
    generalize mixed c (50 + (0 + (i : Int))) = nm
    refine ⟨(by show 6 ≤ sizeLine; decide), fun t1 ht1 => ?_⟩
    have j0 : 0 ≤ nm / 4 % 6 := Int.emod_nonneg _ (by decide)
    have j1 : nm / 4 % 6 < 6 := Int.emod_lt_of_pos _ (by decide)
    obtain ⟨n5, e5, n50, n51⟩ := item6 (nm / 4 % 6) j0 j1
    refine ⟨_, rfl, ⟨by decide, by decide⟩, (by show (0 : Int) < 6; decide), .inl ⟨_, _, _, _, rfl, rfl, SqL.of upd_same, e5, ?_⟩⟩
    have s3 : Same H (upd H2 t1 (.lst [.int 1, .int 2, .int 0, .int 3, .int 5, .int 40])) := s2.trans (sameNew ht1)
    have h3b : upd H2 t1 (.lst [.int 1, .int 2, .int 0, .int 3, .int 5, .int 40]) b = some (.lst ys) := by rw [upd_ne (ne_of_none h2b ht1)]; exact h2b
    have hps3 := hps.mono (tupsOf (sameNew (o := .lst [.int 1, .int 2, .int 0, .int 3, .int 5, .int 40]) ht1))
    generalize upd H2 t1 (.lst [.int 1, .int 2, .int 0, .int 3, .int 5, .int 40]) = H3 at s3 h3b hps3
    refine ⟨_, rfl, _, rfl, le_line (by omega), _, rfl, trivial, ?_⟩
    obtain ⟨lf, hlf⟩ : ∃ lf, lf = (if (x.length : Int) - (l1.length : Int) < n5 then (x.length : Int) - (l1.length : Int) else n5) := ⟨_, rfl⟩
    have lf0 : 0 ≤ lf ∧ lf ≤ 40 ∧ lf ≤ (l2.length : Int) := by
      rw [hlf]; split <;> omega
    show rdSs _ _ _ [some (V.int c), some (V.str x), some (V.int m), some (V.ref b), some (V.int ((l1.length : Nat) : Int)), some (V.int (0 + (i : Int))), some (V.int nm), some (V.int n5), some (V.int (if (x.length : Int) - (l1.length : Int) < n5 then (x.length : Int) - (l1.length : Int) else n5))] H3
    rw [← hlf]
    obtain ⟨la, lb, e2, ela⟩ : ∃ la lb, l2 = la ++ lb ∧ lf = (la.length : Int) := ⟨l2.take lf.toNat, l2.drop lf.toNat, (List.take_append_drop _ _).symm, by rw [List.length_take]; omega⟩
    -- a part put behind the list
    have app : ∀ (p : Pt) (H4 : Hp), Same H H4 → H4 b = some (.lst ys) → PtsV H4 ys ps → ∀ t, H4 t = none →
        upd H4 t (.tup [.str p.word, p.val]) b = some (.lst ys) ∧ ys.length < sizeLine ∧
          Same H (upd (upd H4 t (.tup [.str p.word, p.val])) b (.lst (ys ++ [.ref t]))) ∧ PtsV (upd (upd H4 t (.tup [.str p.word, p.val])) b (.lst (ys ++ [.ref t]))) (ys ++ [.ref t]) (ps ++ [p]) := by
      intro p H4 s4 h4b hps4 t ht
      have hbt : b ≠ t := ne_of_none h4b ht
      refine ⟨(by rw [upd_ne hbt]; exact h4b), lt_line (by omega), sameBut' s4 hb (sameBut (sameNew ht) But.upd), ?_⟩
      refine PtsV.snoc (hps4.mono ((sameBut (sameNew ht) But.upd).tups h4b)) ⟨t, rfl, ?_⟩
      rw [upd_ne hbt.symm, upd_same]
    have okApp : ∀ p, rawOk p → ∀ q ∈ ps ++ [p], rawOk q := by
      intro p hp q hq
      rcases List.mem_append.mp hq with z | z
      · exact hok q z
      · rw [List.mem_singleton.mp z]; exact hp
    have sgl : ∀ c ∈ la, SG.cps.contains c = true := fun c hc => hx.2 c (by rw [ex, e2]; simp [hc])
    refine ⟨_, rfl, (by show (0 : Int) < 4; decide), _, rfl, ?_⟩
    refine ite2 (fun h => ?_) (fun h => ?_)
    · have h3 : nm % 4 = 3 := by
        have := of_decide_eq_true (show decide (V.int (nm % 4) = V.int 3) = true from by rw [← Bool.false_xor (decide _)]; exact h)
        injection this
      refine ⟨_, rfl, .inl ⟨rfl, _, SqL.of h3b⟩, _, rfl, _, rfl, nm, n5, rfl, n50, by omega, fun y H5 gy ly s5 => ⟨(by show 2 ≤ sizeLine; decide), fun t ht' => ?_⟩⟩
      obtain ⟨a1, a2, a3, a4⟩ := app (.put y) H5 (s3.trans s5) (s5 _ _ h3b) (hps3.mono (tupsOf s5)) t ht'
      refine ⟨ys, a1, a2, ?_⟩
      refine ⟨_, rfl, (by show (0 : Int) < 4; decide), trivial, _, rfl, iF ?_ (decide_eq_false (by omega))⟩
      have hr := hrun.app (Run.put (s := y) Run.nil)
      rw [List.append_nil, List.append_nil] at hr
      refine ⟨_, _, _, _, ys ++ [V.ref t], ps ++ [Pt.put y], l1, l2, _, rfl, a3, upd_same, a4, by simp [hl], okApp _ ⟨gy, by omega⟩, ?_, ex, hr⟩
      rw [tot_app]
      show tot ps + (y.length + 0) ≤ _
      omega
    · have h3 : nm % 4 ≠ 3 := fun z => h (by show (false ^^ decide (V.int (nm % 4) = V.int 3)) = true; rw [z]; rfl)
      have h4 : nm % 4 < 3 := by have := Int.emod_lt_of_pos nm (show (0 : Int) < 4 by decide); omega
      -- the end of the turn
      have fin : ∀ (p : Pt) (H5 : Hp) (ys' : List V) (q' : List Nat), Same H H5 → H5 b = some (.lst ys') → PtsV H5 ys' (ps ++ [p]) → rawOk p → tlen p ≤ 40 → Run (l1 ++ la) (ps ++ [p]) q' →
          ∃ u v w z ys ps l1' l2 q, [some (V.int c), some (V.str x), some (V.int m), some (V.ref b), some (V.int ((l1.length : Int) + lf)), some (V.int (0 + (i : Int))), some (V.int nm), some (V.int n5), some (V.int lf)] =
            [some (.int c), some (.str x), some (.int m), some (.ref b), some (.int ((l1'.length : Nat) : Int)), u, v, w, z] ∧ Same H H5 ∧ H5 b = some (.lst ys) ∧ PtsV H5 ys ps ∧ ps.length = i + 1 ∧ (∀ p ∈ ps, rawOk p) ∧
            tot ps ≤ 40 * (i + 1) ∧ x.cps.toList = l1' ++ l2 ∧ Run l1' ps q := by
        intro p H5 ys' q' s5 h5 hp5 rp tp hr
        refine ⟨some (.int (0 + (i : Int))), some (.int nm), some (.int n5), some (.int lf), ys', ps ++ [p], l1 ++ la, lb, q', ?_, s5, h5, hp5, by simp [hl], okApp p rp, ?_, by rw [ex, e2]; simp, hr⟩
        · rw [List.length_append, ela, Int.natCast_add]
        · rw [tot_app]
          have : tot [p] = tlen p := by simp [tot]
          omega
      refine ⟨_, rfl, (by show (0 : Int) < 4; decide), _, rfl, ?_⟩
      refine ite2 (fun h5 => ?_) (fun h5 => ?_)
      · refine ⟨_, rfl, .inl ⟨rfl, _, SqL.of h3b⟩, _, rfl, _, rfl, _, rfl, _, rfl, _, rfl, _, rfl, le_line (by omega), ?_⟩
        rw [cut_mid (by rw [ex, e2]) lf ela]
        refine ⟨(by show 2 ≤ sizeLine; decide), fun t ht' => ?_⟩
        obtain ⟨a1, a2, a3, a4⟩ := app (.cut ⟨la.toArray⟩) H3 s3 h3b hps3 t ht'
        refine ⟨ys, a1, a2, ?_⟩
        refine ⟨_, rfl, (by show (0 : Int) < 4; decide), trivial, _, rfl, iT ?_ (decide_eq_true h4)⟩
        refine ⟨_, rfl, _, rfl, ?_⟩
        have hr := hrun.app (Run.cut (s := ⟨la.toArray⟩) Run.nil)
        rw [List.append_nil] at hr
        have ll : (⟨la.toArray⟩ : Str).length = la.length := by rw [len_list]
        exact fin (.cut ⟨la.toArray⟩) _ _ _ a3 upd_same a4 ⟨⟨by rw [ll]; omega, sgl⟩, by rw [ll]; omega⟩ (by show (⟨la.toArray⟩ : Str).length ≤ 40; rw [ll]; omega) hr
      · refine ⟨_, rfl, .inl ⟨rfl, _, SqL.of h3b⟩, _, rfl, (by show 2 ≤ sizeLine; decide), fun t ht' => ?_⟩
        obtain ⟨a1, a2, a3, a4⟩ := app (.keep lf) H3 s3 h3b hps3 t ht'
        refine ⟨ys, a1, a2, ?_⟩
        refine ⟨_, rfl, (by show (0 : Int) < 4; decide), trivial, _, rfl, iT ?_ (decide_eq_true h4)⟩
        refine ⟨_, rfl, _, rfl, ?_⟩
        have hr := hrun.app (Run.keep (a := la) ela Run.nil)
        rw [List.append_nil] at hr
        exact fin (.keep lf) _ _ _ a3 upd_same a4 lf0.1 (by show 0 ≤ 40; decide) hr
  · rintro σ H2 ⟨u, v, w, z, ys, ps, l1, l2, q, rfl, s2, h2b, hps, hl, hok, ht, ex, hrun⟩
    have hlen := Paired.length hps
    have hxx : x.length = l1.length + l2.length := by rw [len_list, ex]; simp
    refine ⟨_, rfl, _, rfl, le_line (by omega), _, rfl, trivial, (by show 2 ≤ sizeLine; decide), fun t ht' => ⟨(by show 1 ≤ sizeLine; decide), fun d hd => ?_⟩⟩
    have hbt : b ≠ t := ne_of_none h2b ht'
    have hb1 : upd H2 t (.tup [.str "keep", .int ((x.length : Int) - (l1.length : Int))]) b = some (.lst ys) := by rw [upd_ne hbt]; exact h2b
    have hbd : b ≠ d := ne_of_none hb1 hd
    have htd : t ≠ d := fun z => by rw [← z, upd_same] at hd; cases hd
    have s4 : Same H2 (upd (upd H2 t (.tup [.str "keep", .int ((x.length : Int) - (l1.length : Int))])) d (.lst [.ref t])) := (sameNew ht').trans (sameNew hd)
    refine .inl ⟨b, d, ys, [.ref t], rfl, rfl, (by rw [upd_ne hbd]; exact hb1), upd_same, le_line (by simp; omega), fun e he => ?_⟩
    have s5 := s4.trans (sameNew (o := .lst (ys ++ [.ref t])) he)
    have he2 : H2 e = none := s4.free he
    have hr := hrun.app (Run.keep (a := l2) (n := (x.length : Int) - (l1.length : Int)) (by omega) Run.nil)
    rw [List.append_nil, ← ex] at hr
    have hte : t ≠ e := fun z => by rw [← z, upd_ne htd, upd_same] at he; cases he
    refine k e _ (ys ++ [.ref t]) (ps ++ [.keep ((x.length : Int) - (l1.length : Int))]) _ (s2.trans s5) (s2.free he2) upd_same (PtsV.snoc (hps.mono (tupsOf s5)) ⟨t, rfl, ?_⟩) ?_ (by simp; omega) ?_ hr
    · rw [upd_ne hte, upd_ne htd, upd_same]; rfl
    · intro p hp
      rcases List.mem_append.mp hp with z | z
      · exact hok p z
      · rw [List.mem_singleton.mp z]
        show (0 : Int) ≤ _
        omega
    · rw [tot_app]
      show tot ps + (0 + 0) ≤ 4000
      omega
abbrev tChange0 : List (Str × Sp) := [("_law_neat", spNeatR), ("_law_parts", spParts)]
def spChange : Sp := fun vs H Q E => ∃ (c : Int) (x : Str) (m : Int), vs = [.int c, .str x, .int m] ∧ good x ∧ x.length ≤ 10000 ∧ 0 ≤ m ∧ m ≤ 100 ∧
  ∀ b H' ys ps q, Same H H' → H b = none → H' b = some (.lst ys) → PtsV H' ys ps → (∀ p ∈ ps, okPt p) → chainOk "" ps = true → ps.length ≤ 305 → tot ps ≤ 4000 → Run x.cps.toList ps q → Q (.ref b) H'
theorem tot_neat (ps : List Pt) (h : ∀ p ∈ ps, rawOk p) : tot (neatR ps) = tot ps := by
  have I := rowsM_ri ps h
  have e : neatR ps = foundR ((ps.foldl stepR ([], ((Str.ofString "", Str.ofString "", 0) : Row))).1 ++ [(ps.foldl stepR ([], ((Str.ofString "", Str.ofString "", 0) : Row))).2]) := rfl
  rw [e, tot_found, I.tot]
theorem rd_change {K : PySem.W.Frag} (vs : List V) (H : Hp) (Q : VK) (E : XK) (h : spChange vs H Q E) : rdSs (rcx K tChange0 [] (E := E)) b_changeL { nx := fun _ H' => Q .non H', rt := Q } (start N_changeL vs) H := by
  obtain ⟨c, x, m, rfl, hx, hxl, hm0, hm1, k⟩ := h
  refine ⟨_, rfl, _, rfl, _, rfl, c, x, m, rfl, hx, hxl, hm0, hm1, fun b H1 ys ps q s1 fb h1 hp hr hl ht hrun => ?_⟩
  refine ⟨b, ys, ps, rfl, h1, hp, by omega, by omega, fun d H2 zs s2 fd h2 hz => ?_⟩
  obtain ⟨g1, g2, _⟩ := neat_change ps hr (by omega)
  have hl2 := neat_len ps
  rw [neat_eq ps hr] at hl2
  exact k d H2 zs (neatR ps) q (s1.trans s2) (s1.free fd) h2 hz g2 g1 (by omega) (by rw [tot_neat ps hr]; exact ht) (run_neat hrun)
end L2.B
namespace L2
open PySem PySem.Spec PyProof.Rows
/-! ### a reading, step by step -/
section
variable {Γ : RCx} {D : Ends} {σ : St} {H : Hp} {r : List RS} {Q : VK} {QA : List V → Hp → Prop} {QT : Bool → Hp → Prop}
theorem r_v {i : Nat} {v : V} (h : σ[i]? = some (some v)) (q : Q v H) : rdE Γ (.v i) σ H Q := ⟨_, h, q⟩
theorem r_c {v : V} (q : Q v H) : rdE Γ (.c v) σ H Q := q
theorem r_g {j : Nat} (q : Q (Γ.gv j) H) : rdE Γ (.g j) σ H Q := q
theorem r_bin {op : Operator} {a b : RE} (h : rdE Γ a σ H fun x H1 => rdE Γ b σ H1 fun y H2 => rBin Γ.K op x y H2 Q) : rdE Γ (.bin op a b) σ H Q := h
theorem r_cmp {op : CmpOp} {a b : RE} (h : rdE Γ a σ H fun x H1 => rdE Γ b σ H1 fun y H2 => rCmp Γ.K op x y H2 Q) : rdE Γ (.cmp op a b) σ H Q := h
theorem r_ix {a b : RE} (h : rdE Γ a σ H fun x H1 => rdE Γ b σ H1 fun y H2 => rIx2 Γ.K Γ.sd x y H2 Q) : rdE Γ (.ix a b) σ H Q := h
theorem r_call {j : Nat} {as : List RE} (h : rdA Γ as σ H fun vs H1 => Γ.fs j (vs ++ []) H1 Q Γ.E) : rdE Γ (.call j as) σ H Q := h
theorem r_callS {j : Nat} {as : List RE} (sp : Sp) (hs : Γ.fs j = sp) (h : rdA Γ as σ H fun vs H1 => sp vs H1 Q Γ.E) : rdE Γ (.call j as) σ H Q := by
  subst hs
  refine r_call ?_
  have e : (fun (vs : List V) (H1 : Hp) => Γ.fs j (vs ++ []) H1 Q Γ.E) = fun vs H1 => Γ.fs j vs H1 Q Γ.E := by
    funext vs H1; rw [List.append_nil]
  rw [e]; exact h
theorem r_blt {b : Blt} {as : List RE} (h : rdA Γ as σ H fun vs H1 => rBlt Γ.K b vs H1 Q) : rdE Γ (.blt b as) σ H Q := h
theorem r_tup {as : List RE} (h : rdA Γ as σ H fun xs H1 => xs.length ≤ sizeLine ∧ ∀ p, H1 p = none → Q (.ref p) (upd H1 p (.tup xs))) : rdE Γ (.tup as) σ H Q := h
theorem r_lst {as : List RE} (h : rdA Γ as σ H fun xs H1 => xs.length ≤ sizeLine ∧ ∀ p, H1 p = none → Q (.ref p) (upd H1 p (.lst xs))) : rdE Γ (.lst as) σ H Q := h
theorem r_isx {a c : RE} (h : rdE Γ a σ H fun x H1 => rdE Γ c σ H1 fun y H2 => rIsx Γ.K [x, y] H2 Q) : rdE Γ (.isx a c) σ H Q := h
theorem r_isxT {a c : RE} (h : rdE Γ a σ H fun x H1 => rdE Γ c σ H1 fun y H2 => rIsx Γ.K [x, y] H2 fun z H3 => tru Γ.K z H3 fun b => QT b H3) : rdT Γ (.isx a c) σ H QT := h
theorem r_nil (q : QA [] H) : rdA Γ [] σ H QA := q
theorem r_cons {a : RE} {as : List RE} (h : rdE Γ a σ H fun x H1 => rdA Γ as σ H1 fun xs H2 => QA (x :: xs) H2) : rdA Γ (a :: as) σ H QA := h
theorem r_asg {i : Nat} {e : RE} (h : rdE Γ e σ H fun x H1 => rdSs Γ r D (σ.set i (some x)) H1) : rdSs Γ (.asg i e :: r) D σ H := h
theorem r_ret {e : RE} (h : rdE Γ e σ H D.rt) : rdSs Γ (.ret e :: r) D σ H := h
end
end L2
namespace L2
open PySem PySem.Spec PyProof.Rows
section
variable {Γ : RCx} {D : Ends} {σ : St} {H : Hp} {r : List RS} {Q : VK} {QA : List V → Hp → Prop} {QT : Bool → Hp → Prop}
theorem tru_bl {K : PySem.W.Frag} {b : Bool} {QB : Bool → Prop} (h : QB b) : tru K (.bl b) H QB := h
theorem r_notT {a : RE} (h : rdT Γ a σ H fun b H1 => QT (!b) H1) : rdT Γ (.not a) σ H QT := h
theorem r_callTS {j : Nat} {as : List RE} (sp : Sp) (hs : Γ.fs j = sp) (h : rdA Γ as σ H fun vs H1 => sp vs H1 (fun x H2 => tru Γ.K x H2 fun b => QT b H2) Γ.E) : rdT Γ (.call j as) σ H QT := by
  subst hs
  show rdA Γ as σ H fun vs H1 => Γ.fs j (vs ++ []) H1 (fun x H2 => tru Γ.K x H2 fun b => QT b H2) Γ.E
  have e : (fun (vs : List V) (H1 : Hp) => Γ.fs j (vs ++ []) H1 (fun x H2 => tru Γ.K x H2 fun b => QT b H2) Γ.E) = fun vs H1 => Γ.fs j vs H1 (fun x H2 => tru Γ.K x H2 fun b => QT b H2) Γ.E := by
    funext vs H1; rw [List.append_nil]
  rw [e]; exact h
end
end L2
namespace L2.B
/-! ### changes sign by sign -/
/-! ### one and then the other -/
/-! ### what the form says -/
/-! ### texts and changes -/
/-! ### past one another -/
end L2.B
set_option maxRecDepth 100000
set_option maxHeartbeats 4000000
namespace L2.B
open PySem PySem.Spec PyProof.Rows
/-! ### parts, sign by sign -/
/-! ### made neat -/
/-! ### a neat change is known by its form -/
end L2.B
set_option maxRecDepth 100000
namespace L2.B
open PySem PySem.Spec PyProof.Rows
/-! ### Walk_init -/
/-! ### Walk_word -/
/-! ### Walk_left -/
/-! ### Walk_take -/
/-! ### put_first -/
/-! ### share -/
/-! ### passed -/
/-! ### cut_behind -/
/-! ### parts_behind -/
/-! ### then -/
end L2.B
namespace L2.B
open PySem PySem.Spec PyProof.Rows
end L2.B
set_option maxRecDepth 100000
set_option maxHeartbeats 4000000
namespace L2.B
open PySem PySem.Spec PyProof.Rows
/-! ### things of any kind -/
theorem isi_mono {T : Ty} {v : V} {H : Hp} {P Q : Bool → Prop} (h : isiV T v H P) (i : ∀ b, P b → Q b) : isiV T v H Q := by
  cases v with
  | ref a =>
    unfold isiV at h ⊢
    simp only at h ⊢
    split at h
    all_goals first | exact i _ h | exact h.elim
  | non => exact i _ h
  | bl b => exact i _ h
  | int _ => exact i _ h
  | str _ => exact i _ h
  | _ => exact False.elim h
theorem isi_same {T : Ty} {v : V} {H H' : Hp} {P : Bool → Prop} (h : isiV T v H P) (s : Same H H') : isiV T v H' P := by
  cases v with
  | ref a =>
    unfold isiV at h ⊢
    simp only at h ⊢
    cases e : H a with
    | none => rw [e] at h; exact h.elim
    | some o => rw [e] at h; rw [s _ _ e]; exact h
  | non => exact h
  | bl b => exact h
  | int _ => exact h
  | str _ => exact h
  | _ => exact False.elim h
def NotTy (T : Ty) (v : V) (H : Hp) : Prop := isiV T v H fun b => b = false
theorem NotTy.same {T : Ty} {v : V} {H H' : Hp} (h : NotTy T v H) (s : Same H H') : NotTy T v H' := isi_same h s
theorem NotTy.go {T : Ty} {v : V} {H : Hp} {Q : Bool → Prop} (h : NotTy T v H) (q : Q false) : isiV T v H Q := isi_mono h fun b e => by rw [e]; exact q
def isText (x : Str) : Bool := x.cps.toList.all fun c => SG.cps.contains c
theorem takeWhile_lt {α : Type} (p : α → Bool) : ∀ l : List α, l.all p = false → (l.takeWhile p).length < l.length
  | [], h => by cases h
  | c :: l, h => by
    rw [List.takeWhile_cons]
    cases hc : p c with
    | false => simp
    | true =>
      rw [List.all_cons, hc, Bool.true_and] at h
      have := takeWhile_lt p l h
      simp; omega
theorem lstrip_not (x y : Str) (h : (x.cps.toList.all fun c => y.cps.contains c) = false) : Txt.lstripChars x y ≠ "" := by
  have lt := takeWhile_lt _ _ h
  have e0 : stripLo y.cps.contains true x = (x.cps.toList.takeWhile y.cps.contains).length := by
    unfold stripLo
    rw [if_pos rfl]
  have e1 : ∀ n, stripHi y.cps.contains false x n = x.length := fun n => rfl
  intro z
  have z2 := congrArg Str.length z
  have l0 : (Str.ofString "").length = 0 := rfl
  rw [l0] at z2
  unfold Txt.lstripChars Txt.stripBy stripSame stripped at z2
  rw [e0, e1] at z2
  have hx : x.cps.size = x.cps.toList.length := by simp
  split at z2
  · have : x.cps.size = 0 := z2
    omega
  · have z3 : (x.cps.extract (x.cps.toList.takeWhile y.cps.contains).length x.cps.size).size = 0 := z2
    rw [Array.size_extract, Nat.min_self] at z3
    have z4 : x.cps.size - (List.takeWhile (fun c => y.cps.contains c) x.cps.toList).length = 0 := z3
    omega
/-- what is no text -/
def BadT (v : V) (H : Hp) : Prop := (∃ x, v = .str x ∧ x.length ≤ 1000000 ∧ isText x = false) ∨ NotTy .str v H
theorem BadT.same {v : V} {H H' : Hp} (h : BadT v H) (s : Same H H') : BadT v H' := by
  rcases h with h | h
  · exact .inl h
  · exact .inr (h.same s)
/-- what is no whole number -/
def NotWh (v : V) (H : Hp) : Prop := (∃ b, v = .bl b) ∨ NotTy .int v H
theorem NotWh.same {v : V} {H H' : Hp} (h : NotWh v H) (s : Same H H') : NotWh v H' := by
  rcases h with h | h
  · exact .inl h
  · exact .inr (h.same s)
def spWholeX : Sp := fun vs H Q E => ∃ v, vs = [v] ∧ ((∃ i, v = .int i ∧ Q (.bl true) H) ∨ (NotWh v H ∧ Q (.bl false) H))
theorem rd_wholeX {K : PySem.W.Frag} (vs : List V) (H : Hp) (Q : VK) (E : XK) (h : spWholeX vs H Q E) : rdSs (rcx K [] [] (E := E)) b_is_whole (Dn Q) (start N_is_whole vs) H := by
  obtain ⟨v, rfl, ⟨i, rfl, q⟩ | ⟨⟨b, rfl⟩ | hn, q⟩⟩ := h
  · exact ⟨_, rfl, rfl, _, rfl, iteT ⟨_, rfl, rfl, q⟩⟩
  · exact ⟨_, rfl, rfl, _, rfl, iteT ⟨_, rfl, rfl, q⟩⟩
  · exact ⟨_, rfl, rfl, hn.go ⟨_, rfl, iteF q⟩⟩
def spTextX : Sp := fun vs H Q E => ∃ v, vs = [v] ∧ ((∃ x, v = .str x ∧ good x ∧ Q (.bl true) H) ∨ (BadT v H ∧ Q (.bl false) H))
theorem rd_textX {K : PySem.W.Frag} (vs : List V) (H : Hp) (Q : VK) (E : XK) (h : spTextX vs H Q E) : rdSs (rcx K [] gS (E := E)) b_is_text (Dn Q) (start N_is_text vs) H := by
  obtain ⟨v, rfl, ⟨x, rfl, hx, q⟩ | ⟨⟨x, rfl, hl, hx⟩ | hn, q⟩⟩ := h
  · exact rd_text _ _ _ _ ⟨x, rfl, hx, q⟩
  · refine ⟨_, rfl, rfl, _, rfl, iteT ⟨_, rfl, rfl, le_line hl, ?_⟩⟩
    show Q (.bl (false ^^ decide (V.str (Txt.lstripChars x SG) = V.str ""))) H
    rw [decide_eq_false (fun z => lstrip_not x SG hx (by injection z))]
    exact q
  · exact ⟨_, rfl, rfl, hn.go ⟨_, rfl, iteF q⟩⟩
abbrev tNeedTX : List (Str × Sp) := [("is_text", spTextX)]
def spNeedTX (C : Addr) : Sp := fun vs H Q E => ∃ v, vs = [v] ∧ ((∃ x, v = .str x ∧ good x ∧ Q .non H) ∨ (BadT v H ∧ E (.ref C) none H))
theorem rd_needTX {K : PySem.W.Frag} {C : Addr} (vs : List V) (H : Hp) (Q : VK) (E : XK) (h : spNeedTX C vs H Q E) : rdSs (rcx K tNeedTX [] (et := [("BadText", C)]) (E := E)) b_need_text (Dn Q) (start N_need_text vs) H := by
  obtain ⟨v, rfl, ⟨x, rfl, hx, q⟩ | ⟨hn, q⟩⟩ := h
  · exact ⟨_, rfl, _, rfl, .inl ⟨x, rfl, hx, q⟩⟩
  · exact ⟨_, rfl, _, rfl, .inr ⟨hn, (by show 1 ≤ sizeLine; decide), q⟩⟩
def spWordX (K : PySem.W.Frag) : Sp := fun vs H Q E => ∃ v p xs, vs = [v, .ref p] ∧ SqT K H p xs ∧ xs.all flatV = true ∧ ((∃ w, v = .str w ∧ Q (.bl (inV (.str w) xs)) H) ∨ (NotTy .str v H ∧ Q (.bl false) H))
theorem rd_wordX {K : PySem.W.Frag} (vs : List V) (H : Hp) (Q : VK) (E : XK) (h : spWordX K vs H Q E) : rdSs (rcx K [] [] (E := E)) b_is_word (Dn Q) (start N_is_word vs) H := by
  obtain ⟨v, p, xs, rfl, hp, hf, ⟨w, rfl, q⟩ | ⟨hn, q⟩⟩ := h
  · exact rd_word _ _ _ _ ⟨w, p, xs, rfl, hp, hf, q⟩
  · exact ⟨_, rfl, rfl, hn.go ⟨_, rfl, iteF q⟩⟩
/-- what is no part -/
def NoPart (v : V) (H : Hp) : Prop := NotTy .tuple v H ∨ ∃ a xs, v = .ref a ∧ H a = some (.tup xs) ∧ xs.length ≤ 1000000 ∧ (xs.length ≠ 2 ∨ ∃ w t, xs = [w, t] ∧
  (NotTy .str w H ∨ (∃ s, w = .str s ∧ s ≠ "keep" ∧ s ≠ "cut" ∧ s ≠ "put") ∨ (w = .str "keep" ∧ (NotWh t H ∨ ∃ n, t = .int n ∧ n < 1)) ∨ ((w = .str "cut" ∨ w = .str "put") ∧ (BadT t H ∨ t = .str ""))))
theorem NoPart.same {v : V} {H H' : Hp} (h : NoPart v H) (s : Same H H') : NoPart v H' := by
  rcases h with h | ⟨a, xs, rfl, ha, hl, h⟩
  · exact .inl (h.same s)
  · refine .inr ⟨a, xs, rfl, s _ _ ha, hl, ?_⟩
    rcases h with h | ⟨w, t, rfl, h⟩
    · exact .inl h
    · refine .inr ⟨w, t, rfl, ?_⟩
      rcases h with h | h | ⟨h, h2⟩ | ⟨h, h2⟩
      · exact .inl (h.same s)
      · exact .inr (.inl h)
      · refine .inr (.inr (.inl ⟨h, ?_⟩))
        rcases h2 with h2 | h2
        · exact .inl (h2.same s)
        · exact .inr h2
      · refine .inr (.inr (.inr ⟨h, ?_⟩))
        rcases h2 with h2 | h2
        · exact .inl (h2.same s)
        · exact .inr h2
abbrev tPartX (K : PySem.W.Frag) : List (Str × Sp) := [("is_word", spWordX K), ("is_whole", spWholeX), ("is_text", spTextX)]
def spPartX : Sp := fun vs H Q E => ∃ v, vs = [v] ∧ ((∃ p, PtV H v p ∧ okPt p ∧ ∀ H', Same H H' → Q (.bl true) H') ∨ (NoPart v H ∧ ∀ H', Same H H' → Q (.bl false) H'))
theorem inV_one (s t : Str) : inV (.str s) [.str t] = (t == s) := by
  unfold inV
  show (eqV (.str t) (.str s) || false) = _
  rw [Bool.or_false]; rfl
theorem rd_partX {K : PySem.W.Frag} (vs : List V) (H : Hp) (Q : VK) (E : XK) (h : spPartX vs H Q E) : rdSs (rcx K (tPartX K) [] (E := E)) b_is_part (Dn Q) (start N_is_part vs) H := by
  have two : ∀ (a : Addr) (w t : V) (Q1 : VK) (H1 : Hp) (σ : St), σ[0]? = some (some (.ref a)) → H1 a = some (.tup [w, t]) →
      (∀ (tt : Addr) H2, Same H1 H2 → ∀ b : Bool, (b = true → w = .str "cut" ∨ w = .str "put") → (b = false → w ≠ .str "cut" ∧ w ≠ .str "put") → Q1 (.bl b) H2) → (NotTy .str w H1 ∨ ∃ s, w = .str s) →
      rdE (rcx K (tPartX K) [] (E := E)) (.call 0 [(.ix (.v 0) (.c (.int 0))), (.tup [(.c (.str "cut")), (.c (.str "put"))])]) σ H1 Q1 := by
    intro a w t Q1 H1 σ h0 ha q hw
    refine ⟨_, h0, .inr (.inl ⟨_, _, _, _, rfl, rfl, SqT.of ha, rfl, (by show 2 ≤ sizeLine; decide), fun t ht => ?_⟩)⟩
    have s2 := sameNew (o := .tup [V.str "cut", V.str "put"]) ht
    refine ⟨w, t, _, rfl, SqT.of upd_same, rfl, ?_⟩
    rcases hw with hw | ⟨s, rfl⟩
    · refine .inr ⟨hw.same s2, q t _ s2 false (fun z => by cases z) fun _ => ⟨?_, ?_⟩⟩
      · rintro rfl; cases (show true = false from hw)
      · rintro rfl; cases (show true = false from hw)
    · refine .inl ⟨s, rfl, q t _ s2 _ (fun z => ?_) fun z => ?_⟩
      · have z' : ((Str.ofString "cut" == s) || ((Str.ofString "put" == s) || false)) = true := z
        simp only [Bool.or_false, Bool.or_eq_true, beq_iff_eq] at z'
        rcases z' with z' | z' <;> subst z'
        · exact .inl rfl
        · exact .inr rfl
      · have z' : ((Str.ofString "cut" == s) || ((Str.ofString "put" == s) || false)) = false := z
        simp only [Bool.or_false, Bool.or_eq_false_iff, beq_eq_false_iff_ne] at z'
        exact ⟨fun y => z'.1 (by injection y with y; exact y.symm), fun y => z'.2 (by injection y with y; exact y.symm)⟩
  obtain ⟨v, rfl, ⟨p, ⟨a, rfl, ha⟩, hp, q⟩ | ⟨hn | ⟨a, xs, rfl, ha, hl, hb⟩, q⟩⟩ := h
  · refine ⟨_, rfl, rfl, isi_tup ha ⟨_, rfl, .inr ⟨_, SqT.of ha, _, rfl, ?_⟩⟩⟩
    refine ⟨_, rfl, .inr (.inl ⟨_, _, _, _, rfl, rfl, SqT.of ha, rfl, (by show 1 ≤ sizeLine; decide), fun t1 ht1 => ?_⟩)⟩
    have s1 := sameNew (o := .tup [V.str "keep"]) ht1
    refine ⟨.str p.word, t1, [.str "keep"], rfl, SqT.of upd_same, rfl, .inl ⟨p.word, rfl, ?_⟩⟩
    have ha1 := s1 _ _ ha
    generalize upd H t1 (.tup [V.str "keep"]) = H1 at s1 ha1
    have fin : ∀ (s : Str), good s → s ≠ "" → H1 a = some (.tup [.str p.word, .str s]) → p.word = "put" ∨ p.word = "cut" → rdSs (rcx K (tPartX K) [] (E := E)) (b_is_part.drop 2) (Dn Q) (start N_is_part [.ref a]) H1 := by
      intro s gs ns hs hw
      refine two a (.str p.word) (.str s) _ H1 _ rfl hs (fun tt H2 s2 b hb1 hb2 => ?_) (.inr ⟨_, rfl⟩)
      have eb : b = true := by
        cases b with
        | true => rfl
        | false =>
          obtain ⟨z1, z2⟩ := hb2 rfl
          rcases hw with z | z
          · exact absurd (congrArg V.str z) z2
          · exact absurd (congrArg V.str z) z1
      subst eb
      have hs' := s2 _ _ hs
      refine ⟨_, rfl, iteT ⟨_, rfl, .inr (.inl ⟨_, _, _, _, rfl, rfl, SqT.of hs', rfl, .str s, rfl, .inl ⟨s, rfl, gs, _, rfl, ?_⟩⟩)⟩⟩
      refine iteT ⟨_, rfl, .inr (.inl ⟨_, _, _, _, rfl, rfl, SqT.of hs', rfl, ?_⟩)⟩
      show Q (.bl (true ^^ decide (V.str s = V.str ""))) _
      rw [decide_eq_false (fun z => ns (by injection z))]
      exact q _ (s1.trans s2)
    cases p with
    | keep n =>
      rw [show inV (.str (Pt.keep n).word) [.str "keep"] = true by show inV (.str "keep") [.str "keep"] = true; decide]
      refine ⟨_, rfl, .inr (.inl ⟨_, _, _, _, rfl, rfl, SqT.of ha1, rfl, .int n, rfl, .inl ⟨n, rfl, _, rfl, ?_⟩⟩)⟩
      refine iteT ⟨_, rfl, .inr (.inl ⟨_, _, _, _, rfl, rfl, SqT.of ha1, rfl, trivial, ?_⟩)⟩
      show Q (.bl (decide (1 ≤ n))) H1
      rw [decide_eq_true (show (1 : Int) ≤ n from hp)]
      exact q _ s1
    | put s =>
      rw [show inV (.str (Pt.put s).word) [.str "keep"] = false by show inV (.str "put") [.str "keep"] = false; decide]
      exact fin s hp.1 hp.2 ha1 (.inl rfl)
    | cut s =>
      rw [show inV (.str (Pt.cut s).word) [.str "keep"] = false by show inV (.str "cut") [.str "keep"] = false; decide]
      exact fin s hp.1 hp.2 ha1 (.inr rfl)
  · exact ⟨_, rfl, rfl, hn.go (q _ (Same.refl _))⟩
  · refine ⟨_, rfl, rfl, isi_tup ha ⟨_, rfl, .inr ⟨_, SqT.of ha, _, rfl, ?_⟩⟩⟩
    show if (true ^^ decide (V.int (xs.length : Int) = V.int 2)) = true then _ else _
    rcases hb with hb | ⟨w, t, rfl, hb⟩
    · rw [decide_eq_false (fun z => hb (by injection z with z; omega))]
      exact q _ (Same.refl _)
    · refine ⟨_, rfl, .inr (.inl ⟨_, _, _, _, rfl, rfl, SqT.of ha, rfl, (by show 1 ≤ sizeLine; decide), fun t1 ht1 => ?_⟩)⟩
      have s1 := sameNew (o := .tup [V.str "keep"]) ht1
      refine ⟨w, t1, [.str "keep"], rfl, SqT.of upd_same, rfl, ?_⟩
      have ha1 := s1 _ _ ha
      generalize upd H t1 (.tup [V.str "keep"]) = H1 at s1 ha1
      have no : (NotTy .str w H1 ∨ ∃ s, w = .str s) → w ≠ .str "cut" → w ≠ .str "put" → rdSs (rcx K (tPartX K) [] (E := E)) (b_is_part.drop 2) (Dn Q) (start N_is_part [.ref a]) H1 := by
        intro hw n1 n2
        refine two a w t _ H1 _ rfl ha1 (fun tt H2 s2 b hb1 hb2 => ?_) hw
        have eb : b = false := by
          cases b with
          | false => rfl
          | true => rcases hb1 rfl with z | z; exact absurd z n1; exact absurd z n2
        subst eb
        exact ⟨_, rfl, iteF (q _ (s1.trans s2))⟩
      rcases hb with hb | ⟨s, rfl, n0, n1, n2⟩ | ⟨rfl, hb⟩ | ⟨hw, hb⟩
      · refine .inr ⟨hb.same s1, no (.inl (hb.same s1)) ?_ ?_⟩
        · rintro rfl; cases (show true = false from hb)
        · rintro rfl; cases (show true = false from hb)
      · refine .inl ⟨s, rfl, ?_⟩
        rw [inV_one, beq_eq_false_iff_ne.mpr (Ne.symm n0)]
        exact no (.inr ⟨s, rfl⟩) (fun z => n1 (by injection z)) (fun z => n2 (by injection z))
      · refine .inl ⟨_, rfl, ?_⟩
        rw [show inV (.str "keep") [.str "keep"] = true by decide]
        refine ⟨_, rfl, .inr (.inl ⟨_, _, _, _, rfl, rfl, SqT.of ha1, rfl, t, rfl, ?_⟩)⟩
        rcases hb with hb | ⟨n, rfl, hn⟩
        · exact .inr ⟨hb.same s1, _, rfl, iteF (q _ s1)⟩
        · refine .inl ⟨n, rfl, _, rfl, iteT ⟨_, rfl, .inr (.inl ⟨_, _, _, _, rfl, rfl, SqT.of ha1, rfl, trivial, ?_⟩)⟩⟩
          show Q (.bl (decide (1 ≤ n))) H1
          rw [decide_eq_false (by omega)]
          exact q _ s1
      · have hws : ∃ s, w = .str s ∧ (Str.ofString "keep" == s) = false := by
          rcases hw with rfl | rfl
          · exact ⟨_, rfl, by decide⟩
          · exact ⟨_, rfl, by decide⟩
        obtain ⟨s, rfl, hk⟩ := hws
        refine .inl ⟨s, rfl, ?_⟩
        rw [inV_one, hk]
        refine two a (.str s) t _ H1 _ rfl ha1 (fun tt H2 s2 b hb1 hb2 => ?_) (.inr ⟨s, rfl⟩)
        have eb : b = true := by
          cases b with
          | true => rfl
          | false =>
            obtain ⟨z1, z2⟩ := hb2 rfl
            rcases hw with z | z
            · exact absurd z z1
            · exact absurd z z2
        subst eb
        have ha2 := s2 _ _ ha1
        refine ⟨_, rfl, iteT ⟨_, rfl, .inr (.inl ⟨_, _, _, _, rfl, rfl, SqT.of ha2, rfl, t, rfl, ?_⟩)⟩⟩
        rcases hb with hb | rfl
        · exact .inr ⟨hb.same (s1.trans s2), _, rfl, iteF (q _ (s1.trans s2))⟩
        · refine .inl ⟨_, rfl, ⟨by decide, fun c hc => by cases hc⟩, _, rfl, iteT ⟨_, rfl, .inr (.inl ⟨_, _, _, _, rfl, rfl, SqT.of ha2, rfl, ?_⟩)⟩⟩
          exact q _ (s1.trans s2)
theorem wk_part {vs : List V} {H : Hp} {Q : VK} {E : XK} (h : spPart vs H Q E) : spPartX vs H Q E := by
  obtain ⟨v, p, rfl, hp, ho, q⟩ := h
  exact ⟨_, rfl, .inl ⟨p, hp, ho, q⟩⟩
end L2.B
set_option maxRecDepth 100000
set_option maxHeartbeats 4000000
namespace L2.B
open PySem PySem.Spec PyProof.Rows
/-- what is no change -/
def ChBad (H : Hp) (xs : List V) : Prop := ∃ pre x post ps, xs = pre ++ x :: post ∧ PtsV H pre ps ∧ (∀ p ∈ ps, okPt p) ∧ chainOk "" ps = true ∧
  (NoPart x H ∨ ∃ p, PtV H x p ∧ okPt p ∧ mayFollow p.word (aheadAt "" ps ps.length) = false)
def NoChange (v : V) (H : Hp) : Prop := NotTy .list v H ∨ ∃ a xs, v = .ref a ∧ H a = some (.lst xs) ∧ ChBad H xs
abbrev tNeedX : List (Str × Sp) := [("is_part", spPartX), ("may_follow", spFollow)]
def spNeedB (C : Addr) : Sp := fun vs H Q E => ∃ v, vs = [v] ∧ NoChange v H ∧ ∀ H', Same H H' → E (.ref C) none H'
theorem rd_needB {K : PySem.W.Frag} {C : Addr} (vs : List V) (H : Hp) (Q : VK) (E : XK) (h : spNeedB C vs H Q E) : rdSs (rcx K tNeedX [] (et := [("BadChange", C)]) (E := E)) b_need_change (Dn Q) (start N_need_change vs) H := by
  obtain ⟨v, rfl, hn | ⟨a, xs, rfl, ha, pre, x, post, ps, rfl, hps, hok, hch, hbad⟩, q⟩ := h
  · exact ⟨_, rfl, rfl, hn.go ⟨(by show 1 ≤ sizeLine; decide), q _ (Same.refl _)⟩⟩
  · have hlen := Paired.length hps
    refine ⟨_, rfl, rfl, isi_lst ha ⟨_, rfl, a, rfl, ⟨_, SqL.of ha⟩, for_list (K := K) (a := a) (xs := pre ++ x :: post) (fun i σ H2 => i ≤ pre.length ∧ ∃ v, σ = [some (.ref a), some (.str (aheadAt "" ps i)), v] ∧ Same H H2) ⟨Nat.zero_le _, none, rfl, Same.refl _⟩
      (fun i σ H2 _ ⟨_, _, _, s2⟩ => SqL.of (s2 _ _ ha)) ?_ ?_⟩⟩
    · rintro i y σ H2 hi ⟨hle, v, rfl, s2⟩
      by_cases hlt : i < pre.length
      · have hi' : pre[i]? = some y := by rw [List.getElem?_append_left hlt] at hi; exact hi
        obtain ⟨p, hp, ptv⟩ := hps.get hi'
        obtain ⟨b, rfl, hb⟩ := ptv.mono (tupsOf s2)
        refine ⟨_, rfl, _, rfl, .inl ⟨p, ⟨b, rfl, hb⟩, hok p (List.mem_of_getElem? hp), fun H3 s3 => ?_⟩⟩
        refine ⟨_, rfl, .inr (.inl ⟨_, _, _, _, rfl, rfl, SqT.of (s3 _ _ hb), rfl, _, rfl, p.word, _, rfl, ?_⟩)⟩
        have e := chain_at ps "" i p hch hp
        show (fun c H1 => if (!c) = true then _ else _) (mayFollow p.word (aheadAt "" ps i)) H3
        rw [e]
        refine ⟨_, rfl, .inr (.inl ⟨_, _, _, _, rfl, rfl, SqT.of (s3 _ _ hb), rfl, hlt, some (.ref b), ?_, s2.trans s3⟩)⟩
        show [some (V.ref a), some (V.str p.word), some (V.ref b)] = _
        have e2 : aheadAt "" ps (i + 1) = p.word := by simp only [aheadAt, hp]
        rw [e2]
      · have hie : i = pre.length := by omega
        subst hie
        have ey : y = x := by
          rw [List.getElem?_append_right (Nat.le_refl _), Nat.sub_self] at hi
          simpa using hi.symm
        subst ey
        rcases hbad with hb | ⟨p, ⟨b, rfl, hb⟩, ho, hf⟩
        · exact ⟨_, rfl, _, rfl, .inr ⟨hb.same s2, fun H3 s3 => ⟨(by show 1 ≤ sizeLine; decide), q _ (s2.trans s3)⟩⟩⟩
        · refine ⟨_, rfl, _, rfl, .inl ⟨p, ⟨b, rfl, s2 _ _ hb⟩, ho, fun H3 s3 => ?_⟩⟩
          refine ⟨_, rfl, .inr (.inl ⟨_, _, _, _, rfl, rfl, SqT.of (s3 _ _ (s2 _ _ hb)), rfl, _, rfl, p.word, _, rfl, ?_⟩)⟩
          show (fun c H1 => if (!c) = true then _ else _) (mayFollow p.word (aheadAt "" ps pre.length)) H3
          rw [hlen, hf]
          exact ⟨(by show 1 ≤ sizeLine; decide), q _ (s2.trans s3)⟩
    · rintro σ H2 ⟨hle, _⟩
      simp at hle
      omega
def spSizesB (C : Addr) : Sp := spNeedB C
theorem rd_sizesB {K : PySem.W.Frag} {C : Addr} (vs : List V) (H : Hp) (Q : VK) (E : XK) (h : spSizesB C vs H Q E) : rdSs (rcx K [("need_change", spNeedB C), ("part_size", spSize)] [] (E := E)) b_sizes (Dn Q) (start N_sizes vs) H := by
  obtain ⟨v, rfl, hn, q⟩ := h
  exact ⟨_, rfl, v, rfl, hn, q⟩
/-! ### done, refused -/
def spOr (a b : Sp) : Sp := fun vs H Q E => a vs H Q E ∨ b vs H Q E
end L2.B
set_option maxRecDepth 100000
set_option maxHeartbeats 4000000
namespace L2.B
open PySem PySem.Spec PyProof.Rows
/-! ### the word of a refusal -/
structure Kits (K : PySem.W.Frag) (cs : List Addr) (ink : Addr) (D : Addr) (j : Nat) : Prop where
  cls : ExcCls K D
  kit : ∀ i c, cs[i]? = some c → PySem.W.kitOne K (.ref D) (.ref c) = some (decide (i = j))
  ink : PySem.W.kitOne K (.ref D) (.ref ink) = some true
  val : PySem.W.kitOne K (.ref D) (.type "ValueError") = some true
def wordN : List Str := ["text", "change", "fit", "place", "side", "mark", "node", "cursor", "deed", "letter", "gone", "hand", "note"]
abbrev gW (c0 c1 c2 c3 c4 c5 c6 c7 c8 c9 c10 c11 c12 ink : Addr) : List (Str × V) :=
  [("BadText", .ref c0), ("BadChange", .ref c1), ("BadFit", .ref c2), ("NoPlace", .ref c3), ("BadSide", .ref c4), ("NoMark", .ref c5), ("NoNode", .ref c6), ("NoCursor", .ref c7), ("BadDeed", .ref c8), ("BadLetter", .ref c9), ("NoLetter", .ref c10), ("NoHand", .ref c11), ("NoNote", .ref c12), ("InkError", .ref ink)]
def spWordL (K : PySem.W.Frag) (cs : List Addr) (ink : Addr) : Sp := fun vs H Q E => ∃ ea D j, vs = [.ref ea] ∧ ExcAt H ea D ∧ Kits K cs ink D j ∧ j < 13 ∧ ∀ H', Same H H' → Q (.str (wordN.getD j "")) H'
theorem _root_.L2.ExcAt.same {H H' : Hp} {ea D : Addr} (h : ExcAt H ea D) (s : Same H H') : ExcAt H' ea D := ExcAt.keeps h fun b o u e => s b _ e
def ItV (H : Hp) (v : V) (p : Str × Bool) : Prop := ∃ t, v = .ref t ∧ H t = some (.tup [.str p.1, .bl p.2])
theorem ItV.mono {H H' : Hp} {v : V} {p : Str × Bool} (h : ItV H v p) (s : Same H H') : ItV H' v p := by
  obtain ⟨t, e, h⟩ := h
  exact ⟨t, e, s _ _ h⟩
theorem ItsV.mono {H H' : Hp} (s : Same H H') : ∀ {vs : List V} {ps : List (Str × Bool)}, Paired (ItV H) vs ps → Paired (ItV H') vs ps
  | _, _, .nil => .nil
  | _, _, .cons h r => .cons (h.mono s) (ItsV.mono s r)
theorem ItsV.get {H : Hp} : ∀ {vs : List V} {ps : List (Str × Bool)} {i : Nat} {v : V}, Paired (ItV H) vs ps → vs[i]? = some v → ∃ p, ps[i]? = some p ∧ ItV H v p
  | _, _, i, v, .nil, e => by simp at e
  | _, _, 0, v, .cons h r, e => by simp at e; subst e; exact ⟨_, rfl, h⟩
  | _, _, i + 1, v, .cons h r, e => by
    obtain ⟨p, a, b⟩ := ItsV.get (i := i) r (by simpa using e)
    exact ⟨p, by simpa using a, b⟩
theorem Paired.app {α β : Type} {R : α → β → Prop} : ∀ {xs xs' : List α} {ys ys' : List β}, Paired R xs ys → Paired R xs' ys' → Paired R (xs ++ xs') (ys ++ ys')
  | _, _, _, _, .nil, s => s
  | _, _, _, _, .cons r t, s => .cons r (Paired.app t s)
section
variable {Γ : RCx} {cs : List Addr} {ink ea D : Addr} {j : Nat}
theorem rd_items (hk : Kits Γ.K cs ink D j) (hg : ∀ i c, cs[i]? = some c → Γ.gv i = .ref c) : ∀ (ws : List (Str × Nat)) (σ : St) (H : Hp) (Q : List V → Hp → Prop), (∀ p ∈ ws, p.2 < cs.length) → σ[0]? = some (some (.ref ea)) → ExcAt H ea D →
    (∀ vs H', Same H H' → Paired (ItV H') vs (ws.map fun p => (p.1, decide (p.2 = j))) → Q vs H') → rdA Γ (ws.map fun p => .tup [(.c (.str p.1)), (.isx (.v 0) (.g p.2))]) σ H Q
  | [], σ, H, Q, _, _, _, q => q [] H (Same.refl _) .nil
  | (w, i) :: ws, σ, H, Q, hl, h0, he, q => by
    have hi : i < cs.length := hl (w, i) (.head _)
    have hc : cs[i]? = some cs[i] := by simp [hi]
    have key : ∀ k : VK, rIsx Γ.K [.ref ea, .ref cs[i]] H k → rIsx Γ.K [.ref ea, Γ.gv i] H k := by
      intro k; rw [hg i _ hc]; exact id
    refine r_cons (r_tup (r_cons (r_c (r_cons (r_isx (r_v h0 (r_g (key _ ⟨D, _, he, hk.cls, .inl ⟨_, rfl⟩, hk.kit i _ hc, r_nil ⟨(by show 2 ≤ sizeLine; decide), fun t ht => ?_⟩⟩))))))))
    have s1 := sameNew (o := .tup [.str w, .bl (decide (i = j))]) ht
    refine rd_items hk hg ws σ _ _ (fun p hp => hl p (.tail _ hp)) h0 (he.same s1) fun vs H' s2 hp => ?_
    exact q (.ref t :: vs) H' (s1.trans s2) (.cons ⟨t, rfl, s2 _ _ upd_same⟩ hp)
theorem rd_more (hk : Kits Γ.K cs ink D j) (hg : ∀ i c, cs[i]? = some c → Γ.gv i = .ref c) (ws : List (Str × Nat)) {l : Addr} {xs : List V} {ps : List (Str × Bool)} {H : Hp} {r : List RS} {E : Ends} (hl : ∀ p ∈ ws, p.2 < cs.length) (he : ExcAt H ea D) (h1 : H l = some (.lst xs))
    (hp : Paired (ItV H) xs ps) (hn : xs.length + ws.length ≤ 1000) (q : ∀ l' xs' H', Same H H' → H' l' = some (.lst xs') → Paired (ItV H') xs' (ps ++ ws.map fun p => (p.1, decide (p.2 = j))) → rdSs Γ r E [some (.ref ea), some (.ref l'), none] H') :
    rdSs Γ (.asg 1 (.bin .Add (.v 1) (.lst (ws.map fun p => .tup [(.c (.str p.1)), (.isx (.v 0) (.g p.2))]))) :: r) E [some (.ref ea), some (.ref l), none] H := by
  refine ⟨_, rfl, rd_items hk hg ws _ H _ hl rfl he fun vs H1 s1 hv => ⟨?_, fun d hd => ?_⟩⟩
  · have := Paired.length hv
    rw [List.length_map] at this
    exact le_line (by omega)
  · have e1 : upd H1 d (.lst vs) l = some (.lst xs) := by rw [upd_ne (ne_of_none (s1 _ _ h1) hd)]; exact s1 _ _ h1
    have hvl := Paired.length hv
    rw [List.length_map] at hvl
    refine .inl ⟨l, d, xs, vs, rfl, rfl, e1, upd_same, le_line (by omega), fun e he' => ?_⟩
    have s2 := (sameNew (o := .lst vs) hd).trans (sameNew (o := .lst (xs ++ vs)) he')
    exact q e (xs ++ vs) _ (s1.trans s2) upd_same (Paired.app (ItsV.mono (s1.trans s2) hp) (ItsV.mono s2 hv))
end
theorem words_pick (j : Nat) (hj : j < 13) : (((wordN.zipIdx).map fun p => (p.1, decide (p.2 = j))).filter (·.2)).map (·.1) = [wordN.getD j ""] ∧ (wordN.getD j "").length ≤ 10 := by
  match j, hj with
  | 0, _ | 1, _ | 2, _ | 3, _ | 4, _ | 5, _ | 6, _ | 7, _ | 8, _ | 9, _ | 10, _ | 11, _ | 12, _ => exact ⟨rfl, by decide +kernel⟩
theorem rd_lst {Γ : RCx} {as : List RE} {σ : St} {H : Hp} {Q : VK} (h : rdA Γ as σ H fun xs H1 => xs.length ≤ sizeLine ∧ ∀ p, H1 p = none → Q (.ref p) (upd H1 p (.lst xs))) : rdE Γ (.lst as) σ H Q := h
theorem join_one (sep x : Str) : Txt.join sep [x] = x := str_ext rfl
theorem take_fm {α β : Type} (p : α → Bool) (f : α → β) (l : List α) (i : Nat) (v : α) (h : l[i]? = some v) : ((l.take (i + 1)).filter p).map f = ((l.take i).filter p).map f ++ (if p v then [f v] else []) := by
  rw [take_filter_snoc p l i v h, List.map_append]
  cases p v <;> rfl
theorem rd_isx {Γ : RCx} {i g : Nat} {ea D C : Addr} {b : Bool} {σ : St} {H : Hp} {Q : Bool → Hp → Prop} (h0 : σ[i]? = some (some (.ref ea))) (he : ExcAt H ea D) (hc : ExcCls Γ.K D) (hg : Γ.gv g = .ref C) (hk : PySem.W.kitOne Γ.K (.ref D) (.ref C) = some b) (q : Q b H) : rdT Γ (.isx (.v i) (.g g)) σ H Q := by
  have key : ∀ k : VK, rIsx Γ.K [.ref ea, .ref C] H k → rIsx Γ.K [.ref ea, Γ.gv g] H k := by
    intro k; rw [hg]; exact id
  exact r_isxT (r_v h0 (r_g (key _ ⟨D, b, he, hc, .inl ⟨_, rfl⟩, hk, q⟩)))
theorem rd_isxT {Γ : RCx} {i : Nat} {ea D : Addr} {n : String} {b : Bool} {σ : St} {H : Hp} {Q : Bool → Hp → Prop} (h0 : σ[i]? = some (some (.ref ea))) (he : ExcAt H ea D) (hc : ExcCls Γ.K D) (hk : PySem.W.kitOne Γ.K (.ref D) (.type n) = some b) (q : Q b H) : rdT Γ (.isx (.v i) (.c (.ty n))) σ H Q :=
  r_isxT (r_v h0 (r_c ⟨D, b, he, hc, .inr ⟨_, rfl⟩, hk, q⟩))
theorem rd_wordG {Γ : RCx} {cs : List Addr} {ink ea D : Addr} {j : Nat} {H : Hp} {Q : VK} (hl : cs.length = 13) (hg : ∀ i c, cs[i]? = some c → Γ.gv i = .ref c) (hi : Γ.gv 13 = .ref ink) (he : ExcAt H ea D) (hk : Kits Γ.K cs ink D j) (hj : j < 13) (q : ∀ H', Same H H' → Q (.str (wordN.getD j "")) H') :
    rdSs Γ b_wordL (Dn Q) [some (.ref ea), none, none] H := by
  refine rd_asg (rd_lst (rd_items hk hg [("text", 0), ("change", 1), ("fit", 2)] _ H _ (by rw [hl]; decide) rfl he fun vs H1 s1 hv => ⟨?_, fun d hd => ?_⟩))
  · have := Paired.length hv
    exact le_line (by rw [this]; simp)
  have s2 := s1.trans (sameNew (o := .lst vs) hd)
  have hv2 := ItsV.mono (sameNew (o := .lst vs) hd) hv
  have hvl := Paired.length hv
  refine rd_more hk hg [("place", 3), ("side", 4), ("mark", 5)] (by rw [hl]; decide) (he.same s2) upd_same hv2 (by rw [hvl]; simp) fun l3 xs3 H3 s3 h3 hv3 => ?_
  have hvl3 := Paired.length hv3
  refine rd_more hk hg [("node", 6), ("cursor", 7)] (by rw [hl]; decide) ((he.same s2).same s3) h3 hv3 (by rw [hvl3]; simp) fun l4 xs4 H4 s4 h4 hv4 => ?_
  have hvl4 := Paired.length hv4
  refine rd_more hk hg [("deed", 8), ("letter", 9)] (by rw [hl]; decide) (((he.same s2).same s3).same s4) h4 hv4 (by rw [hvl4]; simp) fun l5 xs5 H5 s5 h5 hv5 => ?_
  have hvl5 := Paired.length hv5
  refine rd_more hk hg [("gone", 10), ("hand", 11), ("note", 12)] (by rw [hl]; decide) ((((he.same s2).same s3).same s4).same s5) h5 hv5 (by rw [hvl5]; simp) fun l6 xs6 H6 s6 h6 hv6 => ?_
  have hv7 : Paired (ItV H6) xs6 ((wordN.zipIdx).map fun p => (p.1, decide (p.2 = j))) := hv6
  obtain ⟨pick, plen⟩ := words_pick j hj
  have hitl : ((wordN.zipIdx).map fun p => (p.1, decide (p.2 = j))).length = 13 := by rw [List.length_map]; rfl
  generalize ((wordN.zipIdx).map fun p => (p.1, decide (p.2 = j))) = its at hv7 pick hitl
  have hxl := Paired.length hv7
  have he6 := ((((he.same s2).same s3).same s4).same s5).same s6
  have s06 := (((s2.trans s3).trans s4).trans s5).trans s6
  clear hv6 hv5 hv4 hv3 hv2 hv hvl hvl3 hvl4 hvl5
  refine rd_asgC ⟨_, rfl, l6, rfl, ⟨_, SqL.of h6⟩, fun i m ys H7 => m = xs6.length - i ∧ i ≤ xs6.length ∧ H7 = H6 ∧ ys = (((its.take i).filter (·.2)).map (·.1)).map V.str, ⟨_, rfl, Nat.zero_le _, rfl, rfl⟩, ?_⟩
  rintro i m ys H7 ⟨rfl, hi', rfl, rfl⟩
  by_cases hlt : i < xs6.length
  · refine .inr ⟨⟨xs6, xs6[i], SqL.of h6, by simp [hlt]⟩, ?_⟩
    rintro x H8 ⟨rfl, hx⟩
    obtain ⟨⟨w, b⟩, hp, t, rfl, ht⟩ := ItsV.get hv7 (hx xs6 (SqL.of h6))
    have tf := take_fm (·.2) (·.1) its i _ hp
    refine ⟨t, _, rfl, SqT.of ht, rfl, _, rfl, ?_⟩
    show if b = true then _ else _
    cases b with
    | true =>
      refine iteT ⟨_, rfl, ?_, xs6.length - (i + 1), by omega, rfl, hlt, rfl, ?_⟩
      · rw [List.length_map, List.length_map]
        have := List.length_filter_le (·.2) (its.take i)
        have := List.length_take_le i its
        exact lt_line (by omega)
      · rw [tf]; simp
    | false =>
      refine iteF ⟨xs6.length - (i + 1), by omega, rfl, hlt, rfl, ?_⟩
      rw [tf]; simp
  · have hie : i = xs6.length := by omega
    subst hie
    refine .inl ⟨⟨xs6, SqL.of h6, Nat.le_refl _⟩, fun p hp => ?_⟩
    rw [hxl, show its.take its.length = its from List.take_length .., pick]
    have s7 := sameNew (o := .lst (List.map V.str [wordN.getD j ""])) hp
    have he7 := he6.same s7
    refine rd_ite (rd_isx rfl he7 hk.cls hi hk.ink (rd_isxT rfl he7 hk.cls hk.val ?_))
    refine ⟨rfl, _, rfl, [wordN.getD j ""], SqL.of upd_same, ?_, ?_⟩
    · unfold JoinOk
      show (!decide (0 + (wordN.getD j "").length + (Str.ofString "/").length > sizeLine)) = true
      rw [decide_eq_false]; rfl
      have : (Str.ofString "/").length = 1 := rfl
      have : (1000 : Nat) ≤ sizeLine := by decide
      omega
    · rw [join_one]
      exact q _ (s06.trans s7)
theorem rd_wordL {K : PySem.W.Frag} {c0 c1 c2 c3 c4 c5 c6 c7 c8 c9 c10 c11 c12 ink : Addr} (vs : List V) (H : Hp) (Q : VK) (h : spWordL K [c0, c1, c2, c3, c4, c5, c6, c7, c8, c9, c10, c11, c12] ink vs H Q E0) :
    rdSs (rcx K [] (gW c0 c1 c2 c3 c4 c5 c6 c7 c8 c9 c10 c11 c12 ink)) b_wordL (Dn Q) (start N_wordL vs) H := by
  obtain ⟨ea, D, j, rfl, he, hk, hj, q⟩ := h
  refine rd_wordG (Γ := rcx K [] (gW c0 c1 c2 c3 c4 c5 c6 c7 c8 c9 c10 c11 c12 ink)) (cs := [c0, c1, c2, c3, c4, c5, c6, c7, c8, c9, c10, c11, c12]) rfl (fun i c hi => ?_) rfl he hk hj q
  have hi' : i < 13 := (List.getElem?_eq_some_iff.mp hi).1
  match i, hi' with
  | 0, _ | 1, _ | 2, _ | 3, _ | 4, _ | 5, _ | 6, _ | 7, _ | 8, _ | 9, _ | 10, _ | 11, _ | 12, _ => exact congrArg V.ref (Option.some.inj hi)
end L2.B
set_option maxRecDepth 100000
set_option maxHeartbeats 4000000
namespace L2.B
open PySem PySem.Spec PyProof.Rows
theorem isi_dct {H : Hp} {a : Addr} {xs : List (Key × V)} {T : Ty} {k : Bool → Prop} (h : H a = some (.dK xs)) (q : k (T == .dict)) : isiV T (.ref a) H k := by
  show (match H a with | some (.lst _) => k (T == .list) | some (.frz _ (.lst _)) => k (T == .list) | some (.tup _) => k (T == .tuple) | some (.dK _) => k (T == .dict) | some (.dT _) => k (T == .dict) | _ => False)
  rw [h]; exact q
theorem Run.good {l r : List Nat} {ps : List Pt} (h : Run l ps r) (hl : ∀ c ∈ l, SG.cps.contains c = true) (hp : ∀ p ∈ ps, sOk p) : ∀ c ∈ r, SG.cps.contains c = true := by
  induction h with
  | nil => exact hl
  | keep e _ ih =>
    intro c hc
    rcases List.mem_append.mp hc with z | z
    · exact hl c (List.mem_append.mpr (.inl z))
    · exact ih (fun d hd => hl d (List.mem_append.mpr (.inr hd))) (fun p h => hp p (.tail _ h)) c z
  | put _ ih =>
    intro c hc
    rcases List.mem_append.mp hc with z | z
    · exact (hp _ (.head _) : sg _) c z
    · exact ih hl (fun p h => hp p (.tail _ h)) c z
  | cut _ ih => exact ih (fun d hd => hl d (List.mem_append.mpr (.inr hd))) (fun p h => hp p (.tail _ h))
theorem Run.len {l r : List Nat} {ps : List Pt} (h : Run l ps r) : r.length ≤ l.length + tot ps := by
  induction h with
  | nil => simp
  | @keep a l r n ps e _ ih =>
    have : tot (.keep n :: ps) = 0 + tot ps := by simp [tot, tlen]
    simp only [List.length_append]; omega
  | @put s l r ps _ ih =>
    have : tot (.put s :: ps) = s.length + tot ps := by simp [tot, tlen]
    have e := len_list s
    simp only [List.length_append]; omega
  | @cut s l r ps _ ih =>
    have : tot (.cut s :: ps) = s.length + tot ps := by simp [tot, tlen]
    simp only [List.length_append]; omega
/-! ### slices -/
theorem good_cut {x : Str} (h : good x) (lo hi : Option Int) : good (cutS x lo hi) ∧ (cutS x lo hi).length ≤ x.length := by
  have e : (cutS x lo hi).cps.toList = cutL x.cps.toList lo hi := rfl
  have hl : (cutS x lo hi).length ≤ x.length := by
    rw [len_list, e, len_list]
    unfold cutL
    exact Nat.le_trans (List.length_take_le' _ _) (by rw [List.length_drop]; omega)
  refine ⟨⟨Nat.le_trans hl h.1, fun c hc => ?_⟩, hl⟩
  rw [e] at hc
  exact h.2 c (List.mem_of_mem_drop (List.mem_of_mem_take hc))
/-! ### the law's own going along -/
end L2.B
set_option maxRecDepth 100000
set_option maxHeartbeats 4000000
namespace L2.B
open PySem PySem.Spec PyProof.Rows
/-! ### parts cut in two -/
theorem len_mk (l : List Nat) : (⟨l.toArray⟩ : Str).length = l.length := by rw [len_list]
/-! ### a walk -/
end L2.B
namespace L2.B
end L2.B
set_option maxRecDepth 100000
set_option maxHeartbeats 4000000
namespace L2
open PySem PySem.Spec PyProof.Rows
section
variable {Γ : RCx} {D : Ends} {σ : St} {H : Hp} {r : List RS} {Q : VK} {QA : List V → Hp → Prop} {QT : Bool → Hp → Prop}
theorem r_ite {c : RE} {t e : List RS} (h : rdT Γ c σ H fun b H1 => if b = true then rdSs Γ t { D with nx := rdSs Γ r D } σ H1 else rdSs Γ e { D with nx := rdSs Γ r D } σ H1) : rdSs Γ (.ite c t e :: r) D σ H := h
theorem r_cmpT {op : CmpOp} {a b : RE} (h : rdE Γ a σ H fun x H1 => rdE Γ b σ H1 fun y H2 => rCmp Γ.K op x y H2 fun z H3 => ∃ k, z = .bl k ∧ QT k H3) : rdT Γ (.cmp op a b) σ H QT := h
theorem ce_str {K : PySem.W.Frag} {x y : Str} {Q : VK} (q : Q (.bl (x == y)) H) : rCmp K .Eq (.str x) (.str y) H Q := by
  show Q (.bl (false ^^ decide (V.str x = V.str y))) H
  rw [Bool.false_xor, dec_str]; exact q
theorem cn_str {K : PySem.W.Frag} {x y : Str} {Q : VK} (q : Q (.bl (x != y)) H) : rCmp K .NotEq (.str x) (.str y) H Q := by
  show Q (.bl (true ^^ decide (V.str x = V.str y))) H
  rw [Bool.true_xor, dec_str]; exact q
end
end L2
namespace L2.B
open PySem PySem.Spec PyProof.Rows
/-! ### cut_behind -/
end L2.B
set_option maxRecDepth 100000
namespace L2.B
open PySem PySem.Spec PyProof.Rows
section
variable {Γ : RCx} {σ : St} {H : Hp} {Q : VK} {QT : Bool → Hp → Prop} {K : PySem.W.Frag}
theorem r_orC {a b : RE} {r : List RE} (h : rdT Γ a σ H fun c H1 => if c = true then QT true H1 else rdT Γ (.or (b :: r)) σ H1 QT) : rdT Γ (.or (a :: b :: r)) σ H QT := h
theorem r_or1 {a : RE} (h : rdT Γ a σ H QT) : rdT Γ (.or [a]) σ H QT := h
theorem r_andC {a b : RE} {r : List RE} (h : rdT Γ a σ H fun c H1 => if c = true then rdT Γ (.and (b :: r)) σ H1 QT else QT false H1) : rdT Γ (.and (a :: b :: r)) σ H QT := h
theorem r_and1 {a : RE} (h : rdT Γ a σ H QT) : rdT Γ (.and [a]) σ H QT := h
theorem r_isiT {T : Ty} {a : RE} (h : rdE Γ a σ H fun x H1 => isiV T x H1 fun b => QT b H1) : rdT Γ (.isi T a) σ H QT := by
  show tTru Γ.K (tCB (rIsi T) (tCons (rdE Γ a) (tCons (tC (.ty T.nm)) tNil))) σ H QT
  have e : ∀ (q : VK), (fun (x : V) (H1 : Hp) => isiV T x H1 fun b => q (.bl b) H1) = fun x H1 => rIsi T [x, .ty T.nm] H1 q := by
    intro q; funext x H1; simp [rIsi]
  show rdE Γ a σ H fun x H1 => rIsi T [x, .ty T.nm] H1 fun v H2 => tru Γ.K v H2 fun b => QT b H2
  rw [← e]; exact h
theorem ixt {sd : Addr → List (Key × V) → Prop} {a : Addr} {xs : List V} {i : Int} {v : V} (h : H a = some (.tup xs)) (e : atI xs i = some v) (q : Q v H) : rIx2 K sd (.ref a) (.int i) H Q :=
  .inr (.inl ⟨_, _, _, _, rfl, rfl, SqT.of h, e, q⟩)
theorem ceB {x y : Int} (q : ∀ b, Q (.bl b) H) : rCmp K .Eq (.int x) (.int y) H Q := q _
theorem ceI {x y : Int} (q : Q (.bl (decide (x = y))) H) : rCmp K .Eq (.int x) (.int y) H Q := by
  show Q (.bl (false ^^ decide (V.int x = V.int y))) H
  rw [Bool.false_xor, show decide (V.int x = V.int y) = decide (x = y) from decide_eq_decide.mpr ⟨fun z => by injection z, fun z => by rw [z]⟩]; exact q
theorem cnI {x y : Int} (q : Q (.bl (!decide (x = y))) H) : rCmp K .NotEq (.int x) (.int y) H Q := by
  show Q (.bl (true ^^ decide (V.int x = V.int y))) H
  rw [Bool.true_xor, show decide (V.int x = V.int y) = decide (x = y) from decide_eq_decide.mpr ⟨fun z => by injection z, fun z => by rw [z]⟩]; exact q
theorem cnS {x : Str} (q : Q (.bl false) H) : rCmp K .NotEq (.str x) (.str x) H Q := by
  refine cn_str ?_
  rw [show (x != x) = false by simp]; exact q
theorem ltI {x y : Int} (q : Q (.bl (decide (x < y))) H) : rCmp K .Lt (.int x) (.int y) H Q := ⟨trivial, q⟩
theorem gtI {x y : Int} (q : Q (.bl (decide (y < x))) H) : rCmp K .Gt (.int x) (.int y) H Q := ⟨trivial, q⟩
theorem addI' {i j : Int} (h : Q (.int (i + j)) H) : rBin K .Add (.int i) (.int j) H Q := h
theorem r_dct (h : ∀ p, H p = none → Q (.ref p) (upd H p (.dK []))) : rdE Γ .dct σ H Q := h
theorem pick {its : List V} {j : Int} (h0 : 0 ≤ j) (h1 : j < its.length) : ∃ v ∈ its, atI its j = some v := by
  have hjl : j.toNat < its.length := by omega
  refine ⟨its[j.toNat], List.getElem_mem hjl, ?_⟩
  have e := atI_nat (xs := its) (j := j.toNat) (v := its[j.toNat]) (by simp [hjl])
  rw [show ((j.toNat : Nat) : Int) = j by omega] at e
  exact e
end
end L2.B
namespace L2.B
/-! ### rising rows -/
end L2.B
namespace L2.B
open PySem PySem.StrLaws
/-! ### one sign, where it stands -/
def pos (c : Nat) : List Nat → Nat → List Nat
  | [], _ => []
  | d :: r, k => if d = c then k :: pos c r (k + 1) else pos c r (k + 1)
theorem occ1 (x y : Str) (hy : y.length = 1) (hi lim : Nat) : ∀ (n lo : Nat) (acc : Array Nat) (free : Nat), free ≤ lo →
    ((forIn (List.range' lo n) (acc, free) (occBody x y hi lim)).run.fst.toList = acc.toList ++ ((List.range' lo n).filter fun i => decide (i + 1 ≤ hi) && Builtin.Str.subAt x y i).take (lim - acc.size))
  | 0, lo, acc, free, hf => by simp
  | n + 1, lo, acc, free, hf => by
    rw [List.range'_succ, List.forIn_cons]
    unfold occBody
    rw [hy]
    by_cases hp : lo + 1 ≤ hi ∧ Builtin.Str.subAt x y lo = true
    · have e : (decide (lo + 1 ≤ hi) && Builtin.Str.subAt x y lo) = true := by simp [hp.1, hp.2]
      by_cases hs : acc.size < lim
      · rw [if_pos ⟨⟨⟨hs, hf⟩, hp.1⟩, hp.2⟩]
        have ih := occ1 x y hy hi lim n (lo + 1) (acc.push lo) (lo + 1) (Nat.le_refl _)
        unfold occBody at ih
        rw [hy] at ih
        refine Eq.trans ih ?_
        rw [List.filter_cons_of_pos (by exact e)]
        have e2 : lim - acc.size = (lim - (acc.push lo).size) + 1 := by rw [Array.size_push]; omega
        rw [e2, List.take_succ_cons]
        simp
      · rw [if_neg (fun z => hs z.1.1.1)]
        have ih := occ1 x y hy hi lim n (lo + 1) acc free (by omega)
        unfold occBody at ih
        rw [hy] at ih
        refine Eq.trans ih ?_
        have e2 : lim - acc.size = 0 := by omega
        rw [e2]; simp
    · rw [if_neg (fun z => hp ⟨z.1.2, z.2⟩)]
      have e : ¬ (decide (lo + 1 ≤ hi) && Builtin.Str.subAt x y lo) = true := by
        intro z
        simp only [Bool.and_eq_true, decide_eq_true_eq] at z
        exact hp z
      have ih := occ1 x y hy hi lim n (lo + 1) acc free (by omega)
      unfold occBody at ih
      rw [hy] at ih
      refine Eq.trans ih ?_
      rw [List.filter_cons_of_neg (by exact e)]
theorem sub1 (x : Str) (c i : Nat) : Builtin.Str.subAt x ⟨#[c]⟩ i = decide (x.cps[i]? = some c) := by
  unfold Builtin.Str.subAt
  have e : (⟨#[c]⟩ : Str).length = 1 := rfl
  rw [e, show (⟨#[c]⟩ : Str).cps = #[c] from rfl]
  by_cases h : i < x.cps.size
  · have e2 : x.cps.extract i (i + 1) = #[x.cps[i]] := by
      apply Array.ext
      · simp; omega
      · intro j h1 h2
        simp at h1 h2 ⊢
        have : j = 0 := by omega
        subst this; rfl
    rw [e2, Array.getElem?_eq_getElem h]
    by_cases q : x.cps[i] = c
    · subst q; simp
    · have : ¬ (#[x.cps[i]] = #[c]) := fun z => q (by injection z with z; injection z)
      simp [q]
  · have e2 : x.cps.extract i (i + 1) = #[] := by
      apply Array.eq_empty_of_size_eq_zero
      simp; omega
    rw [e2, Array.getElem?_eq_none (by omega)]
    simp
theorem filter_pos (c : Nat) : ∀ (l : List Nat) (k : Nat) (p : Nat → Bool), (∀ i, i < l.length → p (k + i) = decide (l[i]? = some c)) → (List.range' k l.length).filter p = pos c l k
  | [], k, p, h => rfl
  | d :: r, k, p, h => by
    rw [List.length_cons, List.range'_succ]
    have h0 : p k = decide (d = c) := by
      have := h 0 (Nat.zero_lt_succ _)
      simpa using this
    have ih := filter_pos c r (k + 1) p fun i hi => by
      have := h (i + 1) (Nat.succ_lt_succ hi)
      rw [show k + 1 + i = k + (i + 1) by omega, this]; simp
    by_cases e : d = c
    · rw [List.filter_cons_of_pos (by rw [h0]; simpa using e), ih, pos, if_pos e]
    · rw [List.filter_cons_of_neg (by rw [h0]; simpa using e), ih, pos, if_neg e]
theorem occ_pos (x : Str) (c lo lim : Nat) (hl : lo ≤ x.length) : Builtin.Str.occurrences x ⟨#[c]⟩ lo x.length lim = (pos c (x.cps.toList.drop lo) lo).take lim := by
  have hx : x.cps.toList.length = x.length := by simp [Str.length]
  rw [occ_eq, occ1 x _ rfl x.length lim _ lo #[] lo (Nat.le_refl _)]
  simp only [List.nil_append, Array.size_empty, Nat.sub_zero]
  congr 1
  have e : x.length + 1 - lo = (x.cps.toList.drop lo).length + 1 := by rw [List.length_drop, hx]; omega
  rw [e, List.range'_concat, List.filter_append]
  rw [filter_pos c (x.cps.toList.drop lo) lo]
  · have : ¬ (lo + 1 * (x.cps.toList.drop lo).length + 1 ≤ x.length) := by rw [List.length_drop, hx]; omega
    rw [List.filter_cons_of_neg (by rw [decide_eq_false this]; simp)]
    simp
  · intro i hi
    rw [sub1]
    rw [List.length_drop, hx] at hi
    rw [decide_eq_true (show lo + i + 1 ≤ x.length by omega), Bool.true_and, List.getElem?_drop, Array.getElem?_toList]
end L2.B
set_option maxRecDepth 100000
set_option maxHeartbeats 4000000
namespace L2
open PySem PySem.Spec PyProof.Rows
theorem am_nil {α : Type _} {p : α → Prop} : ∀ x ∈ ([] : List α), p x := fun _ h => nomatch h
theorem am_cons {α : Type _} {p : α → Prop} {a : α} {l : List α} (h : p a) (t : ∀ x ∈ l, p x) : ∀ x ∈ a :: l, p x := List.forall_mem_cons.2 ⟨h, t⟩
/-- the entries of a module's dict whose keys are texts -/
inductive SPs (w : World) : List DictEntry → List (Key × V) → List (Key × Value) → Prop
  | nil : SPs w [] [] []
  | cons {x : Str} {t : Tok} {v : V} {u : Value} {es : List DictEntry} {kvs : List (Key × V)} {vs : List (Key × Value)} : RelV v u → SPs w es kvs vs →
      SPs w (⟨PyData.keyHash w.params x, .str x t, u⟩ :: es) ((.inr x, v) :: kvs) ((.inr x, u) :: vs)
section
variable {P : Program} {w : World} {K : PySem.W.Frag}
theorem SPs.kv {es : List DictEntry} {kvs : List (Key × V)} {vs : List (Key × Value)} (h : SPs w es kvs vs) : KV kvs vs := by
  induction h with
  | nil => exact .nil
  | cons r _ ih => exact .cons ⟨rfl, r⟩ ih
theorem SPs.pairs {es : List DictEntry} {kvs : List (Key × V)} {vs : List (Key × Value)} (h : SPs w es kvs vs) : Pairs (mixKind P w) es vs := by
  induction h with
  | nil => exact .nil
  | cons r _ ih => exact .cons (mixKind_str P w _ _) rfl ih
theorem SPs.keys {es : List DictEntry} {kvs : List (Key × V)} {vs : List (Key × Value)} (h : SPs w es kvs vs) : ∀ e ∈ es, ∃ k, (mixKind P w).is k e.key = true ∧ e.hash = (mixKind P w).hash k := by
  induction h with
  | nil => intro e he; cases he
  | @cons x t v u es kvs vs r _ ih =>
    intro e he
    rcases List.mem_cons.mp he with rfl | he
    · exact ⟨.inr x, mixKind_str P w _ _, rfl⟩
    · exact ih e he
theorem SPs.same {es : List DictEntry} {kvs : List (Key × V)} {vs : List (Key × Value)} (h : SPs w es kvs vs) : vs.map (·.1) = kvs.map (·.1) := by
  induction h with
  | nil => rfl
  | cons r _ ih => simp only [List.map_cons, ih]
theorem dk_mk {p : Addr} {es : Array DictEntry} {n : Nat} {kvs : List (Key × V)} {vs : List (Key × Value)} (hl : K.lookup p = some ⟨.type "dict", none, .dict es n, #[]⟩) (hk : SPs w es.toList kvs vs) (nd : (kvs.map (·.1)).Nodup) : DkT P w K (p, kvs) := fun h X =>
  ⟨vs, hk.kv, _, es, n, X p _ hl, ⟨rfl, rfl, rfl⟩, rfl, (fun e he => hk.keys e (by simpa using he)), hk.pairs, by rw [hk.same]; exact nd⟩
end
end L2
set_option maxRecDepth 100000
set_option maxHeartbeats 4000000
namespace L2
open PySem PySem.Spec PyProof.Rows
section
variable {P : Program} {w : World} {K : PySem.W.Frag} {mg : Str → Option Value} {base : Heap} {k : Nat}
theorem FnOk.or {CX : CXT} {f : Addr} {fd : FuncData} {ps : List Str} {a b : Sp} (A : FnOk P w K mg base CX k f fd ps a) (C : FnOk P w K mg base CX k f fd ps b) : FnOk P w K mg base CX k f fd ps (B.spOr a b) :=
  ⟨fun vs H Q E h => h.elim (A.len vs H Q E) (C.len vs H Q E), fun A' outer s H args us vs Q E hr e0 hb hv hs => hs.elim (A.run A' outer s H args us vs Q E hr e0 hb hv) (C.run A' outer s H args us vs Q E hr e0 hb hv)⟩
theorem FnOk.weak {CX : CXT} {f : Addr} {fd : FuncData} {ps : List Str} {a b : Sp} (A : FnOk P w K mg base CX k f fd ps b) (h : ∀ vs H Q E, a vs H Q E → b vs H Q E) : FnOk P w K mg base CX k f fd ps a :=
  ⟨fun vs H Q E q => A.len vs H Q E (h _ _ _ _ q), fun A' outer s H args us vs Q E hr e0 hb hv hs => A.run A' outer s H args us vs Q E hr e0 hb hv (h _ _ _ _ hs)⟩
theorem FnT.weak {x : Str} {a b : Sp} (T : FnT P w K mg base k x b) (h : ∀ vs H Q E, a vs H Q E → b vs H Q E) : FnT P w K mg base k x a := by
  obtain ⟨f, fd, ps, F, r⟩ := T
  exact ⟨f, fd, ps, F.weak h, r⟩
open PySem.W in
theorem ext_of {x : Str} {C : Addr} (X : K.In base) (G : base.Ns mainGlobals mg) (e : nsIn K mainGlobals x = some (some (.ref C))) (q : excIn K C [.type "ValueError", .type "Exception", .type "BaseException", .type "object"] "ValueError.__new__" = true) : ExT mg base (x, C) := by
  refine ⟨_, _, _, _, ⟨mg_of X G e, ?_⟩, PySem.F.excBase_ValueError⟩
  unfold excIn at q
  split at q
  · rename_i dd cd sl ho
    split at q
    · rename_i C' bm k0 k1 k2 k3 n k5 hm hs
      simp only [Bool.and_eq_true, beq_iff_eq, Bool.not_eq_true'] at q
      obtain ⟨⟨⟨⟨⟨rfl, rfl⟩, hdel⟩, ht⟩, hok⟩, hni⟩ := q
      obtain ⟨nm, bs, mro, ns, qn, hd, sn, sub, ab, col, del⟩ := cd
      dsimp only at hm hdel hok hni
      subst hm hdel
      obtain ⟨sl⟩ := sl
      have hs' : sl = _ := hs
      subst hs'
      exact ⟨bm, ns, nm, qn, bs, hd, sn, sub, ab, col, dd, k0, k1, k2, k3, k5, _, X _ _ ho, .of_isNs (isNs_of_in X hok), nsMap_none_of_in X hok hni, tail_of_in X ht⟩
    · cases q
  · cases q
end
namespace B
theorem kits_of {K : PySem.W.Frag} {D ink c0 c1 c2 c3 c4 c5 c6 c7 c8 c9 c10 c11 c12 : Addr} {b0 b1 b2 b3 b4 b5 b6 b7 b8 b9 b10 b11 b12 : Bool} {j : Nat} (h : ExcCls K D) (hi : PySem.W.kitOne K (.ref D) (.ref ink) = some true) (hv : PySem.W.kitOne K (.ref D) (.type "ValueError") = some true)
    (k0 : PySem.W.kitOne K (.ref D) (.ref c0) = some b0) (k1 : PySem.W.kitOne K (.ref D) (.ref c1) = some b1) (k2 : PySem.W.kitOne K (.ref D) (.ref c2) = some b2) (k3 : PySem.W.kitOne K (.ref D) (.ref c3) = some b3) (k4 : PySem.W.kitOne K (.ref D) (.ref c4) = some b4)
    (k5 : PySem.W.kitOne K (.ref D) (.ref c5) = some b5) (k6 : PySem.W.kitOne K (.ref D) (.ref c6) = some b6) (k7 : PySem.W.kitOne K (.ref D) (.ref c7) = some b7) (k8 : PySem.W.kitOne K (.ref D) (.ref c8) = some b8) (k9 : PySem.W.kitOne K (.ref D) (.ref c9) = some b9)
    (k10 : PySem.W.kitOne K (.ref D) (.ref c10) = some b10) (k11 : PySem.W.kitOne K (.ref D) (.ref c11) = some b11) (k12 : PySem.W.kitOne K (.ref D) (.ref c12) = some b12)
    (e : [b0, b1, b2, b3, b4, b5, b6, b7, b8, b9, b10, b11, b12] = (List.range 13).map fun i => decide (i = j) := by decide) : Kits K [c0, c1, c2, c3, c4, c5, c6, c7, c8, c9, c10, c11, c12] ink D j := by
  refine ⟨h, fun i c hc => ?_, hi, hv⟩
  have hi' : i < 13 := (List.getElem?_eq_some_iff.mp hc).1
  have eb := congrArg (fun l => l[i]?) e
  match i, hi' with
  | 0, _ => cases hc; have eb : some b0 = some (decide (0 = j)) := eb; rw [k0, eb]
  | 1, _ => cases hc; have eb : some b1 = some (decide (1 = j)) := eb; rw [k1, eb]
  | 2, _ => cases hc; have eb : some b2 = some (decide (2 = j)) := eb; rw [k2, eb]
  | 3, _ => cases hc; have eb : some b3 = some (decide (3 = j)) := eb; rw [k3, eb]
  | 4, _ => cases hc; have eb : some b4 = some (decide (4 = j)) := eb; rw [k4, eb]
  | 5, _ => cases hc; have eb : some b5 = some (decide (5 = j)) := eb; rw [k5, eb]
  | 6, _ => cases hc; have eb : some b6 = some (decide (6 = j)) := eb; rw [k6, eb]
  | 7, _ => cases hc; have eb : some b7 = some (decide (7 = j)) := eb; rw [k7, eb]
  | 8, _ => cases hc; have eb : some b8 = some (decide (8 = j)) := eb; rw [k8, eb]
  | 9, _ => cases hc; have eb : some b9 = some (decide (9 = j)) := eb; rw [k9, eb]
  | 10, _ => cases hc; have eb : some b10 = some (decide (10 = j)) := eb; rw [k10, eb]
  | 11, _ => cases hc; have eb : some b11 = some (decide (11 = j)) := eb; rw [k11, eb]
  | 12, _ => cases hc; have eb : some b12 = some (decide (12 = j)) := eb; rw [k12, eb]
end B
end L2
set_option maxRecDepth 100000
set_option maxHeartbeats 4000000
namespace L2.B
open PySem PySem.Spec PyProof.Rows
/-! ### walks, sign by sign -/
/-! ### parts_behind -/
end L2.B
set_option maxRecDepth 100000
set_option maxHeartbeats 4000000
namespace L2.B
open PySem PySem.Spec PyProof.Rows
end L2.B
set_option maxRecDepth 100000
set_option maxHeartbeats 4000000
namespace L2.B
open PySem PySem.Spec PyProof.Rows
/-! ### put_first -/
/-! ### share -/
end L2.B
set_option maxRecDepth 100000
set_option maxHeartbeats 4000000
namespace L2
open PySem PySem.Spec PyProof.Rows
end L2
namespace L2.B
open PySem PySem.Spec PyProof.Rows
end L2.B
namespace L2.B
end L2.B
set_option maxRecDepth 100000
set_option maxHeartbeats 4000000
namespace L2.B
open PySem PySem.Spec PyProof.Rows
/-! ### _law_count -/
end L2.B
set_option maxRecDepth 100000
set_option maxHeartbeats 4000000
namespace L2.B
open PySem PySem.Spec PyProof.Rows
/-- a change, from a text to a text -/
structure Chg (ps : List Pt) (l r : List Nat) : Prop where
  ok : ∀ p ∈ ps, okPt p
  ch : chainOk "" ps = true
  run : Run l ps r
end L2.B
set_option maxRecDepth 100000
set_option maxHeartbeats 4000000
namespace L2.B
open PySem PySem.Spec PyProof.Rows
/-- a change in the heap -/
def ChAt (H : Hp) (b : Addr) (ps : List Pt) (l r : List Nat) : Prop := ∃ xs, H b = some (.lst xs) ∧ PtsV H xs ps ∧ Chg ps l r
section
variable {H : Hp} {Q : VK} {E : XK}
theorem change_of {c m : Int} {x : Str} (hx : good x) (hl : x.length ≤ 10000) (h0 : 0 ≤ m) (h1 : m ≤ 100)
    (q : ∀ (b : Addr) (H' : Hp) (ps : List Pt) (r : List Nat), Same H H' → H b = none → ChAt H' b ps x.cps.toList r → ps.length ≤ 305 → tot ps ≤ 4000 → good ⟨r.toArray⟩ → r.length ≤ x.length + 4000 → Q (.ref b) H') : spChange [.int c, .str x, .int m] H Q E := by
  refine ⟨c, x, m, rfl, hx, hl, h0, h1, fun b H' ys ps r s hb h2 h3 ho hc hl' ht hr => ?_⟩
  have hrl := hr.len
  have := len_list x
  exact q b H' ps r s hb ⟨ys, h2, h3, ho, hc, hr⟩ hl' ht ⟨by rw [len_mk]; omega, hr.good hx.2 fun p hp => ok_s (ho p hp)⟩ (by omega)
end
end L2.B
set_option maxRecDepth 100000
set_option maxHeartbeats 4000000
namespace L2
open PySem PySem.Spec PyProof.Rows
theorem r_asgT {Γ : RCx} {D : Ends} {σ : St} {H : Hp} {r : List RS} {is : List Nat} {e : RE} (h : rdE Γ e σ H fun x H1 => gSeq Γ.K is.length (gNames is) x σ H1 (rdSs Γ r D)) : rdSs Γ (.asgT is e :: r) D σ H := h
end L2
namespace L2.B
open PySem PySem.Spec PyProof.Rows
section
variable {H : Hp} {Q : VK} {E : XK}
end
end L2.B
set_option maxRecDepth 100000
set_option maxHeartbeats 4000000
namespace L2.K01
open PySem PySem.Spec L2.B
/-! ### odd parts -/
def tabIn (s : Str) : Bool := !(Builtin.Str.occurrences s (Str.ofString "\t") 0 s.length 1).isEmpty
def W3 : List V := [.str "keep", .str "cut", .str "put"]
def OddW (w : V) (H : Hp) : Prop := (flatV w = true ∧ inV w W3 = false) ∨ ∃ b, w = .ref b ∧ ((∃ xs, H b = some (.lst xs)) ∨ ∃ kvs, H b = some (.dK kvs))
def OddK (t : V) (H : Hp) : Prop := NotWh t H ∨ ∃ n : Int, t = .int n ∧ n < 1
def OddT (t : V) (H : Hp) : Prop := NotTy .str t H ∨ t = .str "" ∨ ∃ s : Str, t = .str s ∧ s ≠ "" ∧ s.length ≤ 1000 ∧ tabIn s = true ∧ isText s = false
def OddP (v : V) (H : Hp) : Prop := NotTy .tuple v H ∨ ∃ a xs, v = .ref a ∧ H a = some (.tup xs) ∧ xs.length ≤ 10 ∧ (xs.length ≠ 2 ∨ ∃ w t, xs = [w, t] ∧ (OddW w H ∨ (w = .str "keep" ∧ OddK t H) ∨ ((w = .str "cut" ∨ w = .str "put") ∧ OddT t H)))
theorem OddW.same {w : V} {H H' : Hp} (h : OddW w H) (s : Same H H') : OddW w H' := by
  rcases h with h | ⟨b, e, ⟨xs, h⟩ | ⟨k, h⟩⟩
  · exact .inl h
  · exact .inr ⟨b, e, .inl ⟨xs, s _ _ h⟩⟩
  · exact .inr ⟨b, e, .inr ⟨k, s _ _ h⟩⟩
theorem NotWh.same' {v : V} {H H' : Hp} (h : NotWh v H) (s : Same H H') : NotWh v H' := by
  rcases h with h | h
  · exact .inl h
  · exact .inr (h.same s)
theorem OddP.same {v : V} {H H' : Hp} (h : OddP v H) (s : Same H H') : OddP v H' := by
  rcases h with h | ⟨a, xs, rfl, ha, hl, h⟩
  · exact .inl (h.same s)
  · refine .inr ⟨a, xs, rfl, s _ _ ha, hl, ?_⟩
    rcases h with h | ⟨w, t, rfl, h⟩
    · exact .inl h
    · refine .inr ⟨w, t, rfl, ?_⟩
      rcases h with h | ⟨h, h2 | h2⟩ | ⟨h, h2 | h2⟩
      · exact .inl (h.same s)
      · exact .inr (.inl ⟨h, .inl (NotWh.same' h2 s)⟩)
      · exact .inr (.inl ⟨h, .inr h2⟩)
      · exact .inr (.inr ⟨h, .inl (h2.same s)⟩)
      · exact .inr (.inr ⟨h, .inr h2⟩)
theorem w3_no {s : Str} (h : inV (.str s) W3 = false) : s ≠ "keep" ∧ s ≠ "cut" ∧ s ≠ "put" := by
  have z : ((Str.ofString "keep" == s) || ((Str.ofString "cut" == s) || ((Str.ofString "put" == s) || false))) = false := h
  simp only [Bool.or_false, Bool.or_eq_false_iff, beq_eq_false_iff_ne] at z
  exact ⟨fun y => z.1 y.symm, fun y => z.2.1 y.symm, fun y => z.2.2 y.symm⟩
theorem OddP.no {v : V} {H : Hp} (h : OddP v H) : NoPart v H := by
  rcases h with h | ⟨a, xs, rfl, ha, hl, h⟩
  · exact .inl h
  · refine .inr ⟨a, xs, rfl, ha, by omega, ?_⟩
    rcases h with h | ⟨w, t, rfl, h⟩
    · exact .inl h
    · refine .inr ⟨w, t, rfl, ?_⟩
      rcases h with (⟨hf, hi⟩ | ⟨b, rfl, ⟨xs, hb⟩ | ⟨k, hb⟩⟩) | ⟨h, h2⟩ | ⟨h, h2 | rfl | ⟨s, rfl, _, h3, _, h4⟩⟩
      · cases w with
        | str s => exact .inr (.inl ⟨s, rfl, w3_no hi⟩)
        | non => exact .inl rfl
        | bl b => exact .inl rfl
        | int i => exact .inl rfl
        | _ => cases hf
      · exact .inl (isi_lst hb rfl)
      · exact .inl (isi_dct hb rfl)
      · exact .inr (.inr (.inl ⟨h, h2⟩))
      · exact .inr (.inr (.inr ⟨h, .inl (.inr h2)⟩))
      · exact .inr (.inr (.inr ⟨h, .inr rfl⟩))
      · exact .inr (.inr (.inr ⟨h, .inl (.inl ⟨s, rfl, by omega, h4⟩)⟩))
/-- what is no change, as the law sees it -/
def ChOdd (H : Hp) (us : List V) : Prop := ∃ pre x post ps, us = pre ++ x :: post ∧ PtsV H pre ps ∧ (∀ p ∈ ps, okPt p) ∧ chainOk "" ps = true ∧ (OddP x H ∨ ∃ p, PtV H x p ∧ okPt p ∧ mayFollow p.word (aheadAt "" ps ps.length) = false)
theorem ChOdd.bad {H : Hp} {us : List V} (h : ChOdd H us) : ChBad H us := by
  obtain ⟨pre, x, post, ps, e, h1, h2, h3, h4⟩ := h
  exact ⟨pre, x, post, ps, e, h1, h2, h3, h4.imp OddP.no id⟩
theorem ChOdd.same {H H' : Hp} {us : List V} (h : ChOdd H us) (s : Same H H') : ChOdd H' us := by
  obtain ⟨pre, x, post, ps, e, h1, h2, h3, h4⟩ := h
  refine ⟨pre, x, post, ps, e, h1.mono (tupsOf s), h2, h3, ?_⟩
  rcases h4 with h4 | ⟨p, a, b⟩
  · exact .inl (h4.same s)
  · exact .inr ⟨p, a.mono (tupsOf s), b⟩
theorem ahead_end (a : Str) (q : Pt) (r : List Pt) : aheadAt a (q :: r) (q :: r).length = aheadAt q.word r r.length := by
  cases r with
  | nil => rfl
  | cons p r =>
    show (match (q :: p :: r)[(p :: r).length]? with | some p => p.word | none => "") = (match (p :: r)[r.length]? with | some p => p.word | none => "")
    rw [List.length_cons, List.getElem?_cons_succ]
theorem chain_snoc : ∀ (ps : List Pt) (a : Str) (p : Pt), chainOk a (ps ++ [p]) = (chainOk a ps && mayFollow p.word (aheadAt a ps ps.length))
  | [], a, p => by simp [chainOk, aheadAt]
  | q :: r, a, p => by
    show (mayFollow q.word a && chainOk q.word (r ++ [p])) = ((mayFollow q.word a && chainOk q.word r) && _)
    rw [chain_snoc r q.word p, ahead_end, Bool.and_assoc]
theorem first_break (ps : List Pt) (h : chainOk "" ps = false) : ∃ pre p post, ps = pre ++ p :: post ∧ chainOk "" pre = true ∧ mayFollow p.word (aheadAt "" pre pre.length) = false := by
  have go : ∀ n, n ≤ ps.length → chainOk "" (ps.take n) = true ∨ ∃ pre p post, ps = pre ++ p :: post ∧ chainOk "" pre = true ∧ mayFollow p.word (aheadAt "" pre pre.length) = false := by
    intro n
    induction n with
    | zero => intro _; exact .inl rfl
    | succ n ih =>
      intro hn
      rcases ih (by omega) with h1 | h1
      · have hlt : n < ps.length := by omega
        have e : ps.take (n + 1) = ps.take n ++ [ps[n]] := by rw [List.take_add_one, List.getElem?_eq_getElem hlt]; rfl
        rw [e, chain_snoc, h1, Bool.true_and]
        cases hm : mayFollow ps[n].word (aheadAt "" (ps.take n) (ps.take n).length) with
        | true => exact .inl rfl
        | false => exact .inr ⟨ps.take n, ps[n], ps.drop (n + 1), by rw [← List.drop_eq_getElem_cons hlt, List.take_append_drop], h1, hm⟩
      · exact .inr h1
  rcases go ps.length (Nat.le_refl _) with h1 | h1
  · rw [List.take_length, h] at h1; cases h1
  · exact h1
theorem pts_split {H : Hp} : ∀ {us : List V} {a b : List Pt}, PtsV H us (a ++ b) → ∃ xs ys, us = xs ++ ys ∧ PtsV H xs a ∧ PtsV H ys b
  | us, [], b, h => ⟨[], us, rfl, .nil, h⟩
  | _, p :: a, b, .cons h r => by
    obtain ⟨xs, ys, e, h1, h2⟩ := pts_split (a := a) (b := b) r
    exact ⟨_ :: xs, ys, by rw [e]; rfl, .cons h h1, h2⟩
theorem odd_of_chain {H : Hp} {us : List V} {ps : List Pt} (hv : PtsV H us ps) (hok : ∀ p ∈ ps, okPt p) (h : chainOk "" ps = false) : ChOdd H us := by
  obtain ⟨pre, p, post, rfl, h1, h2⟩ := first_break ps h
  obtain ⟨xs, ys, rfl, v1, v2⟩ := pts_split hv
  cases v2 with
  | cons hp hr => exact ⟨xs, _, _, pre, rfl, v1, fun q hq => hok q (List.mem_append_left _ hq), h1, .inr ⟨p, hp, hok p (by simp), h2⟩⟩
/-! ### no tab in a text -/
theorem tab_no {s : Str} (h : good s) : tabIn s = false := by
  unfold tabIn
  have e : Str.ofString "\t" = ⟨#[9]⟩ := by rfl
  rw [e, occ_pos s 9 0 1 (Nat.zero_le _), List.drop_zero]
  have n9 : ∀ (l : List Nat) (k : Nat), (∀ c ∈ l, SG.cps.contains c = true) → pos 9 l k = [] := by
    intro l
    induction l with
    | nil => intro k _; rfl
    | cons d r ih =>
      intro k hd
      have hne : d ≠ 9 := fun z => by
        have := hd d List.mem_cons_self
        rw [z] at this
        exact absurd this (by decide +kernel)
      rw [pos, if_neg hne]
      exact ih (k + 1) fun c hc => hd c (List.mem_cons_of_mem _ hc)
  rw [n9 _ _ h.2]; rfl
/-! ### _law_is_change -/
theorem isi_int {T : Ty} {i : Int} {H : Hp} {Q : Bool → Prop} (q : Q (T == .int)) : isiV T (.int i) H Q := q
theorem isi_str {T : Ty} {i : Str} {H : Hp} {Q : Bool → Prop} (q : Q (T == .str)) : isiV T (.str i) H Q := q
theorem isi_bl {T : Ty} {b : Bool} {H : Hp} {Q : Bool → Prop} (q : Q (T == .bool || T == .int)) : isiV T (.bl b) H Q := q
def bLoop : List RS := match b_is_changeL.getD 2 .pass with | .for1 _ _ _ b => b | _ => []
section
variable {K : PySem.W.Frag} {E : XK} {a : Addr} {H : Hp} {last : Str} {u3 : Option V} {D : Ends}
abbrev ΓC (K : PySem.W.Frag) (E : XK) : RCx := rcx K [] [] (E := E)
theorem in_word {w : V} {t1 : Addr} {H1 : Hp} {QT : Bool → Hp → Prop} (hf : flatV w = true) (h1 : H1 t1 = some (.tup W3)) (q : QT (!inV w W3) H1) : rCmp K .NotIn w (.ref t1) H1 fun z H2 => ∃ k, z = .bl k ∧ QT k H2 := by
  have key : rIn K true w (.ref t1) H1 fun z H2 => ∃ k, z = .bl k ∧ QT k H2 := ⟨t1, W3, rfl, .inr (SqT.of h1), hf, rfl, _, rfl, q⟩
  cases w with
  | ref b => cases hf
  | _ => exact key
theorem item_odd {x : V} (h : OddP x H) (q : ∀ H', Same H H' → D.rt (.bl false) H') : rdSs (ΓC K E) bLoop D [some (.ref a), some (.str last), some x, u3] H := by
  rcases h with h | ⟨t, xs, rfl, ht, hl, h⟩
  · refine r_ite (r_orC (r_notT (r_isiT (r_v rfl (h.go (iT (iT ?_ rfl) rfl))))))
    exact r_ret (r_c (q _ (Same.refl _)))
  refine r_ite (r_orC (r_notT (r_isiT (r_v rfl (isi_tup ht (iF ?_ rfl))))))
  rcases h with h | ⟨w, y, rfl, h⟩
  · refine r_orC (r_cmpT (r_blt (r_cons (r_v rfl (r_nil (.inr ⟨xs, SqT.of ht, r_c (cnI ⟨_, rfl, iT (iT ?_ rfl) ?_⟩)⟩))))))
    · exact r_ret (r_c (q _ (Same.refl _)))
    · rw [decide_eq_false (by omega)]; rfl
  refine r_orC (r_cmpT (r_blt (r_cons (r_v rfl (r_nil (.inr ⟨_, SqT.of ht, r_c (cnI ⟨_, rfl, iF ?_ rfl⟩)⟩))))))
  refine r_or1 (r_cmpT (r_ix (r_v rfl (r_c (ixt ht rfl (r_tup (r_cons (r_c (r_cons (r_c (r_cons (r_c (r_nil ⟨(by show 3 ≤ sizeLine; decide), fun t1 f1 => ?_⟩)))))))))))))
  have s1 := sameNew (o := .tup W3) f1
  have ht1 := s1 _ _ ht
  have e1 : upd H t1 (.tup W3) t1 = some (.tup W3) := upd_same
  rcases h with h | h
  · rcases h with ⟨hf, hi⟩ | ⟨b, rfl, hb⟩
    · refine in_word (QT := fun c H1 => if c = true then rdSs (ΓC K E) [.ret (.c (.bl false))] _ _ H1 else _) hf e1 ?_
      refine iT ?_ (by rw [hi]; rfl)
      exact r_ret (r_c (q _ s1))
    · refine ⟨["keep", "cut", "put"], .inr (SqT.of e1), ?_, _, rfl, iT (r_ret (r_c (q _ s1))) rfl⟩
      rcases hb with ⟨xs, hb⟩ | ⟨k, hb⟩
      · exact .inl ⟨_, SqL.of (s1 _ _ hb)⟩
      · exact .inr (.inr ⟨_, s1 _ _ hb⟩)
  have hw : ∃ s : Str, w = .str s ∧ inV (.str s) W3 = true := by
    rcases h with ⟨rfl, _⟩ | ⟨rfl | rfl, _⟩ <;> exact ⟨_, rfl, by decide +kernel⟩
  obtain ⟨s, rfl, hi⟩ := hw
  refine in_word (QT := fun c H1 => if c = true then _ else rdSs (ΓC K E) [] { D with nx := rdSs (ΓC K E) (bLoop.drop 1) D } [some (.ref a), some (.str last), some (.ref t), u3] H1) rfl e1 ?_
  refine iF ?_ (by rw [hi]; rfl)
  show rdSs (ΓC K E) (bLoop.drop 1) D [some (.ref a), some (.str last), some (.ref t), u3] (upd H t1 (.tup W3))
  generalize upd H t1 (.tup W3) = H1 at s1 ht1 ⊢
  refine r_asg (r_ix (r_v rfl (r_c (ixt ht1 rfl ?_))))
  rcases h with ⟨h, hk⟩ | ⟨h, hk⟩
  · injection h with h; subst h
    refine r_ite (r_andC (r_cmpT (r_ix (r_v rfl (r_c (ixt ht1 rfl (r_c (ce_str ⟨_, rfl, iT ?_ (by decide +kernel)⟩))))))))
    rcases hk with (⟨b, rfl⟩ | hn) | ⟨n, rfl, hn⟩
    · refine r_and1 (r_orC (r_notT (r_isiT (r_v rfl (isi_bl (iF ?_ rfl))))))
      exact r_orC (r_isiT (r_v rfl (isi_bl (iT (iT (r_ret (r_c (q _ s1))) rfl) rfl))))
    · exact r_and1 (r_orC (r_notT (r_isiT (r_v rfl ((hn.same s1).go (iT (iT (r_ret (r_c (q _ s1))) rfl) rfl))))))
    · refine r_and1 (r_orC (r_notT (r_isiT (r_v rfl (isi_int (iF ?_ rfl))))))
      refine r_orC (r_isiT (r_v rfl (isi_int (iF ?_ rfl))))
      exact r_or1 (r_cmpT (r_v rfl (r_c (ltI ⟨_, rfl, iT (r_ret (r_c (q _ s1))) (decide_eq_true hn)⟩))))
  · have hs : (s == Str.ofString "keep") = false := by
      rcases h with h | h <;> (injection h with h; subst h; decide +kernel)
    have hs2 : (s != Str.ofString "keep") = true := by rw [bne, hs]; rfl
    refine r_ite (r_andC (r_cmpT (r_ix (r_v rfl (r_c (ixt ht1 rfl (r_c (ce_str ⟨_, rfl, iF (iF ?_ rfl) hs⟩))))))))
    refine r_ite (r_andC (r_cmpT (r_ix (r_v rfl (r_c (ixt ht1 rfl (r_c (cn_str ⟨_, rfl, iT ?_ hs2⟩))))))))
    rcases hk with hn | rfl | ⟨z, rfl, hz, hzl, hz2, _⟩
    · exact r_and1 (r_orC (r_notT (r_isiT (r_v rfl ((hn.same s1).go (iT (iT (r_ret (r_c (q _ s1))) rfl) rfl))))))
    · refine r_and1 (r_orC (r_notT (r_isiT (r_v rfl (isi_str (iF ?_ rfl))))))
      exact r_orC (r_cmpT (r_v rfl (r_c (ce_str ⟨_, rfl, iT (iT (r_ret (r_c (q _ s1))) rfl) (by decide +kernel)⟩))))
    · refine r_and1 (r_orC (r_notT (r_isiT (r_v rfl (isi_str (iF ?_ rfl))))))
      refine r_orC (r_cmpT (r_v rfl (r_c (ce_str ⟨_, rfl, iF ?_ (by simpa using hz)⟩))))
      exact r_or1 (r_cmpT (r_c (r_v rfl ⟨_, rfl, _, rfl, iT (r_ret (r_c (q _ s1))) hz2⟩)))
theorem item_part {t : Addr} {p : Pt} (ht : H t = some (.tup [.str p.word, p.val])) (hp : okPt p) (q1 : mayFollow p.word last = true → ∀ v3 H', Same H H' → D.nx [some (.ref a), some (.str p.word), some (.ref t), v3] H') (q2 : mayFollow p.word last = false → ∀ H', Same H H' → D.rt (.bl false) H') :
    rdSs (ΓC K E) bLoop D [some (.ref a), some (.str last), some (.ref t), u3] H := by
  refine r_ite (r_orC (r_notT (r_isiT (r_v rfl (isi_tup ht (iF ?_ rfl))))))
  refine r_orC (r_cmpT (r_blt (r_cons (r_v rfl (r_nil (.inr ⟨_, SqT.of ht, r_c (cnI ⟨_, rfl, iF ?_ rfl⟩)⟩))))))
  refine r_or1 (r_cmpT (r_ix (r_v rfl (r_c (ixt ht rfl (r_tup (r_cons (r_c (r_cons (r_c (r_cons (r_c (r_nil ⟨(by show 3 ≤ sizeLine; decide), fun t1 f1 => ?_⟩)))))))))))))
  have s1 := sameNew (o := .tup W3) f1
  have ht1 := s1 _ _ ht
  have e1 : upd H t1 (.tup W3) t1 = some (.tup W3) := upd_same
  have hi : inV (.str p.word) W3 = true := match p with
    | .keep _ => (by decide +kernel : inV (.str "keep") W3 = true)
    | .put _ => (by decide +kernel : inV (.str "put") W3 = true)
    | .cut _ => (by decide +kernel : inV (.str "cut") W3 = true)
  refine in_word (QT := fun c H1 => if c = true then _ else rdSs (ΓC K E) [] { D with nx := rdSs (ΓC K E) (bLoop.drop 1) D } [some (.ref a), some (.str last), some (.ref t), u3] H1) rfl e1 ?_
  refine iF ?_ (by rw [hi]; rfl)
  show rdSs (ΓC K E) (bLoop.drop 1) D [some (.ref a), some (.str last), some (.ref t), u3] (upd H t1 (.tup W3))
  generalize upd H t1 (.tup W3) = H1 at s1 ht1 ⊢
  refine r_asg (r_ix (r_v rfl (r_c (ixt ht1 rfl ?_))))
  -- the last test
  have fin : rdSs (ΓC K E) (bLoop.drop 4) D [some (.ref a), some (.str last), some (.ref t), some p.val] H1 := by
    have go : mayFollow p.word last = true → rdSs (ΓC K E) (bLoop.drop 5) D [some (.ref a), some (.str last), some (.ref t), some p.val] H1 := fun hm => r_asg (r_ix (r_v rfl (r_c (ixt ht1 rfl (q1 hm _ _ s1)))))
    have no : mayFollow p.word last = false → rdSs (ΓC K E) [.ret (.c (.bl false))] { D with nx := rdSs (ΓC K E) (bLoop.drop 5) D } [some (.ref a), some (.str last), some (.ref t), some p.val] H1 := fun hm => r_ret (r_c (q2 hm _ s1))
    refine r_ite (r_orC (r_cmpT (r_ix (r_v rfl (r_c (ixt ht1 rfl (r_v rfl (ce_str ⟨_, rfl, ?_⟩))))))))
    cases h1 : (p.word == last) with
    | true => exact iT (iT (no (by unfold mayFollow; rw [bne, h1]; rfl)) rfl) rfl
    | false =>
      refine iF ?_ rfl
      refine r_or1 (r_andC (r_cmpT (r_ix (r_v rfl (r_c (ixt ht1 rfl (r_c (ce_str ⟨_, rfl, ?_⟩))))))))
      cases h2 : (p.word == Str.ofString "put") with
      | false => exact iF (iF (go (by unfold mayFollow; rw [bne, h1, h2, Bool.and_false]; rfl)) rfl) rfl
      | true =>
        refine iT ?_ rfl
        refine r_and1 (r_cmpT (r_v rfl (r_c (ce_str ⟨_, rfl, ?_⟩))))
        cases h3 : (last == Str.ofString "cut") with
        | true => exact iT (no (by unfold mayFollow; rw [bne, h1, h2, h3]; rfl)) rfl
        | false => exact iF (go (by unfold mayFollow; rw [bne, h1, h2, h3]; rfl)) rfl
  have text : ∀ s : Str, p.val = .str s → p.word ≠ "keep" → good s → s ≠ "" → rdSs (ΓC K E) (bLoop.drop 2) D [some (.ref a), some (.str last), some (.ref t), some p.val] H1 := by
    intro s hv hw hg hn
    rw [hv] at fin ht1 ⊢
    have hs : (p.word == Str.ofString "keep") = false := by simpa using hw
    have hs2 : (p.word != Str.ofString "keep") = true := by rw [bne, hs]; rfl
    refine r_ite (r_andC (r_cmpT (r_ix (r_v rfl (r_c (ixt ht1 rfl (r_c (ce_str ⟨_, rfl, iF (iF ?_ rfl) hs⟩))))))))
    refine r_ite (r_andC (r_cmpT (r_ix (r_v rfl (r_c (ixt ht1 rfl (r_c (cn_str ⟨_, rfl, iT ?_ hs2⟩))))))))
    refine r_and1 (r_orC (r_notT (r_isiT (r_v rfl (isi_str (iF ?_ rfl))))))
    refine r_orC (r_cmpT (r_v rfl (r_c (ce_str ⟨_, rfl, iF ?_ (by simpa using hn)⟩))))
    exact r_or1 (r_cmpT (r_c (r_v rfl ⟨_, rfl, _, rfl, iF fin (tab_no hg)⟩)))
  cases p with
  | keep n =>
    refine r_ite (r_andC (r_cmpT (r_ix (r_v rfl (r_c (ixt ht1 rfl (r_c (ce_str ⟨_, rfl, iT ?_ (show (Str.ofString "keep" == Str.ofString "keep") = true by decide +kernel)⟩))))))))
    refine r_and1 (r_orC (r_notT (r_isiT (r_v rfl (isi_int (iF ?_ rfl))))))
    refine r_orC (r_isiT (r_v rfl (isi_int (iF ?_ rfl))))
    refine r_or1 (r_cmpT (r_v rfl (r_c (ltI ⟨_, rfl, iF ?_ (decide_eq_false (by have : (1 : Int) ≤ n := hp; omega))⟩))))
    refine r_ite (r_andC (r_cmpT (r_ix (r_v rfl (r_c (ixt ht1 rfl (r_c (cn_str ⟨_, rfl, iF (iF ?_ rfl) (show (Str.ofString "keep" != Str.ofString "keep") = false by decide +kernel)⟩))))))))
    exact fin
  | put s => exact text s rfl (show (Str.ofString "put") ≠ "keep" by decide +kernel) hp.1 hp.2
  | cut s => exact text s rfl (show (Str.ofString "cut") ≠ "keep" by decide +kernel) hp.1 hp.2
end
def spIsCh : Sp := fun vs H Q E => ∃ (a : Addr) (us : List V), vs = [.ref a] ∧ H a = some (.lst us) ∧ ((∃ ps, PtsV H us ps ∧ (∀ p ∈ ps, okPt p) ∧ chainOk "" ps = true ∧ ∀ H', Same H H' → Q (.bl true) H') ∨ (ChOdd H us ∧ ∀ H', Same H H' → Q (.bl false) H'))
theorem rd_isCh {K : PySem.W.Frag} (vs : List V) (H : Hp) (Q : VK) (E : XK) (h : spIsCh vs H Q E) : rdSs (rcx K [] [] (E := E)) b_is_changeL (Dn Q) (start N_is_changeL vs) H := by
  obtain ⟨a, us, rfl, ha, h⟩ := h
  refine r_ite (r_notT (r_isiT (r_v rfl (isi_lst ha (iF ?_ rfl)))))
  refine r_asg (r_c ?_)
  rcases h with ⟨ps, hv, hok, hch, q⟩ | ⟨⟨pre, x, post, ps, rfl, hv, hok, hch, hbad⟩, q⟩
  · have hlen := Paired.length hv
    refine ⟨_, rfl, a, rfl, ⟨_, SqL.of ha⟩, for_list (K := K) (a := a) (xs := us) (fun i σ H2 => ∃ u2 u3 : Option V, σ = [some (.ref a), some (.str (aheadAt "" ps i)), u2, u3] ∧ Same H H2) ⟨none, none, rfl, Same.refl _⟩ (fun i σ H2 _ ⟨_, _, _, s2⟩ => SqL.of (s2 _ _ ha)) ?_ ?_⟩
    · rintro i y σ H2 hi ⟨u2, u3, rfl, s2⟩
      obtain ⟨p, hp, t, rfl, ht⟩ := hv.get hi
      have hm := chain_at ps "" i p hch hp
      have e2 : aheadAt "" ps (i + 1) = p.word := by simp only [aheadAt, hp]
      refine item_part (s2 _ _ ht) (hok p (List.mem_of_getElem? hp)) (fun _ v3 H' s' => ⟨some (.ref t), v3, ?_, s2.trans s'⟩) (fun z => by rw [hm] at z; cases z)
      rw [e2]
    · rintro σ H2 ⟨u2, u3, rfl, s2⟩
      exact r_ret (r_c (q _ s2))
  · have hlen := Paired.length hv
    refine ⟨_, rfl, a, rfl, ⟨_, SqL.of ha⟩, for_list (K := K) (a := a) (xs := pre ++ x :: post) (fun i σ H2 => i ≤ pre.length ∧ ∃ u2 u3 : Option V, σ = [some (.ref a), some (.str (aheadAt "" ps i)), u2, u3] ∧ Same H H2) ⟨Nat.zero_le _, none, none, rfl, Same.refl _⟩ (fun i σ H2 _ ⟨_, _, _, _, s2⟩ => SqL.of (s2 _ _ ha)) ?_ ?_⟩
    · rintro i y σ H2 hi ⟨hle, u2, u3, rfl, s2⟩
      by_cases hlt : i < pre.length
      · have hi' : pre[i]? = some y := by rw [List.getElem?_append_left hlt] at hi; exact hi
        obtain ⟨p, hp, t, rfl, ht⟩ := hv.get hi'
        have hm := chain_at ps "" i p hch hp
        have e2 : aheadAt "" ps (i + 1) = p.word := by simp only [aheadAt, hp]
        refine item_part (s2 _ _ ht) (hok p (List.mem_of_getElem? hp)) (fun _ v3 H' s' => ⟨hlt, some (.ref t), v3, ?_, s2.trans s'⟩) (fun z => by rw [hm] at z; cases z)
        rw [e2]
      · have hie : i = pre.length := by omega
        subst hie
        have ey : y = x := by
          rw [List.getElem?_append_right (Nat.le_refl _), Nat.sub_self] at hi
          simpa using hi.symm
        subst ey
        rcases hbad with hb | ⟨p, ⟨t, rfl, ht⟩, ho, hf⟩
        · exact item_odd (hb.same s2) fun H' s' => q _ (s2.trans s')
        · rw [hlen]
          exact item_part (s2 _ _ ht) ho (fun z => by rw [hf] at z; cases z) fun _ H' s' => q _ (s2.trans s')
    · rintro σ H2 ⟨hle, _⟩
      simp at hle
      omega
end L2.K01
set_option maxRecDepth 100000
set_option maxHeartbeats 4000000
namespace L2.K01
open PySem PySem.Spec L2.B
/-! ### _law_odd_part -/
def Mk (Γ : RCx) (σ : St) (e : RE) : Prop := ∀ (H : Hp) (Q : VK), (∀ v H', Same H H' → OddP v H' → likeV v = true → Q v H') → rdE Γ e σ H Q
section
variable {Γ : RCx} {σ : St}
theorem rdA_odd : ∀ (es : List RE), (∀ e ∈ es, Mk Γ σ e) → ∀ (H : Hp) (Q : List V → Hp → Prop), (∀ vs H', Same H H' → vs.length = es.length → (∀ v ∈ vs, OddP v H') → vs.all likeV = true → Q vs H') → rdA Γ es σ H Q
  | [], _, H, Q, q => r_nil (q [] H (Same.refl _) rfl (fun v hv => by cases hv) rfl)
  | e :: es, h, H, Q, q => r_cons (h e (.head _) H _ fun v H1 s1 o l => rdA_odd es (fun e' he' => h e' (.tail _ he')) H1 _ fun vs H2 s2 ln os ls => q (v :: vs) H2 (s1.trans s2) (by rw [List.length_cons, ln, List.length_cons]) (fun w hw => by
      rcases List.mem_cons.mp hw with rfl | hw
      · exact o.same s2
      · exact os w hw) (by rw [List.all_cons, l, ls]; rfl))
theorem mk_c {v : V} (h : ∀ H, OddP v H) (l : likeV v = true) : Mk Γ σ (.c v) := fun H Q q => r_c (q v H (Same.refl _) (h H) l)
theorem odd2 {a : Addr} {w t : V} {H : Hp} (ha : H a = some (.tup [w, t])) (h : OddW w H ∨ (w = .str "keep" ∧ OddK t H) ∨ ((w = .str "cut" ∨ w = .str "put") ∧ OddT t H)) : OddP (.ref a) H := .inr ⟨a, _, rfl, ha, (by show 2 ≤ 10; decide), .inr ⟨w, t, rfl, h⟩⟩
theorem mk_cc {w t : V} (h : ∀ H, OddW w H ∨ (w = .str "keep" ∧ OddK t H) ∨ ((w = .str "cut" ∨ w = .str "put") ∧ OddT t H)) : Mk Γ σ (.tup [.c w, .c t]) := fun H Q q =>
  r_tup (r_cons (r_c (r_cons (r_c (r_nil ⟨(by show 2 ≤ sizeLine; decide), fun a ha => q _ _ (sameNew ha) (odd2 upd_same (h _)) rfl⟩)))))
theorem mk_cl {w v : V} (h : w = .str "keep" ∨ w = .str "cut" ∨ w = .str "put") : Mk Γ σ (.tup [.c w, .lst [.c v]]) := fun H Q q => by
  refine r_tup (r_cons (r_c (r_cons (r_lst (r_cons (r_c (r_nil ⟨(by show 1 ≤ sizeLine; decide), fun b hb => r_nil ⟨(by show 2 ≤ sizeLine; decide), fun a ha => ?_⟩⟩)))))))
  have s1 := sameNew (o := .lst [v]) hb
  have s2 := sameNew (o := .tup [w, .ref b]) ha
  refine q _ _ (s1.trans s2) (odd2 upd_same ?_) rfl
  have e := s2 _ _ (upd_same (H := H) (a := b) (o := .lst [v]))
  rcases h with rfl | rfl | rfl
  · exact .inr (.inl ⟨rfl, .inl (.inr (isi_lst e rfl))⟩)
  · exact .inr (.inr ⟨.inl rfl, .inl (isi_lst e rfl)⟩)
  · exact .inr (.inr ⟨.inr rfl, .inl (isi_lst e rfl)⟩)
theorem mk_ct {w v : V} (h : w = .str "cut") : Mk Γ σ (.tup [.c w, .tup [.c v]]) := fun H Q q => by
  refine r_tup (r_cons (r_c (r_cons (r_tup (r_cons (r_c (r_nil ⟨(by show 1 ≤ sizeLine; decide), fun b hb => r_nil ⟨(by show 2 ≤ sizeLine; decide), fun a ha => ?_⟩⟩)))))))
  have s1 := sameNew (o := .tup [v]) hb
  have s2 := sameNew (o := .tup [w, .ref b]) ha
  refine q _ _ (s1.trans s2) (odd2 upd_same ?_) rfl
  have e := s2 _ _ (upd_same (H := H) (a := b) (o := .tup [v]))
  exact .inr (.inr ⟨.inl h, .inl (isi_tup e rfl)⟩)
theorem mk_cd {w : V} (h : w = .str "put") : Mk Γ σ (.tup [.c w, .dct]) := fun H Q q => by
  refine r_tup (r_cons (r_c (r_cons (r_dct fun b hb => r_nil ⟨(by show 2 ≤ sizeLine; decide), fun a ha => ?_⟩))))
  have s1 := sameNew (o := .dK []) hb
  have s2 := sameNew (o := .tup [w, .ref b]) ha
  refine q _ _ (s1.trans s2) (odd2 upd_same ?_) rfl
  have e := s2 _ _ (upd_same (H := H) (a := b) (o := .dK []))
  exact .inr (.inr ⟨.inr h, .inl (isi_dct e rfl)⟩)
theorem mk_lc {v t : V} : Mk Γ σ (.tup [.lst [.c v], .c t]) := fun H Q q => by
  refine r_tup (r_cons (r_lst (r_cons (r_c (r_nil ⟨(by show 1 ≤ sizeLine; decide), fun b hb => r_cons (r_c (r_nil ⟨(by show 2 ≤ sizeLine; decide), fun a ha => ?_⟩))⟩)))))
  have s1 := sameNew (o := .lst [v]) hb
  have s2 := sameNew (o := .tup [.ref b, t]) ha
  exact q _ _ (s1.trans s2) (odd2 upd_same (.inl (.inr ⟨b, rfl, .inl ⟨_, s2 _ _ upd_same⟩⟩))) rfl
theorem mk_dc {t : V} : Mk Γ σ (.tup [.dct, .c t]) := fun H Q q => by
  refine r_tup (r_cons (r_dct fun b hb => r_cons (r_c (r_nil ⟨(by show 2 ≤ sizeLine; decide), fun a ha => ?_⟩))))
  have s1 := sameNew (o := .dK []) hb
  have s2 := sameNew (o := .tup [.ref b, t]) ha
  exact q _ _ (s1.trans s2) (odd2 upd_same (.inl (.inr ⟨b, rfl, .inr ⟨_, s2 _ _ upd_same⟩⟩))) rfl
theorem mk_neg {i : Int} (e1 : σ[1]? = some (some (.int i))) (hi : 0 ≤ i) : Mk Γ σ (.tup [.c (.str "keep"), .neg (.v 1)]) := fun H Q q => by
  refine r_tup (r_cons (r_c (r_cons ?_)))
  refine ⟨_, e1, (by show 2 ≤ sizeLine; decide), fun a ha => ?_⟩
  exact q _ _ (sameNew ha) (odd2 upd_same (.inr (.inl ⟨rfl, .inr ⟨_, rfl, by omega⟩⟩))) rfl
theorem mk_0 : Mk Γ σ (.tup []) := fun H Q q => r_tup (r_nil ⟨Nat.zero_le _, fun a ha => q _ _ (sameNew ha) (.inr ⟨a, _, rfl, upd_same, (by decide), .inl (by decide)⟩) rfl⟩)
theorem mk_1 {w : V} : Mk Γ σ (.tup [.c w]) := fun H Q q => r_tup (r_cons (r_c (r_nil ⟨(by show 1 ≤ sizeLine; decide), fun a ha => q _ _ (sameNew ha) (.inr ⟨a, _, rfl, upd_same, (by show 1 ≤ 10; decide), .inl (by show (1 : Nat) ≠ 2; decide)⟩) rfl⟩)))
theorem mk_3 {w v t : V} : Mk Γ σ (.tup [.c w, .c v, .c t]) := fun H Q q => r_tup (r_cons (r_c (r_cons (r_c (r_cons (r_c (r_nil ⟨(by show 3 ≤ sizeLine; decide), fun a ha => q _ _ (sameNew ha) (.inr ⟨a, _, rfl, upd_same, (by show 3 ≤ 10; decide), .inl (by show (3 : Nat) ≠ 2; decide)⟩) rfl⟩)))))))
theorem mk_l2 {w v : V} : Mk Γ σ (.lst [.c w, .c v]) := fun H Q q => r_lst (r_cons (r_c (r_cons (r_c (r_nil ⟨(by show 2 ≤ sizeLine; decide), fun a ha => q _ _ (sameNew ha) (.inl (isi_lst upd_same rfl)) rfl⟩)))))
theorem add_odd {es : List RE} {r : List RS} {D : Ends} {l : Addr} {xs : List V} {H : Hp} {a b : Option V} (hm : ∀ e ∈ es, Mk Γ [a, b, some (.ref l)] e) (hl : H l = some (.lst xs)) (ho : ∀ v ∈ xs, OddP v H) (hk : xs.all likeV = true) (hn : xs.length + es.length ≤ 1000)
    (q : ∀ l' xs' H', Same H H' → H' l' = some (.lst xs') → (∀ v ∈ xs', OddP v H') → xs'.all likeV = true → xs'.length = xs.length + es.length → rdSs Γ r D [a, b, some (.ref l')] H') :
    rdSs Γ (.asg 2 (.bin .Add (.v 2) (.lst es)) :: r) D [a, b, some (.ref l)] H := by
  refine r_asg (r_bin (r_v rfl (r_lst (rdA_odd es hm H _ fun vs H1 s1 ln os ls => ⟨le_line (by omega), fun m fm => ?_⟩))))
  have s2 := sameNew (o := .lst vs) fm
  refine .inl ⟨l, m, xs, vs, rfl, rfl, s2 _ _ (s1 _ _ hl), upd_same, le_line (by omega), fun p fp => ?_⟩
  have s3 := sameNew (o := .lst (xs ++ vs)) fp
  have s23 := s2.trans s3
  refine q p (xs ++ vs) _ (s1.trans s23) upd_same (fun v hv => ?_) (by rw [List.all_append, hk, ls]; rfl) (by rw [List.length_append, ln])
  rcases List.mem_append.mp hv with h | h
  · exact (ho v h).same (s1.trans s23)
  · exact (os v h).same s23
end
def spOddPart : Sp := fun vs H Q E => ∃ (c n : Int), vs = [.int c, .int n] ∧ 0 ≤ n ∧ ∀ v H', Same H H' → OddP v H' → likeV v = true → Q v H'
theorem flatW {w : V} (h : (flatV w && !inV w W3) = true) : ∀ H, OddW w H := fun H => by
  simp only [Bool.and_eq_true, Bool.not_eq_true'] at h
  exact .inl h
theorem tabT {s : Str} (h : (s != "" && decide (s.length ≤ 1000) && tabIn s && !isText s) = true) : ∀ H, OddT (.str s) H := fun H => by
  simp only [Bool.and_eq_true, Bool.not_eq_true', bne_iff_ne, decide_eq_true_eq] at h
  exact .inr (.inr ⟨s, rfl, h.1.1.1, h.1.1.2, h.1.2, h.2⟩)
theorem rd_oddPart {K : PySem.W.Frag} (vs : List V) (H : Hp) (Q : VK) (E : XK) (h : spOddPart vs H Q E) : rdSs (rcx K [] [] (E := E)) b_odd_partL (Dn Q) (start N_odd_partL vs) H := by
  obtain ⟨c, n, rfl, hn, q⟩ := h
  have kI : ∀ {t : V}, (∀ H, OddK t H) → ∀ H, OddW (.str "keep") H ∨ (V.str "keep" = .str "keep" ∧ OddK t H) ∨ ((V.str "keep" = .str "cut" ∨ V.str "keep" = .str "put") ∧ OddT t H) := fun h H => .inr (.inl ⟨rfl, h H⟩)
  have cI : ∀ {t : V}, (∀ H, OddT t H) → ∀ H, OddW (.str "cut") H ∨ (V.str "cut" = .str "keep" ∧ OddK t H) ∨ ((V.str "cut" = .str "cut" ∨ V.str "cut" = .str "put") ∧ OddT t H) := fun h H => .inr (.inr ⟨.inl rfl, h H⟩)
  have pI : ∀ {t : V}, (∀ H, OddT t H) → ∀ H, OddW (.str "put") H ∨ (V.str "put" = .str "keep" ∧ OddK t H) ∨ ((V.str "put" = .str "cut" ∨ V.str "put" = .str "put") ∧ OddT t H) := fun h H => .inr (.inr ⟨.inr rfl, h H⟩)
  have wI : ∀ {w t : V}, (∀ H, OddW w H) → ∀ H, OddW w H ∨ (w = .str "keep" ∧ OddK t H) ∨ ((w = .str "cut" ∨ w = .str "put") ∧ OddT t H) := fun h H => .inl (h H)
  refine r_asg (r_lst (rdA_odd _ ?_ H _ fun vs1 H1 s1 l1 o1 k1 => ⟨le_line (by rw [l1]; decide), fun a1 f1 => ?_⟩))
  · intro e he
    simp only [List.mem_cons, List.not_mem_nil, or_false] at he
    rcases he with rfl | rfl | rfl | rfl | rfl
    · exact mk_cc (kI fun H => .inr ⟨_, rfl, by decide⟩)
    · exact mk_neg rfl hn
    · exact mk_cc (kI fun H => .inl (.inl ⟨_, rfl⟩))
    · exact mk_cc (kI fun H => .inl (.inr rfl))
    · exact mk_cc (kI fun H => .inl (.inr rfl))
  have t1 := sameNew (o := .lst vs1) f1
  have l1' : vs1.length = 5 := l1
  refine add_odd (es := [(.tup [(.c (.str "put")), (.c (.str ""))]), (.tup [(.c (.str "cut")), (.c (.str ""))]), (.tup [(.c (.str "put")), (.c (.int 3))]), (.tup [(.c (.str "cut")), (.c .non)]), (.tup [(.c (.str "put")), (.c (.str "\t"))]), (.tup [(.c (.str "cut")), (.c (.str "a\t"))])]) ?_ upd_same (fun v hv => (o1 v hv).same t1) k1 (by rw [l1']; decide) fun a2 x2 H2 s2 h2 o2 k2 l2 => ?_
  · intro e he
    simp only [List.mem_cons, List.not_mem_nil, or_false] at he
    rcases he with rfl | rfl | rfl | rfl | rfl | rfl
    · exact mk_cc (pI fun H => .inr (.inl rfl))
    · exact mk_cc (cI fun H => .inr (.inl rfl))
    · exact mk_cc (pI fun H => .inl rfl)
    · exact mk_cc (cI fun H => .inl rfl)
    · exact mk_cc (pI (tabT (by decide +kernel)))
    · exact mk_cc (cI (tabT (by decide +kernel)))
  have l2' : x2.length = 11 := by rw [l2, l1']; rfl
  refine add_odd (es := [(.tup [(.c (.str "put")), (.lst [(.c (.str "a"))])]), (.tup [(.c (.str "Keep")), (.c (.int 1))]), (.tup [(.c (.str "keep ")), (.c (.int 1))]), (.tup [(.c (.str "")), (.c (.int 1))]), (.tup [(.c (.str "keep"))]), (.tup [(.c (.str "keep")), (.c (.int 1)), (.c (.int 2))])]) ?_ h2 o2 k2 (by rw [l2']; decide) fun a3 x3 H3 s3 h3 o3 k3 l3 => ?_
  · intro e he
    simp only [List.mem_cons, List.not_mem_nil, or_false] at he
    rcases he with rfl | rfl | rfl | rfl | rfl | rfl
    · exact mk_cl (.inr (.inr rfl))
    · exact mk_cc (wI (flatW (by decide +kernel)))
    · exact mk_cc (wI (flatW (by decide +kernel)))
    · exact mk_cc (wI (flatW (by decide +kernel)))
    · exact mk_1
    · exact mk_3
  have l3' : x3.length = 17 := by rw [l3, l2']; rfl
  refine add_odd (es := [(.lst [(.c (.str "keep")), (.c (.int 1))]), (.c (.str "keep")), (.c .non), (.c (.int 5)), (.tup []), (.tup [(.c (.int 1)), (.c (.int 2))]), (.tup [(.c (.str "cut")), (.c (.bl true))]), (.tup [(.lst [(.c (.str "put"))]), (.c (.str "a"))]), (.tup [.dct, (.c (.int 1))])]) ?_ h3 o3 k3 (by rw [l3']; decide) fun a4 x4 H4 s4 h4 o4 k4 l4 => ?_
  · intro e he
    simp only [List.mem_cons, List.not_mem_nil, or_false] at he
    rcases he with rfl | rfl | rfl | rfl | rfl | rfl | rfl | rfl | rfl
    · exact mk_l2
    · exact mk_c (fun H => .inl rfl) rfl
    · exact mk_c (fun H => .inl rfl) rfl
    · exact mk_c (fun H => .inl rfl) rfl
    · exact mk_0
    · exact mk_cc (wI (flatW (by decide +kernel)))
    · exact mk_cc (cI fun H => .inl rfl)
    · exact mk_lc
    · exact mk_dc
  have l4' : x4.length = 26 := by rw [l4, l3']; rfl
  refine add_odd (es := [(.tup [(.c (.str "keep")), (.lst [(.c (.int 1))])]), (.tup [(.c (.str "put")), .dct]), (.tup [(.c (.str "cut")), (.tup [(.c (.str "a"))])]), (.tup [(.c .non), (.c (.str "a"))])]) ?_ h4 o4 k4 (by rw [l4']; decide) fun a5 x5 H5 s5 h5 o5 k5 l5 => ?_
  · intro e he
    simp only [List.mem_cons, List.not_mem_nil, or_false] at he
    rcases he with rfl | rfl | rfl | rfl
    · exact mk_cl (.inl rfl)
    · exact mk_cd rfl
    · exact mk_ct rfl
    · exact mk_cc (wI (flatW (by decide +kernel)))
  have l5' : x5.length = 30 := by rw [l5, l4']; rfl
  obtain ⟨v, hv, hat⟩ := pick (its := x5) (j := c % 30) (Int.emod_nonneg _ (by decide)) (by rw [l5']; exact Int.emod_lt_of_pos _ (by decide))
  refine r_ret (r_ix (r_v rfl (r_bin (r_v rfl (r_c ⟨(by show (0 : Int) < 30; decide), .inl ⟨a5, x5, _, v, rfl, rfl, SqL.of h5, hat, ?_⟩⟩)))))
  exact q v H5 ((((s1.trans t1).trans s2).trans s3).trans (s4.trans s5)) (o5 v hv) (List.all_eq_true.mp k5 v hv)
end L2.K01
set_option maxRecDepth 100000
set_option maxHeartbeats 4000000
namespace L2.K01
open PySem PySem.Spec L2.B
/-! ### _law_bent -/
theorem cut_pre (xs : List V) (k : Nat) : cutV xs none (some (k : Int)) = xs.take k := by
  unfold cutV
  rw [HT.sIx_nat]
  show (xs.drop 0).take (min k xs.length - 0) = _
  rw [List.drop_zero, Nat.sub_zero]
  by_cases h : k ≤ xs.length
  · rw [show min k xs.length = k by omega]
  · rw [show min k xs.length = xs.length by omega, List.take_length, List.take_of_length_le (by omega)]
theorem cut_suf (xs : List V) (k : Nat) : cutV xs (some (k : Int)) none = xs.drop k := by
  unfold cutV
  rw [HT.sIx_nat]
  show (xs.drop (min k xs.length)).take (xs.length - min k xs.length) = _
  by_cases h : k ≤ xs.length
  · rw [show min k xs.length = k by omega, List.take_of_length_le (by rw [List.length_drop]; omega)]
  · rw [show min k xs.length = xs.length by omega, List.drop_length, List.take_nil, List.drop_of_length_le (by omega)]
theorem pts_take {H : Hp} : ∀ (k : Nat) {vs : List V} {ps : List Pt}, PtsV H vs ps → PtsV H (vs.take k) (ps.take k)
  | 0, _, _, _ => .nil
  | k + 1, _, _, .nil => .nil
  | k + 1, _, _, .cons h r => .cons h (pts_take k r)
theorem pts_drop {H : Hp} : ∀ (k : Nat) {vs : List V} {ps : List Pt}, PtsV H vs ps → PtsV H (vs.drop k) (ps.drop k)
  | 0, _, _, h => h
  | k + 1, _, _, .nil => .nil
  | k + 1, _, _, .cons h r => pts_drop k r
theorem pts_like {H : Hp} : ∀ {vs : List V} {ps : List Pt}, PtsV H vs ps → vs.all likeV = true
  | _, _, .nil => rfl
  | _, _, .cons ⟨t, e, _⟩ r => by rw [List.all_cons, e, pts_like r]; rfl
theorem chain_pre : ∀ (x y : List Pt) (a : Str), chainOk a (x ++ y) = true → chainOk a x = true
  | [], _, _, _ => rfl
  | p :: x, y, a, h => by
    have h' : (mayFollow p.word a && chainOk p.word (x ++ y)) = true := h
    rw [Bool.and_eq_true] at h'
    show (mayFollow p.word a && chainOk p.word x) = true
    rw [h'.1, chain_pre x y p.word h'.2]; rfl
theorem tot_app' (a b : List Pt) : tot (a ++ b) = tot a + tot b := by unfold tot; rw [List.map_append, List.sum_append]
theorem tot_split {ps : List Pt} {k : Nat} {p : Pt} (h : ps[k]? = some p) : tot ps = tot (ps.take k) + (tlen p + tot (ps.drop (k + 1))) := by
  obtain ⟨h1, h2⟩ := List.getElem?_eq_some_iff.mp h
  conv => lhs; rw [← List.take_append_drop k ps, List.drop_eq_getElem_cons h1, h2]
  rw [tot_app']
  show _ = _
  congr 1
theorem eq_pts0 {K : PySem.W.Frag} {H : Hp} {a b : Addr} {xs : List V} {ps : List Pt} {Q : VK} (ha : H a = some (.lst xs)) (hb : H b = some (.lst [])) (hx : PtsV H xs ps) (ho : ∀ p ∈ ps, sOk p) (q : Q (.bl (decide (ps = []))) H) :
    rCmp K .Eq (.ref a) (.ref b) H Q := by
  refine ⟨.list (ps.map toD), .list [], ⟨a, xs, rfl, ha, isD hx⟩, ⟨b, [], rfl, hb, rfl⟩, shaped_ok ho, (by decide), ?_⟩
  have e : (false ^^ PyData.eqv (.list (ps.map toD)) (.list [])) = decide (ps = []) := by
    cases ps with
    | nil => rfl
    | cons p r => rfl
  rw [e]; exact q
def Bent (H : Hp) (ys : List V) : Prop := ys.all likeV = true ∧ ys.length ≤ 1000 ∧ ((∃ ps, PtsV H ys ps ∧ (∀ p ∈ ps, okPt p) ∧ ps.length ≤ 1000 ∧ tot ps ≤ 20000) ∨ ChOdd H ys)
theorem bent_of {H : Hp} {ys : List V} {ps : List Pt} (hv : PtsV H ys ps) (ho : ∀ p ∈ ps, okPt p) (hl : ps.length ≤ 1000) (ht : tot ps ≤ 20000) : Bent H ys := ⟨pts_like hv, by rw [Paired.length hv]; exact hl, .inl ⟨ps, hv, ho, hl, ht⟩⟩
def spBentP : Sp := fun vs H Q E => ∃ (a : Addr) (us : List V) (ps : List Pt) (c n : Int), vs = [.ref a, .int c, .int n] ∧ H a = some (.lst us) ∧ PtsV H us ps ∧ (∀ p ∈ ps, okPt p) ∧ chainOk "" ps = true ∧ ps.length ≤ 305 ∧ tot ps ≤ 4000 ∧ 0 ≤ n ∧
  ∀ b H' ys, Same H H' → H' b = some (.lst ys) → Bent H' ys → Q (.ref b) H'
abbrev ΓB (K : PySem.W.Frag) (E : XK) : RCx := rcx K [("_law_odd_part", spOddPart)] [] (E := E)
theorem gs_two {K : PySem.W.Frag} {i j : Nat} {t : Addr} {v w : V} {σ : St} {H : Hp} {Q : St → Hp → Prop} (ht : H t = some (.tup [v, w])) (q : Q ((σ.set i (some v)).set j (some w)) H) : gSeq K [i, j].length (gNames [i, j]) (.ref t) σ H Q :=
  ⟨t, _, rfl, .inl (SqT.of ht), rfl, _, _, rfl, _, _, rfl, rfl, q⟩
section
variable {K : PySem.W.Frag} {E : XK} {H : Hp} {σ : St} {Q : VK}
/-- a list of two parts between two lists -/
theorem two_between {e1 e2 : RE} {l6 l7 : Addr} {x6 x7 : List V} (h6 : σ[6]? = some (some (.ref l6))) (h7 : σ[7]? = some (some (.ref l7))) (g6 : H l6 = some (.lst x6)) (g7 : H l7 = some (.lst x7)) (hl : x6.length + x7.length ≤ 1000) {v1 v2 w1 w2 : V}
    (m1 : ∀ (H1 : Hp) (Q1 : VK), Same H H1 → (∀ t, H1 t = none → Q1 (.ref t) (upd H1 t (.tup [v1, w1]))) → rdE (ΓB K E) e1 σ H1 Q1)
    (m2 : ∀ (H1 : Hp) (Q1 : VK), Same H H1 → (∀ t, H1 t = none → Q1 (.ref t) (upd H1 t (.tup [v2, w2]))) → rdE (ΓB K E) e2 σ H1 Q1)
    (q : ∀ b H' t1 t2, Same H H' → H' b = some (.lst (x6 ++ [.ref t1, .ref t2] ++ x7)) → H' t1 = some (.tup [v1, w1]) → H' t2 = some (.tup [v2, w2]) → Q (.ref b) H') :
    rdE (ΓB K E) (.bin .Add (.bin .Add (.v 6) (.lst [e1, e2])) (.v 7)) σ H Q := by
  refine r_bin (r_bin (r_v h6 (r_lst (r_cons (m1 H _ (Same.refl _) fun t1 f1 => r_cons (m2 _ _ (sameNew f1) fun t2 f2 => r_nil ⟨(by show 2 ≤ sizeLine; decide), fun l fl => ?_⟩))))))
  have s1 := sameNew (o := .tup [v1, w1]) f1
  have s2 := sameNew (o := .tup [v2, w2]) f2
  have s3 := sameNew (o := .lst [V.ref t1, V.ref t2]) fl
  have s13 := (s1.trans s2).trans s3
  refine .inl ⟨l6, l, x6, [V.ref t1, V.ref t2], rfl, rfl, s13 _ _ g6, upd_same, le_line (by show x6.length + 2 ≤ 1000000; omega), fun p fp => ?_⟩
  have s4 := sameNew (o := .lst (x6 ++ [V.ref t1, V.ref t2])) fp
  have s14 := s13.trans s4
  refine r_v h7 (.inl ⟨p, l7, _, x7, rfl, rfl, upd_same, s14 _ _ g7, le_line (by rw [List.length_append]; show x6.length + 2 + x7.length ≤ 1000000; omega), fun r fr => ?_⟩)
  have s5 := sameNew (o := .lst (x6 ++ [V.ref t1, V.ref t2] ++ x7)) fr
  exact q r _ t1 t2 (s14.trans s5) upd_same (s5 _ _ (s4 _ _ (s3 _ _ (s2 _ _ upd_same)))) (s5 _ _ (s4 _ _ (s3 _ _ upd_same)))
end
theorem cut1 (s : Str) : (cutS s none (some 1)).cps.toList = s.cps.toList.take 1 := by
  unfold cutS cutL
  rw [show (some (1 : Int)) = some ((1 : Nat) : Int) from rfl, HT.sIx_nat]
  show (s.cps.toList.drop 0).take (min 1 s.cps.toList.length - 0) = _
  rw [List.drop_zero, Nat.sub_zero]
  by_cases h : 1 ≤ s.cps.toList.length
  · rw [show min 1 s.cps.toList.length = 1 by omega]
  · rw [show min 1 s.cps.toList.length = s.cps.toList.length by omega, List.take_length, List.take_of_length_le (by omega)]
theorem cut1b (s : Str) : (cutS s (some 1) none).cps.toList = s.cps.toList.drop 1 := by
  unfold cutS cutL
  rw [show (some (1 : Int)) = some ((1 : Nat) : Int) from rfl, HT.sIx_nat]
  show (s.cps.toList.drop (min 1 s.cps.toList.length)).take (s.cps.toList.length - min 1 s.cps.toList.length) = _
  by_cases h : 1 ≤ s.cps.toList.length
  · rw [show min 1 s.cps.toList.length = 1 by omega, List.take_of_length_le (by rw [List.length_drop]; omega)]
  · rw [show min 1 s.cps.toList.length = s.cps.toList.length by omega, List.drop_length, List.take_nil, List.drop_of_length_le (by omega)]
theorem ne_empty {s : Str} (h : s.cps.toList ≠ []) : s ≠ "" := fun z => h (by rw [z]; rfl)
/-- a text in two -/
theorem two_texts {s : Str} (hg : good s) (hl : 1 < s.length) : (good (cutS s none (some 1)) ∧ cutS s none (some 1) ≠ "") ∧ (good (cutS s (some 1) none) ∧ cutS s (some 1) none ≠ "") ∧ (cutS s none (some 1)).length ≤ s.length ∧ (cutS s (some 1) none).length ≤ s.length := by
  have ls := len_list s
  obtain ⟨a1, a2⟩ := good_cut hg none (some 1)
  obtain ⟨b1, b2⟩ := good_cut hg (some 1) none
  refine ⟨⟨a1, ne_empty fun z => ?_⟩, ⟨b1, ne_empty fun z => ?_⟩, a2, b2⟩
  · rw [cut1] at z
    have := congrArg List.length z
    rw [List.length_take, List.length_nil] at this; omega
  · rw [cut1b] at z
    have := congrArg List.length z
    rw [List.length_drop, List.length_nil] at this; omega
theorem rd_bentP {K : PySem.W.Frag} (vs : List V) (H : Hp) (Q : VK) (E : XK) (h : spBentP vs H Q E) : rdSs (rcx K [("_law_odd_part", spOddPart)] [] (E := E)) b_bentL (Dn Q) (start N_bentL vs) H := by
  obtain ⟨a, us, ps, c, n, rfl, ha, hv, hok, hch, hpl, hpt, hn, q⟩ := h
  have lv := Paired.length hv
  refine r_asg (r_bin (r_bin (r_v rfl (r_c ⟨⟨by decide, by decide⟩, r_bin (r_blt (r_cons (r_v rfl (r_nil (.inl ⟨us, SqL.of ha, r_c (addI' ⟨(by show (0 : Int) < (us.length : Int) + 1; omega), ?_⟩)⟩)))))⟩))))
  have g0 : 0 ≤ c / 8 % ((us.length : Int) + 1) := Int.emod_nonneg _ (by omega)
  have g1 : c / 8 % ((us.length : Int) + 1) < (us.length : Int) + 1 := Int.emod_lt_of_pos _ (by omega)
  obtain ⟨k, hk⟩ : ∃ k : Nat, (k : Int) = c / 8 % ((us.length : Int) + 1) := ⟨(c / 8 % ((us.length : Int) + 1)).toNat, by omega⟩
  show rdSs (ΓB K E) (b_bentL.drop 1) (Dn Q) [some (.ref a), some (.int c), some (.int n), some (.int (c / 8 % ((us.length : Int) + 1))), none, none, none, none] H
  rw [← hk] at g0 g1 ⊢
  refine r_ite (r_cmpT (r_bin (r_v rfl (r_c ⟨(by show (0 : Int) < 8; decide), r_c (ltI ⟨_, rfl, ?_⟩)⟩))))
  refine ite2 (fun _ => ?_) (fun _ => ?_)
  · -- a thing more
    refine r_ret (r_bin (r_bin ?_))
    refine ⟨_, rfl, _, rfl, _, rfl, .inl ⟨us, SqL.of ha, fun d1 f1 => ?_⟩⟩
    rw [cut_pre]
    have s1 := sameNew (o := .lst (us.take k)) f1
    refine r_lst (r_cons (r_callS spOddPart rfl (r_cons (r_bin (r_v rfl (r_c ⟨⟨by decide, by decide⟩, r_cons (r_v rfl (r_nil ⟨_, _, rfl, hn, fun x H2 s2 ox lx => r_nil ⟨(by show 1 ≤ sizeLine; decide), fun d2 f2 => ?_⟩⟩))⟩))))))
    have s3 := sameNew (o := .lst [x]) f2
    have ltk : (us.take k).length ≤ 305 := by rw [List.length_take]; omega
    refine .inl ⟨d1, d2, us.take k, [x], rfl, rfl, s3 _ _ (s2 _ _ upd_same), upd_same, le_line (by show (us.take k).length + 1 ≤ 1000000; omega), fun d3 f3 => ?_⟩
    have s4 := sameNew (o := .lst (us.take k ++ [x])) f3
    have s14 := ((s1.trans s2).trans s3).trans s4
    refine ⟨_, rfl, _, rfl, _, rfl, .inl ⟨us, SqL.of (s14 _ _ ha), fun d4 f4 => ?_⟩⟩
    rw [cut_suf]
    have s5 := sameNew (o := .lst (us.drop k)) f4
    refine .inl ⟨d3, d4, us.take k ++ [x], us.drop k, rfl, rfl, s5 _ _ upd_same, upd_same, le_line (by rw [List.length_append, List.length_drop]; show (us.take k).length + 1 + _ ≤ 1000000; omega), fun d5 f5 => ?_⟩
    have s6 := sameNew (o := .lst (us.take k ++ [x] ++ us.drop k)) f5
    have s16 := (s14.trans s5).trans s6
    refine q d5 _ _ s16 upd_same ⟨?_, ?_, .inr ?_⟩
    · rw [List.all_append, List.all_append, pts_like (pts_take k hv), pts_like (pts_drop k hv)]
      show (true && (likeV x && true) && true) = true
      rw [lx]; rfl
    · rw [List.length_append, List.length_append, List.length_drop]; show (us.take k).length + 1 + _ ≤ 1000; omega
    · refine ⟨us.take k, x, us.drop k, ps.take k, by rw [List.append_assoc]; rfl, (pts_take k hv).mono (tupsOf s16), fun p hp => hok p (List.mem_of_mem_take hp), chain_pre (ps.take k) (ps.drop k) "" (by rw [List.take_append_drop]; exact hch), .inl (ox.same ((s3.trans s4).trans (s5.trans s6)))⟩
  have good0 : ∀ H', Same H H' → Bent H' us := fun H' s => bent_of (hv.mono (tupsOf s)) hok (by omega) (by omega)
  refine r_ite (r_cmpT (r_v rfl (r_lst (r_nil ⟨Nat.zero_le _, fun d1 f1 => ?_⟩))))
  have s1 := sameNew (o := .lst []) f1
  refine eq_pts0 (s1 _ _ ha) upd_same (hv.mono (tupsOf s1)) (fun p hp => ok_s (hok p hp)) ⟨_, rfl, ?_⟩
  by_cases he : ps = []
  · refine iT ?_ (decide_eq_true he)
    exact r_ret (r_v rfl (q a _ us s1 (s1 _ _ ha) (good0 _ s1)))
  refine iF ?_ (decide_eq_false he)
  have hpos : 0 < us.length := by rw [lv]; exact List.length_pos_iff.mpr he
  have ha1 := s1 _ _ ha
  show rdSs (ΓB K E) (b_bentL.drop 3) (Dn Q) [some (.ref a), some (.int c), some (.int n), some (.int (k : Nat)), none, none, none, none] (upd H d1 (.lst []))
  generalize upd H d1 (.lst []) = H1 at s1 ha1 ⊢
  generalize (some (V.int ((k : Nat) : Int))) = w3
  clear hk g0 g1 k
  refine r_asg (r_bin (r_bin (r_v rfl (r_c ⟨⟨by decide, by decide⟩, r_blt (r_cons (r_v rfl (r_nil (.inl ⟨us, SqL.of ha1, ⟨(by show (0 : Int) < (us.length : Int); omega), ?_⟩⟩))))⟩))))
  have g0 : 0 ≤ c / 8 % (us.length : Int) := Int.emod_nonneg _ (by omega)
  have g1 : c / 8 % (us.length : Int) < (us.length : Int) := Int.emod_lt_of_pos _ (by omega)
  obtain ⟨k, hk⟩ : ∃ k : Nat, (k : Int) = c / 8 % (us.length : Int) := ⟨(c / 8 % (us.length : Int)).toNat, by omega⟩
  show rdSs (ΓB K E) (b_bentL.drop 4) (Dn Q) [some (.ref a), some (.int c), some (.int n), some (.int (c / 8 % (us.length : Int))), none, none, none, none] H1
  rw [← hk] at g0 g1 ⊢
  have hkl : k < us.length := by omega
  have huk : us[k]? = some us[k] := List.getElem?_eq_getElem hkl
  obtain ⟨p, hp, t, et, ht⟩ := hv.get huk
  rw [et] at huk
  have hpo := hok p (List.mem_of_getElem? hp)
  refine r_asgT (r_ix (r_v rfl (r_v rfl (.inl ⟨a, us, _, _, rfl, rfl, SqL.of ha1, atI_nat huk, gs_two (s1 _ _ ht) ?_⟩))))
  refine r_asg ?_
  refine ⟨_, rfl, _, rfl, _, rfl, .inl ⟨us, SqL.of ha1, fun l6 f6 => ?_⟩⟩
  rw [cut_pre]
  have s6 := sameNew (o := .lst (us.take k)) f6
  refine r_asg ?_
  refine ⟨_, rfl, _, rfl, _, rfl, .inl ⟨us, SqL.of (s6 _ _ ha1), fun l7 f7 => ?_⟩⟩
  have e7 : cutV us (some ((k : Int) + 1)) none = us.drop (k + 1) := by
    rw [show ((k : Int) + 1) = ((k + 1 : Nat) : Int) by omega, cut_suf]
  rw [e7]
  have s7 := sameNew (o := .lst (us.drop (k + 1))) f7
  have g6 : upd (upd H1 l6 (.lst (us.take k))) l7 (.lst (us.drop (k + 1))) l6 = some (.lst (us.take k)) := s7 _ _ upd_same
  have g7 : upd (upd H1 l6 (.lst (us.take k))) l7 (.lst (us.drop (k + 1))) l7 = some (.lst (us.drop (k + 1))) := upd_same
  have s17 := (s1.trans s6).trans s7
  show rdSs (ΓB K E) (b_bentL.drop 7) (Dn Q) [some (.ref a), some (.int c), some (.int n), some (.int (k : Nat)), some (.str p.word), some p.val, some (.ref l6), some (.ref l7)] (upd (upd H1 l6 (.lst (us.take k))) l7 (.lst (us.drop (k + 1))))
  generalize upd (upd H1 l6 (.lst (us.take k))) l7 (.lst (us.drop (k + 1))) = H2 at g6 g7 s17 ⊢
  have ltk : (us.take k).length + (us.drop (k + 1)).length ≤ 1000 := by rw [List.length_take, List.length_drop]; omega
  have hts := tot_split hp
  have htk := tot_take ps k
  -- what two parts in place of one make
  have fin2 : ∀ (p1 p2 : Pt) (b : Addr) (H' : Hp) (t1 t2 : Addr), Same H2 H' → okPt p1 → okPt p2 → tlen p1 ≤ 4000 → tlen p2 ≤ 4000 → H' b = some (.lst (us.take k ++ [.ref t1, .ref t2] ++ us.drop (k + 1))) → H' t1 = some (.tup [.str p1.word, p1.val]) → H' t2 = some (.tup [.str p2.word, p2.val]) → Q (.ref b) H' := by
    intro p1 p2 b H' t1 t2 s' o1 o2 tl1 tl2 hb h1 h2
    have s := s17.trans s'
    refine q b H' _ s hb (bent_of (ps := ps.take k ++ [p1, p2] ++ ps.drop (k + 1)) (Paired.app (Paired.app ((pts_take k hv).mono (tupsOf s)) (.cons ⟨t1, rfl, h1⟩ (.cons ⟨t2, rfl, h2⟩ .nil))) ((pts_drop (k + 1) hv).mono (tupsOf s))) (fun x hx => ?_) ?_ ?_)
    · rcases List.mem_append.mp hx with hx | hx
      · rcases List.mem_append.mp hx with hx | hx
        · exact hok x (List.mem_of_mem_take hx)
        · simp only [List.mem_cons, List.not_mem_nil, or_false] at hx
          rcases hx with rfl | rfl
          · exact o1
          · exact o2
      · exact hok x (List.mem_of_mem_drop hx)
    · rw [List.length_append, List.length_append, List.length_take, List.length_drop]; show _ + 2 + _ ≤ 1000; omega
    · rw [tot_app', tot_app']
      have : tot [p1, p2] = tlen p1 + (tlen p2 + 0) := rfl
      omega
  have tlp : tlen p ≤ 4000 := by omega
  have same2 : ∀ (H1 : Hp) (Q1 : VK), (∀ t, H1 t = none → Q1 (.ref t) (upd H1 t (.tup [.str p.word, p.val]))) → rdE (ΓB K E) (.tup [(.v 4), (.v 5)]) [some (.ref a), some (.int c), some (.int n), some (.int (k : Nat)), some (.str p.word), some p.val, some (.ref l6), some (.ref l7)] H1 Q1 := fun H1 Q1 h => r_tup (r_cons (r_v rfl (r_cons (r_v rfl (r_nil ⟨(by show 2 ≤ sizeLine; decide), h⟩)))))
  refine r_ite (r_cmpT (r_bin (r_v rfl (r_c ⟨(by show (0 : Int) < 8; decide), r_c (ceB fun b => ⟨_, rfl, ?_⟩)⟩))))
  refine ite2 (fun _ => ?_) (fun _ => ?_)
  · exact r_ret (two_between rfl rfl g6 g7 ltk (fun H1 Q1 _ h => same2 H1 Q1 h) (fun H1 Q1 _ h => same2 H1 Q1 h) fun b H' t1 t2 s' hb h1 h2 => fin2 p p b H' t1 t2 s' hpo hpo tlp tlp hb h1 h2)
  -- the end: as it was, or exchanged
  have last : rdSs (ΓB K E) (b_bentL.drop 10) (Dn Q) [some (.ref a), some (.int c), some (.int n), some (.int (k : Nat)), some (.str p.word), some p.val, some (.ref l6), some (.ref l7)] H2 := by
    refine r_ite (r_cmpT (r_bin (r_v rfl (r_c ⟨(by show (0 : Int) < 8; decide), r_c (ceB fun b => ⟨_, rfl, ?_⟩)⟩))))
    refine ite2 (fun _ => ?_) (fun _ => ?_)
    · refine r_ret (r_bin (r_bin (r_bin (r_v rfl ?_))))
      refine ⟨_, rfl, _, rfl, .inl ⟨_, SqL.of g7, fun d1 f1 => ?_⟩⟩
      rw [show (some (1 : Int)) = some ((1 : Nat) : Int) from rfl, cut_pre]
      have z1 := sameNew (o := .lst ((us.drop (k + 1)).take 1)) f1
      have l1 : ((us.drop (k + 1)).take 1).length ≤ 1 := by rw [List.length_take]; omega
      refine .inl ⟨l6, d1, us.take k, _, rfl, rfl, z1 _ _ g6, upd_same, le_line (by omega), fun d2 f2 => ?_⟩
      have z2 := sameNew (o := .lst (us.take k ++ (us.drop (k + 1)).take 1)) f2
      refine r_lst (r_cons (same2 _ _ fun t1 ft => r_nil ⟨(by show 1 ≤ sizeLine; decide), fun d3 f3 => ?_⟩))
      have z3 := sameNew (o := .tup [.str p.word, p.val]) ft
      have z4 := sameNew (o := .lst [V.ref t1]) f3
      refine .inl ⟨d2, d3, _, [V.ref t1], rfl, rfl, z4 _ _ (z3 _ _ upd_same), upd_same, le_line (by rw [List.length_append]; show (us.take k).length + _ + 1 ≤ 1000000; omega), fun d4 f4 => ?_⟩
      have z5 := sameNew (o := .lst (us.take k ++ (us.drop (k + 1)).take 1 ++ [V.ref t1])) f4
      have z15 := ((z1.trans z2).trans (z3.trans z4)).trans z5
      refine ⟨_, rfl, _, rfl, .inl ⟨_, SqL.of (z15 _ _ g7), fun d5 f5 => ?_⟩⟩
      rw [show (some (1 : Int)) = some ((1 : Nat) : Int) from rfl, cut_suf]
      have z6 := sameNew (o := .lst ((us.drop (k + 1)).drop 1)) f5
      have l2 : ((us.drop (k + 1)).drop 1).length ≤ 305 := by rw [List.length_drop, List.length_drop]; omega
      have l3 : (us.take k).length ≤ 305 := by rw [List.length_take]; omega
      refine .inl ⟨d4, d5, _, _, rfl, rfl, z6 _ _ upd_same, upd_same, le_line (by rw [List.length_append, List.length_append]; show (us.take k).length + _ + 1 + _ ≤ 1000000; omega), fun d6 f6 => ?_⟩
      have z7 := sameNew (o := .lst (us.take k ++ (us.drop (k + 1)).take 1 ++ [V.ref t1] ++ (us.drop (k + 1)).drop 1)) f6
      have z17 := (z15.trans z6).trans z7
      have s := s17.trans z17
      have ht1 := (z4.trans (z5.trans (z6.trans z7))) _ _ (upd_same (a := t1) (o := .tup [.str p.word, p.val]))
      refine q d6 _ _ s upd_same (bent_of (ps := ps.take k ++ (ps.drop (k + 1)).take 1 ++ [p] ++ (ps.drop (k + 1)).drop 1) (Paired.app (Paired.app (Paired.app ((pts_take k hv).mono (tupsOf s)) ((pts_take 1 (pts_drop (k + 1) hv)).mono (tupsOf s))) (.cons ⟨t1, rfl, ht1⟩ .nil)) ((pts_drop 1 (pts_drop (k + 1) hv)).mono (tupsOf s))) (fun x hx => ?_) ?_ ?_)
      · rcases List.mem_append.mp hx with hx | hx
        · rcases List.mem_append.mp hx with hx | hx
          · rcases List.mem_append.mp hx with hx | hx
            · exact hok x (List.mem_of_mem_take hx)
            · exact hok x (List.mem_of_mem_drop (List.mem_of_mem_take hx))
          · rw [List.mem_singleton.mp hx]; exact hpo
        · exact hok x (List.mem_of_mem_drop (List.mem_of_mem_drop hx))
      · simp only [List.length_append, List.length_take, List.length_drop, List.length_cons, List.length_nil]; omega
      · rw [tot_app', tot_app', tot_app']
        have e1 : tot (ps.drop (k + 1)) = tot ((ps.drop (k + 1)).take 1) + tot ((ps.drop (k + 1)).drop 1) := by rw [← tot_app', List.take_append_drop]
        have : tot [p] = tlen p + 0 := rfl
        omega
    · exact r_ret (r_v rfl (q a _ us s17 (s17 _ _ ha) (good0 _ s17)))
  -- a keep in two
  have texts : rdSs (ΓB K E) (b_bentL.drop 9) (Dn Q) [some (.ref a), some (.int c), some (.int n), some (.int (k : Nat)), some (.str p.word), some p.val, some (.ref l6), some (.ref l7)] H2 := by
    refine r_ite (r_andC (r_cmpT (r_bin (r_v rfl (r_c ⟨(by show (0 : Int) < 8; decide), r_c (ceB fun b => ⟨_, rfl, ?_⟩)⟩)))))
    refine ite2 (fun _ => ?_) (fun _ => iF last rfl)
    refine r_andC (r_cmpT (r_v rfl (r_c (cn_str ⟨_, rfl, ?_⟩))))
    have txt : ∀ s : Str, p.val = .str s → good s → tlen p = s.length → (∀ z : Str, good z → z ≠ "" → z.length ≤ 4000 → ∃ p' : Pt, p'.word = p.word ∧ p'.val = .str z ∧ okPt p' ∧ tlen p' ≤ 4000) → rdT (ΓB K E) (.and [(.cmp .Gt (.blt .len [(.v 5)]) (.c (.int 1)))]) [some (.ref a), some (.int c), some (.int n), some (.int (k : Nat)), some (.str p.word), some p.val, some (.ref l6), some (.ref l7)] H2 fun b H3 => if b = true then rdSs (ΓB K E) [.ret (.bin .Add (.bin .Add (.v 6) (.lst [(.tup [(.v 4), (.sl (.v 5) none (some (.c (.int 1))))]), (.tup [(.v 4), (.sl (.v 5) (some (.c (.int 1))) none)])])) (.v 7))] { (Dn Q) with nx := rdSs (ΓB K E) (b_bentL.drop 10) (Dn Q) } [some (.ref a), some (.int c), some (.int n), some (.int (k : Nat)), some (.str p.word), some p.val, some (.ref l6), some (.ref l7)] H3 else rdSs (ΓB K E) [] { (Dn Q) with nx := rdSs (ΓB K E) (b_bentL.drop 10) (Dn Q) } [some (.ref a), some (.int c), some (.int n), some (.int (k : Nat)), some (.str p.word), some p.val, some (.ref l6), some (.ref l7)] H3 := by
      intro s hvs hg htl hmk
      have lst := last
      rw [hvs] at lst ⊢
      have le : s.length ≤ sizeLine := le_line hg.1
      refine r_and1 (r_cmpT (r_blt (r_cons (r_v rfl (r_nil ⟨le, r_c (gtI ⟨_, rfl, ?_⟩)⟩)))))
      refine ite2 (fun h1 => ?_) (fun _ => lst)
      have h1' : 1 < s.length := by have := of_decide_eq_true h1; omega
      obtain ⟨⟨a1, a2⟩, ⟨b1, b2⟩, a3, b3⟩ := two_texts hg h1'
      obtain ⟨p1, w1, v1, o1, t1⟩ := hmk _ a1 a2 (by omega)
      obtain ⟨p2, w2, v2, o2, t2⟩ := hmk _ b1 b2 (by omega)
      refine r_ret (two_between (v1 := .str p.word) (v2 := .str p.word) (w1 := .str (cutS s none (some 1))) (w2 := .str (cutS s (some 1) none)) rfl rfl g6 g7 ltk (fun H1 Q1 _ h => ?_) (fun H1 Q1 _ h => ?_) fun b H' t1' t2' s' hb h1 h2 => fin2 p1 p2 b H' t1' t2' s' o1 o2 t1 t2 hb (by rw [w1, v1]; exact h1) (by rw [w2, v2]; exact h2))
      · refine r_tup (r_cons (r_v rfl (r_cons ?_)))
        exact ⟨_, rfl, _, rfl, le, r_nil (Γ := ΓB K E) (σ := [some (.ref a), some (.int c), some (.int n), some (.int (k : Nat)), some (.str p.word), some (.str s), some (.ref l6), some (.ref l7)]) ⟨(by show 2 ≤ sizeLine; decide), h⟩⟩
      · refine r_tup (r_cons (r_v rfl (r_cons ?_)))
        exact ⟨_, rfl, _, rfl, le, r_nil (Γ := ΓB K E) (σ := [some (.ref a), some (.int c), some (.int n), some (.int (k : Nat)), some (.str p.word), some (.str s), some (.ref l6), some (.ref l7)]) ⟨(by show 2 ≤ sizeLine; decide), h⟩⟩
    cases p with
    | keep m => exact iF (iF last rfl) (show (Str.ofString "keep" != Str.ofString "keep") = false by decide +kernel)
    | put s => exact iT (txt s rfl hpo.1 rfl fun z hz hn hl => ⟨.put z, rfl, rfl, ⟨hz, hn⟩, hl⟩) (show (Str.ofString "put" != Str.ofString "keep") = true by decide +kernel)
    | cut s => exact iT (txt s rfl hpo.1 rfl fun z hz hn hl => ⟨.cut z, rfl, rfl, ⟨hz, hn⟩, hl⟩) (show (Str.ofString "cut" != Str.ofString "keep") = true by decide +kernel)
  refine r_ite (r_andC (r_cmpT (r_bin (r_v rfl (r_c ⟨(by show (0 : Int) < 8; decide), r_c (ceB fun b => ⟨_, rfl, ?_⟩)⟩)))))
  refine ite2 (fun _ => ?_) (fun _ => iF texts rfl)
  refine r_andC (r_cmpT (r_v rfl (r_c (ce_str ⟨_, rfl, ?_⟩))))
  cases p with
  | put s => exact iF (iF texts rfl) (show (Str.ofString "put" == Str.ofString "keep") = false by decide +kernel)
  | cut s => exact iF (iF texts rfl) (show (Str.ofString "cut" == Str.ofString "keep") = false by decide +kernel)
  | keep m =>
    refine iT ?_ (show (Str.ofString "keep" == Str.ofString "keep") = true by decide +kernel)
    refine r_and1 (r_cmpT (r_v rfl (r_c (gtI ⟨_, rfl, ?_⟩))))
    refine ite2 (fun h1 => ?_) (fun _ => texts)
    have h1' : (1 : Int) < m := of_decide_eq_true h1
    refine r_ret (two_between (v1 := .str "keep") (v2 := .str "keep") (w1 := .int 1) (w2 := .int (m - 1)) rfl rfl g6 g7 ltk (fun H1 Q1 _ h => ?_) (fun H1 Q1 _ h => ?_) fun b H' t1' t2' s' hb h1 h2 => fin2 (.keep 1) (.keep (m - 1)) b H' t1' t2' s' (Int.le_refl _) (show (1 : Int) ≤ m - 1 by omega) (Nat.zero_le _) (Nat.zero_le _) hb h1 h2)
    · exact r_tup (r_cons (r_v rfl (r_cons (r_c (r_nil ⟨(by show 2 ≤ sizeLine; decide), h⟩)))))
    · exact r_tup (r_cons (r_v rfl (r_cons (r_bin (r_v rfl (r_c ⟨trivial, r_nil ⟨(by show 2 ≤ sizeLine; decide), h⟩⟩))))))
end L2.K01
set_option maxRecDepth 100000
set_option maxHeartbeats 4000000
namespace L2.K01
open PySem PySem.Spec L2.B
/-! ### back, refused -/
def spBackB (C : Addr) : Sp := spNeedB C
theorem rd_backB {K : PySem.W.Frag} {p C : Addr} (vs : List V) (H : Hp) (Q : VK) (E : XK) (h : spBackB C vs H Q E) : rdSs (rcx K [("need_change", spNeedB C), ("neat", spNeat)] [("WAYS_BACK", .ref p)] [(p, WB)] (E := E)) b_back (Dn Q) (start N_back vs) H := by
  obtain ⟨v, rfl, hn, q⟩ := h
  exact ⟨_, rfl, v, rfl, hn, q⟩
/-! ### _law_refusal -/
def Found (k : Int) (w : V) (H : Hp) : Prop := (k = 1 ∧ w = .non) ∨ (k = 2 ∧ ∃ t i j, w = .ref t ∧ H t = some (.tup [.int i, .int j])) ∨ (k = 3 ∧ ∃ b ys rs, w = .ref b ∧ H b = some (.lst ys) ∧ PtsV H ys rs ∧ ∀ p ∈ rs, sOk p)
def spRefusal : Sp := fun vs H Q E => ∃ (k : Int) (v : V), vs = [.int k, v] ∧ ((k = 0 ∧ ((∃ x, v = .str x ∧ good x ∧ Q .non H) ∨ (BadT v H ∧ ∀ H', Same H H' → Q (.str "text") H'))) ∨ ((k = 1 ∨ k = 2 ∨ k = 3) ∧ ((NoChange v H ∧ ∀ H', Same H H' → Q (.str "change") H') ∨
  ∃ a us ps, v = .ref a ∧ H a = some (.lst us) ∧ PtsV H us ps ∧ (∀ p ∈ ps, okPt p) ∧ chainOk "" ps = true ∧ ps.length ≤ 1000 ∧ tot ps ≤ 20000 ∧ ∀ w H', Same H H' → Found k w H' → Q w H')))
abbrev tRef (CT CC : Addr) : List (Str × Sp) := [("need_text", spNeedTX CT), ("need_change", spOr spNeed (spNeedB CC)), ("sizes", spOr spSizes (spSizesB CC)), ("back", spOr spBack (spBackB CC))]
theorem rd_refusal {K : PySem.W.Frag} {cs : List Addr} {ink CT CC : Addr} (kT : Kits K cs ink CT 0) (kC : Kits K cs ink CC 1) (xT : PySem.W.exmOne K (.ref CT) (.ref ink) = some true) (xC : PySem.W.exmOne K (.ref CC) (.ref ink) = some true)
    (vs : List V) (H : Hp) (Q : VK) (E : XK) (h : spRefusal vs H Q E) :
    rdSs (rcx K (tRef CT CC) [("InkError", .ref ink)] (ht := [("_law_word", spWordL K cs ink)]) (E := E)) b_refusalL (Dn Q) (start N_refusalL vs) H := by
  obtain ⟨k, v, rfl, h⟩ := h
  have su : ∀ (D : Addr) (j : Nat) (w : Str) (H1 : Hp), Kits K cs ink D j → j < 13 → wordN.getD j "" = w → PySem.W.exmOne K (.ref D) (.ref ink) = some true → (∀ H', Same H1 H' → Q (.str w) H') →
      eTry K ink 2 3 (fun ea => rdSs { rcx K (tRef CT CC) [("InkError", .ref ink)] (ht := [("_law_word", spWordL K cs ink)]) (E := E) with E := E0, hv := some ea } [.ret (.wrd 0 (.v 2))]) (Dn Q) (.ref D) none H1 := by
    intro D j w H1 hk hj hw hx q
    refine ⟨hx, fun ea ob vs σ' hea hl hob => ?_⟩
    have s1 := sameNew (o := .frz ob excU) hea
    have he : ExcAt (upd H1 ea (.frz ob excU)) ea D := ⟨ob, vs, upd_same, hob⟩
    refine ⟨_, (by rw [List.getElem?_set_self (by omega)]), ⟨ea, D, rfl, he⟩, ea, D, j, rfl, he, hk, hj, fun H2 s2 => ?_⟩
    rw [hw]
    exact q _ (s1.trans s2)
  refine ⟨ink, rfl, ?_⟩
  rcases h with ⟨rfl, h⟩ | ⟨hk, h⟩
  · refine r_ite (r_cmpT (r_v rfl (r_c (ceI ⟨_, rfl, iT ?_ rfl⟩))))
    refine r_ret (r_callS (spNeedTX CT) rfl (r_cons (r_v rfl (r_nil ⟨v, rfl, ?_⟩))))
    rcases h with ⟨x, rfl, hx, q⟩ | ⟨hb, q⟩
    · exact .inl ⟨x, rfl, hx, q⟩
    · exact .inr ⟨hb, su CT 0 "text" H kT (by decide) rfl xT q⟩
  · rcases hk with rfl | rfl | rfl
    · refine r_ite (r_cmpT (r_v rfl (r_c (ceI ⟨_, rfl, iF ?_ rfl⟩))))
      refine r_ite (r_cmpT (r_v rfl (r_c (ceI ⟨_, rfl, iT ?_ rfl⟩))))
      refine r_ret (r_callS (spOr spNeed (spNeedB CC)) rfl (r_cons (r_v rfl (r_nil ?_))))
      rcases h with ⟨hn, q⟩ | ⟨a, us, ps, rfl, ha, hv, hok, hch, hl, ht, q⟩
      · exact .inr ⟨v, rfl, hn, fun H1 s1 => su CC 1 "change" H1 kC (by decide) rfl xC fun H' s' => q H' (s1.trans s')⟩
      · exact .inl ⟨a, us, ps, rfl, ha, hv, hok, hch, fun H1 s1 => q _ _ s1 (.inl ⟨rfl, rfl⟩)⟩
    · refine r_ite (r_cmpT (r_v rfl (r_c (ceI ⟨_, rfl, iF ?_ rfl⟩))))
      refine r_ite (r_cmpT (r_v rfl (r_c (ceI ⟨_, rfl, iF ?_ rfl⟩))))
      refine r_ite (r_cmpT (r_v rfl (r_c (ceI ⟨_, rfl, iT ?_ rfl⟩))))
      refine r_ret (r_callS (spOr spSizes (spSizesB CC)) rfl (r_cons (r_v rfl (r_nil ?_))))
      rcases h with ⟨hn, q⟩ | ⟨a, us, ps, rfl, ha, hv, hok, hch, hl, ht, q⟩
      · exact .inr ⟨v, rfl, hn, fun H1 s1 => su CC 1 "change" H1 kC (by decide) rfl xC fun H' s' => q H' (s1.trans s')⟩
      · exact .inl ⟨a, us, ps, rfl, ha, hv, hok, hch, by omega, fun t H1 s1 h1 => q _ _ s1 (.inr (.inl ⟨rfl, t, _, _, rfl, h1⟩))⟩
    · refine r_ite (r_cmpT (r_v rfl (r_c (ceI ⟨_, rfl, iF ?_ rfl⟩))))
      refine r_ite (r_cmpT (r_v rfl (r_c (ceI ⟨_, rfl, iF ?_ rfl⟩))))
      refine r_ite (r_cmpT (r_v rfl (r_c (ceI ⟨_, rfl, iF ?_ rfl⟩))))
      refine r_ret (r_callS (spOr spBack (spBackB CC)) rfl (r_cons (r_v rfl (r_nil ?_))))
      rcases h with ⟨hn, q⟩ | ⟨a, us, ps, rfl, ha, hv, hok, hch, hl, ht, q⟩
      · exact .inr ⟨v, rfl, hn, fun H1 s1 => su CC 1 "change" H1 kC (by decide) rfl xC fun H' s' => q H' (s1.trans s')⟩
      · have hraw := swps_raw (raws hok (by omega))
        obtain ⟨_, n2, _⟩ := neat_change (swps ps) hraw (by rw [tot_swps]; omega)
        refine .inl ⟨a, us, ps, rfl, ha, hv, hok, hch, by omega, by omega, fun b H1 ys s1 _ h1 h2 => q _ _ s1 (.inr (.inr ⟨rfl, b, ys, _, rfl, h1, h2, fun p hp => ?_⟩))⟩
        rw [neat_eq _ hraw] at hp
        exact ok_s (n2 p hp)
/-! ### _law_bent_good -/
def spBentGood : Sp := fun vs H Q E => ∃ (a : Addr) (us : List V), vs = [.ref a] ∧ H a = some (.lst us) ∧ Bent H us ∧ ∀ H', Same H H' → Q (.bl true) H'
/-- what is found is no word -/
theorem eq_found {K : PySem.W.Frag} {H : Hp} {w : V} {k : Int} {Q : VK} (h : Found k w H) (q : Q (.bl false) H) : rCmp K .Eq w (.str "change") H Q := by
  have sc : SeqAt.shaped (.str (Str.ofString "change")) = true := by decide +kernel
  rcases h with ⟨_, rfl⟩ | ⟨_, t, i, j, rfl, ht⟩ | ⟨_, b, ys, rs, rfl, hb, hv, ho⟩
  · show Q (.bl (false ^^ decide (V.non = V.str "change"))) H
    rw [decide_eq_false (fun z => by cases z)]; exact q
  · exact ⟨.tuple [.int i, .int j], .str "change", ⟨t, _, rfl, ht, .int i, _, rfl, rfl, .int j, _, rfl, rfl, rfl⟩, rfl, rfl, sc, q⟩
  · exact ⟨.list (rs.map toD), .str "change", ⟨b, ys, rfl, hb, isD hv⟩, rfl, shaped_ok ho, sc, q⟩
section
variable {Γ : RCx} {σ : St} {H : Hp} {Q : VK}
theorem r_for1T {j : Nat} {e : RE} {body r : List RS} {D : Ends} (h : rdE Γ e σ H fun x H1 => ∃ q, x = .ref q ∧ (∃ xs, SqT Γ.K H1 q xs) ∧ ∃ W : Nat → Nat → St → Hp → Prop, (∃ m, W 0 m σ H1) ∧ ∀ i m σ H, W i m σ H →
      ((Itt Γ.K q).stop i H ∧ rdSs Γ r D σ H) ∨ ((Itt Γ.K q).go i H ∧ ∃ N : St → Hp → Prop, (∀ σ' H', N σ' H' → ∃ m', m' < m ∧ W (i + 1) m' σ' H') ∧ ∀ x H', (Itt Γ.K q).yld i H x H' → gName j x σ H' fun σ2 H2 => rdSs Γ body { D with nx := N, ct := N, bk := rdSs Γ r D } σ2 H2)) : rdSs Γ (.for1 j .tup [e] body :: r) D σ H := h
theorem loop_tup {q : Addr} {xs : List V} {j : Nat} {body r : List RS} {D : Ends} (Pv : Nat → St → Hp → Prop) (h0 : Pv 0 σ H) (hl : ∀ i σ H, i ≤ xs.length → Pv i σ H → SqT Γ.K H q xs)
    (hs : ∀ i x σ H, xs[i]? = some x → Pv i σ H → gName j x σ H fun σ2 H2 => rdSs Γ body { D with nx := Pv (i + 1), ct := Pv (i + 1), bk := rdSs Γ r D } σ2 H2) (hd : ∀ σ H, Pv xs.length σ H → rdSs Γ r D σ H) :
    ∃ W : Nat → Nat → St → Hp → Prop, (∃ m, W 0 m σ H) ∧ ∀ i m σ H, W i m σ H →
      ((Itt Γ.K q).stop i H ∧ rdSs Γ r D σ H) ∨ ((Itt Γ.K q).go i H ∧ ∃ N : St → Hp → Prop, (∀ σ' H', N σ' H' → ∃ m', m' < m ∧ W (i + 1) m' σ' H') ∧ ∀ x H', (Itt Γ.K q).yld i H x H' → gName j x σ H' fun σ2 H2 => rdSs Γ body { D with nx := N, ct := N, bk := rdSs Γ r D } σ2 H2) :=
  for_tup (K := Γ.K) (D := { D with nx := rdSs Γ r D }) (g := gName j) (tb := rdSs Γ body) Pv h0 hl hs hd
theorem ceBl {K : PySem.W.Frag} {x y : Bool} (q : Q (.bl (x == y)) H) : rCmp K .Eq (.bl x) (.bl y) H Q := by
  show Q (.bl (false ^^ decide (V.bl x = V.bl y))) H
  rw [show (false ^^ decide (V.bl x = V.bl y)) = (x == y) by cases x <;> cases y <;> decide]; exact q
theorem isnotN {K : PySem.W.Frag} (q : Q (.bl false) H) : rCmp K .IsNot .non .non H Q := ⟨rfl, q⟩
theorem r_vT {i : Nat} {b : Bool} {QT : Bool → Hp → Prop} (h : σ[i]? = some (some (.bl b))) (q : QT b H) : rdT Γ (.v i) σ H QT := ⟨_, h, q⟩
end
theorem rd_bentGood {K : PySem.W.Frag} (vs : List V) (H : Hp) (Q : VK) (E : XK) (h : spBentGood vs H Q E) : rdSs (rcx K [("_law_is_change", spIsCh), ("_law_refusal", spRefusal)] [] (E := E)) b_bent_goodL (Dn Q) (start N_bent_goodL vs) H := by
  obtain ⟨a, us, rfl, ha, ⟨hlk, hul, hb⟩, q⟩ := h
  -- good or odd
  have cases2 : (∃ ps, PtsV H us ps ∧ (∀ p ∈ ps, okPt p) ∧ chainOk "" ps = true ∧ ps.length ≤ 1000 ∧ tot ps ≤ 20000) ∨ ChOdd H us := by
    rcases hb with ⟨ps, hv, ho, hl, ht⟩ | hb
    · cases hc : chainOk "" ps with
      | true => exact .inl ⟨ps, hv, ho, hc, hl, ht⟩
      | false => exact .inr (odd_of_chain hv ho hc)
    · exact .inr hb
  have fin : ∀ g : Bool, (g = true → ∃ ps, PtsV H us ps ∧ (∀ p ∈ ps, okPt p) ∧ chainOk "" ps = true ∧ ps.length ≤ 1000 ∧ tot ps ≤ 20000) → (g = false → ChOdd H us) → ∀ H1, Same H H1 →
      rdSs (rcx K [("_law_is_change", spIsCh), ("_law_refusal", spRefusal)] [] (E := E)) (b_bent_goodL.drop 1) (Dn Q) [some (.ref a), some (.bl g), none, none, none] H1 := by
    intro g hg1 hg0 H1 s1
    refine r_asg (r_blt (r_cons (r_v rfl (r_nil ⟨us, .inl (SqL.of (s1 _ _ ha)), fun l fl => ?_⟩))))
    have s2 := sameNew (o := .lst us) fl
    have hl2 : upd H1 l (.lst us) l = some (.lst us) := upd_same
    generalize upd H1 l (.lst us) = H2 at s2 hl2 ⊢
    refine r_for1T (r_tup (r_cons (r_c (r_cons (r_c (r_cons (r_c (r_nil ⟨(by show 3 ≤ sizeLine; decide), fun t ft => ?_⟩))))))))
    have s3 := sameNew (o := .tup [V.int 1, V.int 2, V.int 3]) ft
    have ht3 : upd H2 t (.tup [V.int 1, V.int 2, V.int 3]) t = some (.tup [V.int 1, V.int 2, V.int 3]) := upd_same
    generalize upd H2 t (.tup [V.int 1, V.int 2, V.int 3]) = H3 at s3 ht3 ⊢
    have s13 := (s1.trans s2).trans s3
    refine ⟨t, rfl, ⟨_, SqT.of ht3⟩, loop_tup (q := t) (xs := [V.int 1, V.int 2, V.int 3]) (fun i σ H4 => ∃ u3 u4 : Option V, σ = [some (.ref a), some (.bl g), some (.ref l), u3, u4] ∧ Same H3 H4) ⟨none, none, rfl, Same.refl _⟩ (fun i σ H4 _ ⟨_, _, _, s⟩ => SqT.of (s _ _ ht3)) ?_ ?_⟩
    · rintro i y σ H4 hi ⟨u3, u4, rfl, s4⟩
      obtain ⟨k, rfl, hk⟩ : ∃ k : Int, y = .int k ∧ (k = 1 ∨ k = 2 ∨ k = 3) := by
        have hm := List.mem_of_getElem? hi
        simp only [List.mem_cons, List.not_mem_nil, or_false] at hm
        rcases hm with rfl | rfl | rfl
        · exact ⟨1, rfl, .inl rfl⟩
        · exact ⟨2, rfl, .inr (.inl rfl)⟩
        · exact ⟨3, rfl, .inr (.inr rfl)⟩
      have s14 := s13.trans s4
      have hl4 := s4 _ _ (s3 _ _ hl2)
      refine r_asg (r_callS spRefusal rfl (r_cons (r_v rfl (r_cons (r_v rfl (r_nil ⟨k, _, rfl, .inr ⟨hk, ?_⟩⟩))))))
      cases g with
      | true =>
        obtain ⟨ps, hv, ho, hc, hpl, hpt⟩ := hg1 rfl
        refine .inr ⟨l, us, ps, rfl, hl4, hv.mono (tupsOf s14), ho, hc, hpl, hpt, fun w H5 s5 hf => ?_⟩
        refine r_ite (r_cmpT (r_cmp (r_v rfl (r_c (eq_found hf (r_v rfl (ceBl ⟨_, rfl, iF ?_ rfl⟩)))))))
        refine r_ite (r_andC (r_vT rfl (iT ?_ rfl)))
        rcases hf with ⟨rfl, rfl⟩ | ⟨rfl, _⟩ | ⟨rfl, _⟩
        · refine r_andC (r_cmpT (r_v rfl (r_c (ceI ⟨_, rfl, iT ?_ rfl⟩))))
          exact r_and1 (r_cmpT (r_v rfl (r_c (isnotN ⟨_, rfl, iF ⟨_, _, rfl, s4.trans s5⟩ rfl⟩))))
        · exact r_andC (r_cmpT (r_v rfl (r_c (ceI ⟨_, rfl, iF (iF ⟨_, _, rfl, s4.trans s5⟩ rfl) rfl⟩))))
        · exact r_andC (r_cmpT (r_v rfl (r_c (ceI ⟨_, rfl, iF (iF ⟨_, _, rfl, s4.trans s5⟩ rfl) rfl⟩))))
      | false =>
        refine .inl ⟨.inr ⟨l, us, rfl, hl4, ((hg0 rfl).same s14).bad⟩, fun H5 s5 => ?_⟩
        refine r_ite (r_cmpT (r_cmp (r_v rfl (r_c (ce_str ?_)))))
        rw [show (Str.ofString "change" == Str.ofString "change") = true by decide +kernel]
        refine r_v rfl (ceBl ⟨_, rfl, iF ?_ rfl⟩)
        exact r_ite (r_andC (r_vT rfl (iF (iF ⟨_, _, rfl, s4.trans s5⟩ rfl) rfl)))
    · rintro σ H4 ⟨u3, u4, rfl, s4⟩
      have s14 := s13.trans s4
      refine r_ret ?_
      exact ⟨_, rfl, _, rfl, .inr ⟨l, a, us, rfl, rfl, s4 _ _ (s3 _ _ hl2), s14 _ _ ha, hlk, q _ s14⟩⟩
  refine r_asg (r_callS spIsCh rfl (r_cons (r_v rfl (r_nil ⟨a, us, rfl, ha, ?_⟩))))
  rcases cases2 with ⟨ps, hv, ho, hc, hl, ht⟩ | hb
  · exact .inl ⟨ps, hv, ho, hc, fun H1 s1 => fin true (fun _ => ⟨ps, hv, ho, hc, hl, ht⟩) (fun z => by cases z) H1 s1⟩
  · exact .inr ⟨hb, fun H1 s1 => fin false (fun z => by cases z) (fun _ => hb) H1 s1⟩
end L2.K01
set_option maxRecDepth 100000
set_option maxHeartbeats 4000000
namespace L2.K01
open PySem PySem.Spec L2.B
abbrev tLaw (K : PySem.W.Frag) : List (Str × Sp) := [("_law_cell_at", spCell K), ("_law_text", spTextL), ("_law_size", spSizeL), ("is_text", spTextX), ("_law_refusal", spRefusal), ("is_whole", spWholeX), ("_law_change", spChange), ("_law_bent_good", spBentGood), ("_law_bent", spBentP), ("_law_mixed", spMixed)]
abbrev ΓL (K : PySem.W.Frag) (E : XK) : RCx := rcx K (tLaw K) [] (E := E)
def spLaw (K : PySem.W.Frag) : Sp := fun vs H Q E => ∃ (a : Addr) (ns : List Int), vs = [.ref a] ∧ SqL K H a (ns.map V.int) ∧ ∀ H', Q (.bl true) H'
theorem eq_three {K : PySem.W.Frag} {H : Hp} {a b : Addr} {Q : VK} (ha : H a = some (.lst [.str "change", .str "change", .str "change"])) (hb : H b = some (.lst [.str "change", .str "change", .str "change"])) (q : Q (.bl true) H) : rCmp K .Eq (.ref a) (.ref b) H Q := by
  have is : ∀ {c : Addr}, H c = some (.lst [.str "change", .str "change", .str "change"]) → Is H (.list [.str "change", .str "change", .str "change"]) (.ref c) := fun {c} h => ⟨c, _, rfl, h, .str "change", _, rfl, rfl, .str "change", _, rfl, rfl, .str "change", _, rfl, rfl, rfl⟩
  refine ⟨.list [.str "change", .str "change", .str "change"], .list [.str "change", .str "change", .str "change"], is ha, is hb, (by decide +kernel), (by decide +kernel), ?_⟩
  rw [show PyData.eqv (.list [.str (Str.ofString "change"), .str (Str.ofString "change"), .str (Str.ofString "change")]) (.list [.str (Str.ofString "change"), .str (Str.ofString "change"), .str (Str.ofString "change")]) = true by decide +kernel]
  exact q
section
variable {K : PySem.W.Frag} {a : Addr} {ns : List Int} {Q : VK} {E : XK}
theorem r_cell {H H1 : Hp} {σ : St} {Q' : VK} (ha : SqL K H a (ns.map V.int)) (i : Int) (s1 : Same H H1) (e0 : σ[0]? = some (some (.ref a))) (hi : 0 ≤ i) (q : Q' (.int (cell ns i.toNat)) H1) : rdE (ΓL K E) (.call 0 [(.v 0), (.c (.int i))]) σ H1 Q' :=
  r_callS (spCell K) rfl (r_cons (r_v e0 (r_cons (r_c (r_nil ⟨a, ns, i, rfl, s1.seq ha, hi, q⟩)))))
/-- the words of what is no list -/
theorem law_words (k : ∀ H', Q (.bl true) H') {H1 : Hp} {v : V} {u0 u1 u2 u3 u4 u5 u6 u7 u8 u9 u10 : Option V} (hv : NotTy .list v H1) :
    rdSs (ΓL K E) (b_law.drop 21) (Dn Q) [u0, u1, u2, u3, u4, u5, u6, u7, u8, u9, u10, some v, none] H1 := by
  refine rd_asgC ?_
  refine ⟨(by show 3 ≤ sizeLine; decide), fun t ft => ?_⟩
  have s1 := sameNew (o := .tup [V.int 1, V.int 2, V.int 3]) ft
  have ht : upd H1 t (.tup [V.int 1, V.int 2, V.int 3]) t = some (.tup [V.int 1, V.int 2, V.int 3]) := upd_same
  generalize upd H1 t (.tup [V.int 1, V.int 2, V.int 3]) = H2 at s1 ht ⊢
  refine ⟨t, rfl, ⟨_, SqT.of ht⟩, fun i m ys H3 => m = 3 - i ∧ i ≤ 3 ∧ Same H2 H3 ∧ ys = List.replicate i (V.str "change"), ⟨_, rfl, Nat.zero_le _, Same.refl _, rfl⟩, ?_⟩
  rintro i m ys H3 ⟨rfl, hi, s3, rfl⟩
  by_cases hlt : i < 3
  · have hit : ([V.int 1, V.int 2, V.int 3] : List V)[i]? = some ([V.int 1, V.int 2, V.int 3] : List V)[i] := List.getElem?_eq_getElem hlt
    refine .inr ⟨⟨_, _, SqT.of (s3 _ _ ht), hit⟩, ?_⟩
    rintro y H4 ⟨rfl, hy⟩
    have hy' := hy _ (SqT.of (s3 _ _ ht))
    obtain ⟨w, rfl, hk⟩ : ∃ w : Int, y = .int w ∧ (w = 1 ∨ w = 2 ∨ w = 3) := by
      have hm := List.mem_of_getElem? hy'
      simp only [List.mem_cons, List.not_mem_nil, or_false] at hm
      rcases hm with rfl | rfl | rfl
      · exact ⟨1, rfl, .inl rfl⟩
      · exact ⟨2, rfl, .inr (.inl rfl)⟩
      · exact ⟨3, rfl, .inr (.inr rfl)⟩
    refine ⟨_, rfl, _, rfl, w, v, rfl, .inr ⟨hk, .inl ⟨.inl (hv.same (s1.trans s3)), fun H5 s5 => ?_⟩⟩⟩
    refine ⟨lt_line (by rw [List.length_replicate]; omega), 3 - (i + 1), by omega, rfl, hlt, s3.trans s5, ?_⟩
    rw [List.replicate_succ']
  · have hie : i = 3 := by omega
    subst hie
    refine .inl ⟨⟨_, SqT.of (s3 _ _ ht), Nat.le_refl _⟩, fun p hp => ?_⟩
    have s4 := sameNew (o := .lst (List.replicate 3 (V.str "change"))) hp
    refine r_ret (r_cmp (r_v rfl (r_bin (r_lst (r_cons (r_c (r_nil ⟨(by show 1 ≤ sizeLine; decide), fun l fl => r_c ?_⟩)))))))
    have s5 := sameNew (o := .lst [V.str "change"]) fl
    refine ⟨l, 3, [V.str "change"], rfl, rfl, upd_same, by decide, by decide, (by show 1 * 3 ≤ sizeLine; decide), fun r fr => ?_⟩
    have s6 := sameNew (o := .lst (List.replicate (3 : Int).toNat [V.str "change"]).flatten) fr
    exact eq_three (s6 _ _ (s5 _ _ upd_same)) upd_same (k _)
theorem law_strange (k : ∀ H', Q (.bl true) H') {H1 : Hp} {b9 : Addr} {us : List V} {u1 u2 u3 u4 u5 u6 u7 u8 u10 : Option V} (ha : SqL K H1 a (ns.map V.int)) (h9 : H1 b9 = some (.lst us)) :
    rdSs (ΓL K E) (b_law.drop 19) (Dn Q) [some (.ref a), u1, u2, u3, u4, u5, u6, u7, u8, some (.ref b9), u10, none, none] H1 := by
  refine r_asg (r_lst (r_cons (r_c (r_cons (r_c (r_cons (r_blt (r_cons (r_v rfl (r_nil ⟨us, .inl ⟨SqL.of h9, fun l1 f1 => ?_⟩⟩)))))))))) 
  refine r_cons (r_c (r_cons (r_dct fun l2 f2 => r_cons (r_tup (r_cons (r_c (r_cons (r_c (r_nil ⟨(by show 2 ≤ sizeLine; decide), fun l3 f3 => r_cons (r_c (r_nil ⟨(by show 7 ≤ sizeLine; decide), fun l4 f4 => ?_⟩))⟩)))))))))
  have s1 := sameNew (o := .tup us) f1
  have s2 := sameNew (o := .dK []) f2
  have s3 := sameNew (o := .tup [V.str "keep", V.int 1]) f3
  generalize hits : [V.non, .str "keep", .ref l1, .int 7, .ref l2, .ref l3, .bl true] = its at f4 ⊢
  have s4 := sameNew (o := .lst its) f4
  have hit : its.length = 7 := by rw [← hits]; rfl
  have bads : ∀ v ∈ its, NotTy .list v (upd (upd (upd (upd H1 l1 (.tup us)) l2 (.dK [])) l3 (.tup [V.str "keep", V.int 1])) l4 (.lst its)) := by
    intro v hv
    rw [← hits] at hv
    have e1 := s4 _ _ (s3 _ _ (s2 _ _ (upd_same (H := H1) (a := l1) (o := .tup us))))
    have e2 := s4 _ _ (s3 _ _ (upd_same (a := l2) (o := .dK [])))
    have e3 := s4 _ _ (upd_same (a := l3) (o := .tup [V.str "keep", V.int 1]))
    simp only [List.mem_cons, List.not_mem_nil, or_false] at hv
    rcases hv with rfl | rfl | rfl | rfl | rfl | rfl | rfl
    · exact rfl
    · exact rfl
    · exact isi_tup e1 rfl
    · exact rfl
    · exact isi_dct e2 rfl
    · exact isi_tup e3 rfl
    · exact rfl
  have s14 := ((s1.trans s2).trans s3).trans s4
  have h4 : (upd (upd (upd (upd H1 l1 (.tup us)) l2 (.dK [])) l3 (.tup [V.str "keep", V.int 1])) l4 (.lst its)) l4 = some (.lst its) := upd_same
  generalize (upd (upd (upd (upd H1 l1 (.tup us)) l2 (.dK [])) l3 (.tup [V.str "keep", V.int 1])) l4 (.lst its)) = H2 at bads s14 h4 ⊢
  obtain ⟨v, hv, hat⟩ := pick (its := its) (j := cell ns (8 : Int).toNat % 7) (Int.emod_nonneg _ (by decide)) (by rw [hit]; exact Int.emod_lt_of_pos _ (by decide))
  refine r_asg (r_ix (r_v rfl (r_bin (r_cell ha 8 s14 rfl (by decide) (r_c ⟨(by show (0 : Int) < 7; decide), .inl ⟨l4, its, _, v, rfl, rfl, SqL.of h4, hat, ?_⟩⟩)))))
  exact law_words k (bads v hv)
theorem law_bents (k : ∀ H', Q (.bl true) H') {H1 : Hp} {x : Str} {far : Int} {u1 u3 u4 u5 u7 u8 : Option V} (ha : SqL K H1 a (ns.map V.int)) (hx : good x) (hxl : x.length ≤ 1000) (hf : 0 ≤ far) :
    rdSs (ΓL K E) (b_law.drop 17) (Dn Q) [some (.ref a), u1, some (.str x), u3, u4, u5, some (.int far), u7, u8, none, none, none, none] H1 := by
  refine r_asg (r_callS spChange rfl (r_cons (r_cell ha 5 (Same.refl _) rfl (by decide) (r_cons (r_v rfl (r_cons (r_bin (r_cell ha 6 (Same.refl _) rfl (by decide) (r_c ⟨(by show (0 : Int) < 9; decide), r_nil ?_⟩)))))))))
  refine change_of hx (by omega) (Int.emod_nonneg _ (by decide)) (by have := Int.emod_lt_of_pos (cell ns (6 : Int).toNat) (show (0 : Int) < 9 by decide); omega) fun b9 H2 ps r s2 f2 ch l2 t2 gm lm => ?_
  obtain ⟨us, h9, hv, hc⟩ := ch
  refine ⟨6, rfl, by decide, by decide, for_range (lo := 0) (n := 6) (fun i σ H3 => ∃ u10 : Option V, σ = [some (.ref a), u1, some (.str x), u3, u4, u5, some (.int far), u7, u8, some (.ref b9), u10, none, none] ∧ Same H2 H3) ⟨_, rfl, Same.refl _⟩ ?_ ?_⟩
  · rintro i σ H3 hi ⟨u10, rfl, s3⟩
    have s23 := s2.trans s3
    refine r_ite (r_notT (r_callTS spBentGood rfl (r_cons (r_callS spBentP rfl (r_cons (r_v rfl (r_cons (r_callS spMixed rfl (r_cons (r_cell ha 7 s23 rfl (by decide) (r_cons (r_bin (r_c (r_v rfl (addI' (r_nil ⟨_, _, rfl, ?_⟩))))))))))))))))
    refine r_cons (r_v rfl (r_nil ⟨b9, us, ps, _, far, rfl, s3 _ _ h9, hv.mono (tupsOf s3), hc.ok, hc.ch, l2, t2, hf, fun b H4 ys s4 hb hB => ?_⟩))
    refine r_nil ⟨b, ys, rfl, hb, hB, fun H5 s5 => tru_bl (iF ⟨_, rfl, s3.trans (s4.trans s5)⟩ rfl)⟩
  · rintro σ H3 ⟨u10, rfl, s3⟩
    exact law_strange k ((s2.trans s3).seq ha) (s3 _ _ h9)
/-- the odd things, by their numbers -/
def OddAt (v : V) (j : Nat) (H : Hp) : Prop := NotTy .str v H ∧ (if j = 1 ∨ j = 7 ∨ j = 8 then ∃ i : Int, v = .int i else NotWh v H)
theorem isnotB {b : Bool} {H : Hp} {Q' : VK} (q : Q' (.bl false) H) : rCmp K .IsNot (.bl b) (.bl b) H Q' := by
  show Q' (.bl (!decide (V.bl b = V.bl b))) H
  rw [decide_eq_true rfl]; exact q
theorem cnBl {b : Bool} {H : Hp} {Q' : VK} (q : Q' (.bl false) H) : rCmp K .NotEq (.bl b) (.bl b) H Q' := by
  show Q' (.bl (true ^^ decide (V.bl b = V.bl b))) H
  rw [decide_eq_true rfl]; exact q
theorem in_whole (z : Int) (h0 : 0 ≤ z) (h1 : z < 11) : inV (.int z) [.int 1, .int 7, .int 8] = decide (z.toNat = 1 ∨ z.toNat = 7 ∨ z.toNat = 8) := by
  have all : ∀ k : Fin 11, inV (.int (k.val : Int)) [.int 1, .int 7, .int 8] = decide (k.val = 1 ∨ k.val = 7 ∨ k.val = 8) := by decide +kernel
  have := all ⟨z.toNat, by omega⟩
  rw [show ((z.toNat : Nat) : Int) = z by omega] at this
  exact this
/-- whole or not -/
theorem law_odd (k : ∀ H', Q (.bl true) H') {H1 : Hp} {x : Str} {far : Int} {v : V} {u1 u3 u4 u5 u7 : Option V} (ha : SqL K H1 a (ns.map V.int)) (hx : good x) (hxl : x.length ≤ 1000) (hf : 0 ≤ far) (hv : OddAt v (cell ns (4 : Int).toNat % 11).toNat H1) :
    rdSs (ΓL K E) (b_law.drop 11) (Dn Q) [some (.ref a), u1, some (.str x), u3, u4, u5, some (.int far), u7, some v, none, none, none, none] H1 := by
  obtain ⟨h1, h2⟩ := hv
  refine r_ite (r_cmpT (r_callS spTextX rfl (r_cons (r_v rfl (r_nil ⟨v, rfl, .inr ⟨.inr h1, r_c (isnotB ⟨_, rfl, iF ?_ rfl⟩)⟩⟩)))))
  refine r_ite (r_cmpT (r_callS spRefusal rfl (r_cons (r_c (r_cons (r_v rfl (r_nil ⟨0, v, rfl, .inl ⟨rfl, .inr ⟨.inr h1, fun H2 s2 => r_c (cnS ⟨_, rfl, iF ?_ rfl⟩)⟩⟩⟩)))))))
  refine r_ite (r_orC (r_cmpT (r_callS spWholeX rfl (r_cons (r_v rfl (r_nil ⟨_, rfl, .inl ⟨_, rfl, r_c (isnotB ⟨_, rfl, iF ?_ rfl⟩)⟩⟩))))))
  refine r_or1 (r_cmpT (r_callS spWholeX rfl (r_cons ?_)))
  refine ⟨_, rfl, ?_⟩
  refine ⟨_, rfl, .inl ⟨_, rfl, r_c (Γ := ΓL K E) (isnotB ⟨_, rfl, iF ?_ rfl⟩)⟩⟩
  have fin : ∀ w : Bool, inV (.int (cell ns (4 : Int).toNat % 11)) [.int 1, .int 7, .int 8] = w → rdSs (ΓL K E) (b_law.drop 15) (Dn Q) [some (.ref a), u1, some (.str x), u3, u4, some (.bl w), some (.int far), u7, some v, none, none, none, none] H2 := by
    intro w hw
    refine r_ite (r_orC (r_cmpT (r_callS spWholeX rfl (r_cons (r_v rfl (r_nil ⟨_, rfl, .inr ⟨.inr rfl, r_c (isnotB ⟨_, rfl, iF ?_ rfl⟩)⟩⟩))))))
    refine r_or1 (r_notT (r_isiT (r_v rfl (isi_bl (iF ?_ rfl)))))
    refine r_ite (r_cmpT (r_v rfl (r_cmp (r_bin (r_cell ha 4 s2 rfl (by decide) (r_c ⟨(by show (0 : Int) < 11; decide), r_tup (r_cons (r_c (r_cons (r_c (r_cons (r_c (r_nil ⟨(by show 3 ≤ sizeLine; decide), fun t ft => ?_⟩)))))))⟩))))))
    have s3 := sameNew (o := .tup [V.int 1, V.int 7, V.int 8]) ft
    refine ⟨t, _, rfl, .inr (SqT.of upd_same), rfl, rfl, ?_⟩
    show rCmp K .NotEq (.bl w) (.bl (inV (.int (cell ns (4 : Int).toNat % 11)) [.int 1, .int 7, .int 8])) _ _
    rw [hw]
    refine cnBl ⟨_, rfl, iF ?_ rfl⟩
    exact law_bents k ((s2.trans s3).seq ha) hx hxl hf
  have z0 : 0 ≤ cell ns (4 : Int).toNat % 11 := Int.emod_nonneg _ (by decide)
  have z1 : cell ns (4 : Int).toNat % 11 < 11 := Int.emod_lt_of_pos _ (by decide)
  have hin := in_whole _ z0 z1
  by_cases hj : (cell ns (4 : Int).toNat % 11).toNat = 1 ∨ (cell ns (4 : Int).toNat % 11).toNat = 7 ∨ (cell ns (4 : Int).toNat % 11).toNat = 8
  · rw [if_pos hj] at h2
    obtain ⟨i, rfl⟩ := h2
    rw [decide_eq_true hj] at hin
    exact r_asg (r_callS spWholeX rfl (r_cons (r_v rfl (r_nil ⟨_, rfl, .inl ⟨i, rfl, fin true hin⟩⟩))))
  · rw [if_neg hj] at h2
    rw [decide_eq_false hj] at hin
    exact r_asg (r_callS spWholeX rfl (r_cons (r_v rfl (r_nil ⟨_, rfl, .inr ⟨NotWh.same' h2 s2, fin false hin⟩⟩))))
theorem law_far (k : ∀ H', Q (.bl true) H') {H1 : Hp} {x : Str} {u1 u3 u4 u5 : Option V} (ha : SqL K H1 a (ns.map V.int)) (hx : good x) (hxl : x.length ≤ 1000) :
    rdSs (ΓL K E) (b_law.drop 8) (Dn Q) [some (.ref a), u1, some (.str x), u3, u4, u5, none, none, none, none, none, none, none] H1 := by
  refine r_asg (r_bin (r_cell ha 3 (Same.refl _) rfl (by decide) (r_bin (r_c (r_c ⟨⟨by decide, by decide, by decide⟩, ⟨(by show (0 : Int) < 10 ^ 30; decide), ?_⟩⟩)))))
  have hf : 0 ≤ cell ns (3 : Int).toNat % 10 ^ (30 : Int).toNat := Int.emod_nonneg _ (by decide)
  show rdSs (ΓL K E) (b_law.drop 9) (Dn Q) [some (.ref a), u1, some (.str x), u3, u4, u5, some (.int (cell ns (3 : Int).toNat % 10 ^ (30 : Int).toNat)), none, none, none, none, none, none] H1
  generalize cell ns (3 : Int).toNat % 10 ^ (30 : Int).toNat = far at hf ⊢
  refine r_asg (r_lst (r_cons (r_c (r_cons (r_c (r_cons (r_c (r_cons (r_c (r_cons (r_lst (r_cons (r_c (r_nil ⟨(by show 1 ≤ sizeLine; decide), fun l1 f1 => ?_⟩))))))))))))))
  refine r_cons (r_tup (r_cons (r_c (r_cons (r_c (r_nil ⟨(by show 2 ≤ sizeLine; decide), fun l2 f2 => r_cons (r_dct fun l3 f3 => r_cons (r_c (r_cons ?_)))⟩))))))
  refine ⟨_, rfl, ?_⟩
  refine r_cons (Γ := ΓL K E) (r_lst (r_nil ⟨Nat.zero_le _, fun l4 f4 => r_cons (r_tup (r_nil ⟨Nat.zero_le _, fun l5 f5 => r_nil ⟨(by show 11 ≤ sizeLine; decide), fun l6 f6 => ?_⟩⟩))⟩))
  have s1 := sameNew (o := .lst [V.str "a"]) f1
  have s2 := sameNew (o := .tup [V.str "a", V.str "b"]) f2
  have s3 := sameNew (o := .dK []) f3
  have s4 := sameNew (o := .lst []) f4
  have s5 := sameNew (o := .tup []) f5
  generalize hits : [V.non, .int 5, .bl true, .bl false, .ref l1, .ref l2, .ref l3, .int 0, .int (-far), .ref l4, .ref l5] = its at f6 ⊢
  have s6 := sameNew (o := .lst its) f6
  have hit : its.length = 11 := by rw [← hits]; rfl
  have s16 := ((((s1.trans s2).trans s3).trans s4).trans s5).trans s6
  have h6 : (upd (upd (upd (upd (upd (upd H1 l1 (.lst [V.str "a"])) l2 (.tup [V.str "a", V.str "b"])) l3 (.dK [])) l4 (.lst [])) l5 (.tup [])) l6 (.lst its)) l6 = some (.lst its) := upd_same
  have e1 := s6 _ _ (s5 _ _ (s4 _ _ (s3 _ _ (s2 _ _ (upd_same (H := H1) (a := l1) (o := .lst [V.str "a"]))))))
  have e2 := s6 _ _ (s5 _ _ (s4 _ _ (s3 _ _ (upd_same (a := l2) (o := .tup [V.str "a", V.str "b"])))))
  have e3 := s6 _ _ (s5 _ _ (s4 _ _ (upd_same (a := l3) (o := .dK []))))
  have e4 := s6 _ _ (s5 _ _ (upd_same (a := l4) (o := .lst [])))
  have e5 := s6 _ _ (upd_same (a := l5) (o := .tup []))
  generalize (upd (upd (upd (upd (upd (upd H1 l1 (.lst [V.str "a"])) l2 (.tup [V.str "a", V.str "b"])) l3 (.dK [])) l4 (.lst [])) l5 (.tup [])) l6 (.lst its)) = H2 at s16 h6 e1 e2 e3 e4 e5 ⊢
  have odd : ∀ (j : Nat) (v : V), its[j]? = some v → OddAt v j H2 := by
    intro j v hj
    rw [← hits] at hj
    match j, hj with
    | 0, h => cases h; exact ⟨rfl, by rw [if_neg (by decide)]; exact .inr rfl⟩
    | 1, h => cases h; exact ⟨rfl, by rw [if_pos (by decide)]; exact ⟨_, rfl⟩⟩
    | 2, h => cases h; exact ⟨rfl, by rw [if_neg (by decide)]; exact .inl ⟨_, rfl⟩⟩
    | 3, h => cases h; exact ⟨rfl, by rw [if_neg (by decide)]; exact .inl ⟨_, rfl⟩⟩
    | 4, h => cases h; exact ⟨isi_lst e1 rfl, by rw [if_neg (by decide)]; exact .inr (isi_lst e1 rfl)⟩
    | 5, h => cases h; exact ⟨isi_tup e2 rfl, by rw [if_neg (by decide)]; exact .inr (isi_tup e2 rfl)⟩
    | 6, h => cases h; exact ⟨isi_dct e3 rfl, by rw [if_neg (by decide)]; exact .inr (isi_dct e3 rfl)⟩
    | 7, h => cases h; exact ⟨rfl, by rw [if_pos (by decide)]; exact ⟨_, rfl⟩⟩
    | 8, h => cases h; exact ⟨rfl, by rw [if_pos (by decide)]; exact ⟨_, rfl⟩⟩
    | 9, h => cases h; exact ⟨isi_lst e4 rfl, by rw [if_neg (by decide)]; exact .inr (isi_lst e4 rfl)⟩
    | 10, h => cases h; exact ⟨isi_tup e5 rfl, by rw [if_neg (by decide)]; exact .inr (isi_tup e5 rfl)⟩
    | j + 11, h => simp at h
  have z0 : 0 ≤ cell ns (4 : Int).toNat % 11 := Int.emod_nonneg _ (by decide)
  have z1 : cell ns (4 : Int).toNat % 11 < 11 := Int.emod_lt_of_pos _ (by decide)
  have hjl : (cell ns (4 : Int).toNat % 11).toNat < its.length := by omega
  have hat : atI its (cell ns (4 : Int).toNat % 11) = some its[(cell ns (4 : Int).toNat % 11).toNat] := by
    have e := atI_nat (xs := its) (j := (cell ns (4 : Int).toNat % 11).toNat) (v := its[(cell ns (4 : Int).toNat % 11).toNat]) (by simp [hjl])
    rw [show (((cell ns (4 : Int).toNat % 11).toNat : Nat) : Int) = cell ns (4 : Int).toNat % 11 by omega] at e
    exact e
  refine r_asg (r_ix (r_v rfl (r_bin (r_cell ha 4 s16 rfl (by decide) (r_c ⟨(by show (0 : Int) < 11; decide), .inl ⟨l6, its, _, _, rfl, rfl, SqL.of h6, hat, ?_⟩⟩)))))
  exact law_odd k (s16.seq ha) hx hxl hf (odd _ _ (List.getElem?_eq_getElem hjl))
/-- a text, or one with a tab -/
theorem law_text (k : ∀ H', Q (.bl true) H') {H1 : Hp} {x y : Str} {u1 u3 : Option V} (ha : SqL K H1 a (ns.map V.int)) (hx : good x) (hxl : x.length ≤ 1000) (hy : y = x ∨ (y ≠ x ∧ BadT (.str y) H1)) :
    rdSs (ΓL K E) (b_law.drop 5) (Dn Q) [some (.ref a), u1, some (.str x), u3, some (.str y), none, none, none, none, none, none, none, none] H1 := by
  have fin : ∀ (b : Bool), (y == x) = b → ∀ (w : V), (w = if b then V.non else .str "text") → (∀ (H2 : Hp) (Q' : VK), (∀ H', Same H2 H' → Q' w H') → Same H1 H2 → spRefusal [.int 0, .str y] H2 Q' E) → rdSs (ΓL K E) (b_law.drop 6) (Dn Q) [some (.ref a), u1, some (.str x), u3, some (.str y), some (.bl b), none, none, none, none, none, none, none] H1 := by
    intro b hb w hw hr
    refine r_ite (r_orC (r_notT (r_isiT (r_v rfl (isi_bl (iF ?_ rfl))))))
    refine r_or1 (r_cmpT (r_v rfl (r_cmp (r_v rfl (r_v rfl (ce_str ?_))))))
    rw [hb]
    refine cnBl ⟨_, rfl, iF ?_ rfl⟩
    refine r_ite (r_cmpT (r_callS spRefusal rfl (r_cons (r_c (r_cons (r_v rfl (r_nil (hr H1 _ (fun H2 s2 => ?_) (Same.refl _)))))))))
    refine r_ix (r_lst (r_cons (r_c (r_cons (r_c (r_nil ⟨(by show 2 ≤ sizeLine; decide), fun l fl => r_blt (r_cons (r_cmp (r_v rfl (r_v rfl (cn_str (r_nil ?_))))))⟩))))))
    have s3 := sameNew (o := .lst [V.non, V.str "text"]) fl
    have en : (y != x) = !b := by rw [bne, hb]
    rw [en]
    have hat : atI [V.non, V.str "text"] (if (!b) = true then 1 else 0) = some w := by rw [hw]; cases b <;> rfl
    refine .inl ⟨l, _, _, _, rfl, rfl, SqL.of upd_same, hat, ?_⟩
    have go := law_far (u1 := u1) (u3 := u3) (u4 := some (.str y)) (u5 := some (.bl b)) (E := E) k ((s2.trans s3).seq ha) hx hxl
    cases b with
    | true => rw [hw]; exact ⟨_, rfl, iF go rfl⟩
    | false => rw [hw]; exact cnS ⟨_, rfl, iF go rfl⟩
  rcases hy with rfl | ⟨hne, hb⟩
  · refine r_asg (r_callS spTextX rfl (r_cons (r_v rfl (r_nil ⟨_, rfl, .inl ⟨y, rfl, hx, ?_⟩⟩))))
    exact fin true (by simp) _ rfl fun H2 Q' q _ => ⟨0, _, rfl, .inl ⟨rfl, .inl ⟨y, rfl, hx, q _ (Same.refl _)⟩⟩⟩
  · refine r_asg (r_callS spTextX rfl (r_cons (r_v rfl (r_nil ⟨_, rfl, .inr ⟨hb, ?_⟩⟩))))
    exact fin false (by simpa using hne) _ rfl fun H2 Q' q s => ⟨0, _, rfl, .inl ⟨rfl, .inr ⟨hb.same s, q⟩⟩⟩
end
theorem cutS_len (x : Str) (lo hi : Option Int) (hx : good x) : (cutS x lo hi).length ≤ x.length := (good_cut hx lo hi).2
theorem rd_law {K : PySem.W.Frag} (vs : List V) (H : Hp) (Q : VK) (E : XK) (h : spLaw K vs H Q E) : rdSs (rcx K (tLaw K) [] (E := E)) b_law (Dn Q) (start N_law vs) H := by
  obtain ⟨a, ns, rfl, ha, k⟩ := h
  refine r_asg (r_cell ha 0 (Same.refl _) rfl (by decide) ?_)
  refine r_asg (r_callS spTextL rfl (r_cons (r_cell ha 1 (Same.refl _) rfl (by decide) (r_cons (r_callS spSizeL rfl (r_cons (r_v rfl (r_nil ⟨_, rfl, fun n n0 n1 => r_nil ⟨_, _, rfl, n0, by omega, fun x H1 hx hxl s1 => ?_⟩⟩))))))))
  have hxl' : x.length ≤ 1000 := by omega
  have le : x.length ≤ sizeLine := le_line (by omega)
  refine r_asg (r_bin (r_bin (r_cell ha 2 s1 rfl (by decide) (r_c ⟨⟨by decide, by decide⟩, r_bin (r_blt (r_cons (r_v rfl (r_nil ⟨le, r_c (addI' ⟨(by show (0 : Int) < (x.length : Int) + 1; omega), ?_⟩)⟩))))⟩))))
  have g0 : 0 ≤ cell ns (2 : Int).toNat / 2 % ((x.length : Int) + 1) := Int.emod_nonneg _ (by omega)
  have g1 : cell ns (2 : Int).toNat / 2 % ((x.length : Int) + 1) < (x.length : Int) + 1 := Int.emod_lt_of_pos _ (by omega)
  show rdSs (ΓL K E) (b_law.drop 3) (Dn Q) [some (.ref a), some (.int (cell ns (0 : Int).toNat)), some (.str x), some (.int (cell ns (2 : Int).toNat / 2 % ((x.length : Int) + 1))), none, none, none, none, none, none, none, none, none] H1
  generalize cell ns (2 : Int).toNat / 2 % ((x.length : Int) + 1) = at' at g0 g1 ⊢
  refine r_asg (r_v rfl ?_)
  refine r_ite (r_cmpT (r_bin (r_cell ha 2 s1 rfl (by decide) (r_c ⟨(by show (0 : Int) < 2; decide), r_c (ceB fun b => ⟨_, rfl, ?_⟩)⟩))))
  refine ite2 (fun _ => ?_) (fun _ => ?_)
  · refine r_asg (r_bin (r_bin ?_))
    refine ⟨_, rfl, _, rfl, _, rfl, le, ?_⟩
    have c1 := cutS_len x none (some at') hx
    have c2 := cutS_len x (some at') none hx
    have tl : (Str.ofString "\t").length = 1 := rfl
    refine r_c (Γ := ΓL K E) ⟨le_line (by omega), ?_⟩
    refine ⟨_, rfl, _, rfl, _, rfl, le, ?_⟩
    refine ⟨le_line (by rw [app_len]; omega), ?_⟩
    have hbad : isText (cutS x none (some at') ++ "\t" ++ cutS x (some at') none) = false := by
      unfold isText
      rw [app_list, app_list, List.all_append, List.all_append]
      have : ((Str.ofString "\t").cps.toList.all fun c => SG.cps.contains c) = false := by decide +kernel
      rw [this, Bool.and_false, Bool.false_and]
    refine law_text k (s1.seq ha) hx hxl' (.inr ⟨fun z => ?_, .inl ⟨_, rfl, by rw [app_len, app_len]; omega, hbad⟩⟩)
    have : isText x = true := List.all_eq_true.mpr hx.2
    rw [z, this] at hbad
    cases hbad
  · exact law_text k (s1.seq ha) hx hxl' (.inl rfl)
end L2.K01
set_option maxRecDepth 100000
set_option maxHeartbeats 4000000
namespace L2.K01
open PySem PySem.Spec PyProof.Rows L2.B
theorem all_mk {l : PySem.W.OpenLaw} {w : World} {K : PySem.W.Frag} {h : Heap} {mg : Str → Option Value} {fa f0 f1 f2 f3 f4 f5 f6 f7 f8 f9 f10 f11 f12 f13 f14 f15 f16 f17 f18 f19 f20 f21 f22 f23 f24 f25 f26 : Addr} {C_InkError : Addr} {C_BadText : Addr} {C_BadChange : Addr} {C_BadFit : Addr} {C_NoPlace : Addr} {C_BadSide : Addr} {C_NoMark : Addr} {C_NoNode : Addr} {C_NoCursor : Addr} {C_BadDeed : Addr} {C_BadLetter : Addr} {C_NoLetter : Addr} {C_NoHand : Addr} {C_NoNote : Addr} (X : K.In h) (G : h.Ns mainGlobals mg) (hfa : mg "law" = some (.ref fa))
    {od0 an0 : Option Addr} {sl0 : Array (Option Value)} {oc0 kV0 dc0 pm0 cd0 ct0 : Value}
    {od1 an1 : Option Addr} {sl1 : Array (Option Value)} {oc1 kV1 dc1 pm1 cd1 ct1 : Value}
    {od2 an2 : Option Addr} {sl2 : Array (Option Value)} {oc2 kV2 dc2 pm2 cd2 ct2 : Value}
    {od3 an3 : Option Addr} {sl3 : Array (Option Value)} {oc3 kV3 dc3 pm3 cd3 ct3 : Value}
    {od4 an4 : Option Addr} {sl4 : Array (Option Value)} {oc4 kV4 dc4 pm4 cd4 ct4 : Value}
    {od5 an5 : Option Addr} {sl5 : Array (Option Value)} {oc5 kV5 dc5 pm5 cd5 ct5 : Value}
    {od6 an6 : Option Addr} {sl6 : Array (Option Value)} {oc6 kV6 dc6 pm6 cd6 ct6 : Value}
    {od7 an7 : Option Addr} {sl7 : Array (Option Value)} {oc7 kV7 dc7 pm7 cd7 ct7 : Value}
    {od8 an8 : Option Addr} {sl8 : Array (Option Value)} {oc8 kV8 dc8 pm8 cd8 ct8 : Value}
    {od9 an9 : Option Addr} {sl9 : Array (Option Value)} {oc9 kV9 dc9 pm9 cd9 ct9 : Value}
    {od10 an10 : Option Addr} {sl10 : Array (Option Value)} {oc10 kV10 dc10 pm10 cd10 ct10 : Value}
    {od11 an11 : Option Addr} {sl11 : Array (Option Value)} {oc11 kV11 dc11 pm11 cd11 ct11 : Value}
    {od12 an12 : Option Addr} {sl12 : Array (Option Value)} {oc12 kV12 dc12 pm12 cd12 ct12 : Value}
    {od13 an13 : Option Addr} {sl13 : Array (Option Value)} {oc13 kV13 dc13 pm13 cd13 ct13 : Value}
    {od14 an14 : Option Addr} {sl14 : Array (Option Value)} {oc14 kV14 dc14 pm14 cd14 ct14 : Value}
    {od15 an15 : Option Addr} {sl15 : Array (Option Value)} {oc15 kV15 dc15 pm15 cd15 ct15 : Value}
    {od16 an16 : Option Addr} {sl16 : Array (Option Value)} {oc16 kV16 dc16 pm16 cd16 ct16 : Value}
    {od17 an17 : Option Addr} {sl17 : Array (Option Value)} {oc17 kV17 dc17 pm17 cd17 ct17 : Value}
    {od18 an18 : Option Addr} {sl18 : Array (Option Value)} {oc18 kV18 dc18 pm18 cd18 ct18 : Value}
    {od19 an19 : Option Addr} {sl19 : Array (Option Value)} {oc19 kV19 dc19 pm19 cd19 ct19 : Value}
    {od20 an20 : Option Addr} {sl20 : Array (Option Value)} {oc20 kV20 dc20 pm20 cd20 ct20 : Value}
    {od21 an21 : Option Addr} {sl21 : Array (Option Value)} {oc21 kV21 dc21 pm21 cd21 ct21 : Value}
    {od22 an22 : Option Addr} {sl22 : Array (Option Value)} {oc22 kV22 dc22 pm22 cd22 ct22 : Value}
    {od23 an23 : Option Addr} {sl23 : Array (Option Value)} {oc23 kV23 dc23 pm23 cd23 ct23 : Value}
    {od24 an24 : Option Addr} {sl24 : Array (Option Value)} {oc24 kV24 dc24 pm24 cd24 ct24 : Value}
    {od25 an25 : Option Addr} {sl25 : Array (Option Value)} {oc25 kV25 dc25 pm25 cd25 ct25 : Value}
    {od26 an26 : Option Addr} {sl26 : Array (Option Value)} {oc26 kV26 dc26 pm26 cd26 ct26 : Value}
    {tk_SIGNS : Tok}
    {p_WAYS_BACK : Addr} {n_WAYS_BACK : Nat} {WAYS_BACK_t0 WAYS_BACK_t1 WAYS_BACK_t2 WAYS_BACK_t3 WAYS_BACK_t4 WAYS_BACK_t5 : Tok}
    (g_InkError : PySem.W.nsIn K mainGlobals "InkError" = some (some (.ref C_InkError)))
    (g_BadText : PySem.W.nsIn K mainGlobals "BadText" = some (some (.ref C_BadText)))
    (g_BadChange : PySem.W.nsIn K mainGlobals "BadChange" = some (some (.ref C_BadChange)))
    (g_BadFit : PySem.W.nsIn K mainGlobals "BadFit" = some (some (.ref C_BadFit)))
    (g_NoPlace : PySem.W.nsIn K mainGlobals "NoPlace" = some (some (.ref C_NoPlace)))
    (g_BadSide : PySem.W.nsIn K mainGlobals "BadSide" = some (some (.ref C_BadSide)))
    (g_NoMark : PySem.W.nsIn K mainGlobals "NoMark" = some (some (.ref C_NoMark)))
    (g_NoNode : PySem.W.nsIn K mainGlobals "NoNode" = some (some (.ref C_NoNode)))
    (g_NoCursor : PySem.W.nsIn K mainGlobals "NoCursor" = some (some (.ref C_NoCursor)))
    (g_BadDeed : PySem.W.nsIn K mainGlobals "BadDeed" = some (some (.ref C_BadDeed)))
    (g_BadLetter : PySem.W.nsIn K mainGlobals "BadLetter" = some (some (.ref C_BadLetter)))
    (g_NoLetter : PySem.W.nsIn K mainGlobals "NoLetter" = some (some (.ref C_NoLetter)))
    (g_NoHand : PySem.W.nsIn K mainGlobals "NoHand" = some (some (.ref C_NoHand)))
    (g_NoNote : PySem.W.nsIn K mainGlobals "NoNote" = some (some (.ref C_NoNote)))
    (x_BadText : PySem.W.excIn K C_BadText [.type "ValueError", .type "Exception", .type "BaseException", .type "object"] "ValueError.__new__" = true)
    (x_BadChange : PySem.W.excIn K C_BadChange [.type "ValueError", .type "Exception", .type "BaseException", .type "object"] "ValueError.__new__" = true)
    (e1_BadText : PySem.W.findIn K (.ref C_BadText) "__getattribute__" = some (some (.builtin "BaseException.__getattribute__")))
    (e2_BadText : PySem.W.findIn K (.ref C_BadText) "__getattr__" = some none)
    (e3_BadText : (PySem.W.clsIn K C_BadText).isSome = true)
    (e4_BadText : PySem.W.findIn K (.ref C_BadText) "__class__" = some (some (.builtin "object.__class__")))
    (e7_BadText : PySem.W.mroIn K C_BadText (.type "object") = some true)
    (e8_BadText : PySem.W.mroIn K C_BadText (.type "BaseException") = some true)
    (kt_BadText_BadText : PySem.W.kitOne K (.ref C_BadText) (.ref C_BadText) = some true)
    (kt_BadText_BadChange : PySem.W.kitOne K (.ref C_BadText) (.ref C_BadChange) = some false)
    (kt_BadText_BadFit : PySem.W.kitOne K (.ref C_BadText) (.ref C_BadFit) = some false)
    (kt_BadText_NoPlace : PySem.W.kitOne K (.ref C_BadText) (.ref C_NoPlace) = some false)
    (kt_BadText_BadSide : PySem.W.kitOne K (.ref C_BadText) (.ref C_BadSide) = some false)
    (kt_BadText_NoMark : PySem.W.kitOne K (.ref C_BadText) (.ref C_NoMark) = some false)
    (kt_BadText_NoNode : PySem.W.kitOne K (.ref C_BadText) (.ref C_NoNode) = some false)
    (kt_BadText_NoCursor : PySem.W.kitOne K (.ref C_BadText) (.ref C_NoCursor) = some false)
    (kt_BadText_BadDeed : PySem.W.kitOne K (.ref C_BadText) (.ref C_BadDeed) = some false)
    (kt_BadText_BadLetter : PySem.W.kitOne K (.ref C_BadText) (.ref C_BadLetter) = some false)
    (kt_BadText_NoLetter : PySem.W.kitOne K (.ref C_BadText) (.ref C_NoLetter) = some false)
    (kt_BadText_NoHand : PySem.W.kitOne K (.ref C_BadText) (.ref C_NoHand) = some false)
    (kt_BadText_NoNote : PySem.W.kitOne K (.ref C_BadText) (.ref C_NoNote) = some false)
    (ki_BadText : PySem.W.kitOne K (.ref C_BadText) (.ref C_InkError) = some true)
    (kv_BadText : PySem.W.kitOne K (.ref C_BadText) (.type "ValueError") = some true)
    (X_BadText : PySem.W.exmOne K (.ref C_BadText) (.ref C_InkError) = some true)
    (e1_BadChange : PySem.W.findIn K (.ref C_BadChange) "__getattribute__" = some (some (.builtin "BaseException.__getattribute__")))
    (e2_BadChange : PySem.W.findIn K (.ref C_BadChange) "__getattr__" = some none)
    (e3_BadChange : (PySem.W.clsIn K C_BadChange).isSome = true)
    (e4_BadChange : PySem.W.findIn K (.ref C_BadChange) "__class__" = some (some (.builtin "object.__class__")))
    (e7_BadChange : PySem.W.mroIn K C_BadChange (.type "object") = some true)
    (e8_BadChange : PySem.W.mroIn K C_BadChange (.type "BaseException") = some true)
    (kt_BadChange_BadText : PySem.W.kitOne K (.ref C_BadChange) (.ref C_BadText) = some false)
    (kt_BadChange_BadChange : PySem.W.kitOne K (.ref C_BadChange) (.ref C_BadChange) = some true)
    (kt_BadChange_BadFit : PySem.W.kitOne K (.ref C_BadChange) (.ref C_BadFit) = some false)
    (kt_BadChange_NoPlace : PySem.W.kitOne K (.ref C_BadChange) (.ref C_NoPlace) = some false)
    (kt_BadChange_BadSide : PySem.W.kitOne K (.ref C_BadChange) (.ref C_BadSide) = some false)
    (kt_BadChange_NoMark : PySem.W.kitOne K (.ref C_BadChange) (.ref C_NoMark) = some false)
    (kt_BadChange_NoNode : PySem.W.kitOne K (.ref C_BadChange) (.ref C_NoNode) = some false)
    (kt_BadChange_NoCursor : PySem.W.kitOne K (.ref C_BadChange) (.ref C_NoCursor) = some false)
    (kt_BadChange_BadDeed : PySem.W.kitOne K (.ref C_BadChange) (.ref C_BadDeed) = some false)
    (kt_BadChange_BadLetter : PySem.W.kitOne K (.ref C_BadChange) (.ref C_BadLetter) = some false)
    (kt_BadChange_NoLetter : PySem.W.kitOne K (.ref C_BadChange) (.ref C_NoLetter) = some false)
    (kt_BadChange_NoHand : PySem.W.kitOne K (.ref C_BadChange) (.ref C_NoHand) = some false)
    (kt_BadChange_NoNote : PySem.W.kitOne K (.ref C_BadChange) (.ref C_NoNote) = some false)
    (ki_BadChange : PySem.W.kitOne K (.ref C_BadChange) (.ref C_InkError) = some true)
    (kv_BadChange : PySem.W.kitOne K (.ref C_BadChange) (.type "ValueError") = some true)
    (X_BadChange : PySem.W.exmOne K (.ref C_BadChange) (.ref C_InkError) = some true)
    (e5 : PySem.W.specialIn K (.builtin "object.__class__") "__get__" = some (some (.builtin "getset_descriptor.__get__")))
    (e6 : PySem.W.takesIn K (.builtin "object.__class__") = some true)
    (a0 : PySem.W.nsIn K mainGlobals "is_whole" = some (some (.ref f0)))
    (l0 : K.lookup f0 = some ⟨oc0, od0, .func (PySem.W.fnOf "is_whole" "is_whole" (defArgs s_is_whole) (defBody s_is_whole) (defScope s_is_whole) .none kV0 dc0 pm0 an0 cd0 ct0), sl0⟩)
    (c0 : PySem.W.codeIn K cd0 "is_whole" = true)
    (k0 : PySem.W.keepIn K (.ref f0) = true)
    (a1 : PySem.W.nsIn K mainGlobals "is_word" = some (some (.ref f1)))
    (l1 : K.lookup f1 = some ⟨oc1, od1, .func (PySem.W.fnOf "is_word" "is_word" (defArgs s_is_word) (defBody s_is_word) (defScope s_is_word) .none kV1 dc1 pm1 an1 cd1 ct1), sl1⟩)
    (c1 : PySem.W.codeIn K cd1 "is_word" = true)
    (k1 : PySem.W.keepIn K (.ref f1) = true)
    (a2 : PySem.W.nsIn K mainGlobals "is_text" = some (some (.ref f2)))
    (l2 : K.lookup f2 = some ⟨oc2, od2, .func (PySem.W.fnOf "is_text" "is_text" (defArgs s_is_text) (defBody s_is_text) (defScope s_is_text) .none kV2 dc2 pm2 an2 cd2 ct2), sl2⟩)
    (c2 : PySem.W.codeIn K cd2 "is_text" = true)
    (k2 : PySem.W.keepIn K (.ref f2) = true)
    (a3 : PySem.W.nsIn K mainGlobals "need_text" = some (some (.ref f3)))
    (l3 : K.lookup f3 = some ⟨oc3, od3, .func (PySem.W.fnOf "need_text" "need_text" (defArgs s_need_text) (defBody s_need_text) (defScope s_need_text) .none kV3 dc3 pm3 an3 cd3 ct3), sl3⟩)
    (c3 : PySem.W.codeIn K cd3 "need_text" = true)
    (k3 : PySem.W.keepIn K (.ref f3) = true)
    (a4 : PySem.W.nsIn K mainGlobals "is_part" = some (some (.ref f4)))
    (l4 : K.lookup f4 = some ⟨oc4, od4, .func (PySem.W.fnOf "is_part" "is_part" (defArgs s_is_part) (defBody s_is_part) (defScope s_is_part) .none kV4 dc4 pm4 an4 cd4 ct4), sl4⟩)
    (c4 : PySem.W.codeIn K cd4 "is_part" = true)
    (k4 : PySem.W.keepIn K (.ref f4) = true)
    (a5 : PySem.W.nsIn K mainGlobals "may_follow" = some (some (.ref f5)))
    (l5 : K.lookup f5 = some ⟨oc5, od5, .func (PySem.W.fnOf "may_follow" "may_follow" (defArgs s_may_follow) (defBody s_may_follow) (defScope s_may_follow) .none kV5 dc5 pm5 an5 cd5 ct5), sl5⟩)
    (c5 : PySem.W.codeIn K cd5 "may_follow" = true)
    (k5 : PySem.W.keepIn K (.ref f5) = true)
    (a6 : PySem.W.nsIn K mainGlobals "need_change" = some (some (.ref f6)))
    (l6 : K.lookup f6 = some ⟨oc6, od6, .func (PySem.W.fnOf "need_change" "need_change" (defArgs s_need_change) (defBody s_need_change) (defScope s_need_change) .none kV6 dc6 pm6 an6 cd6 ct6), sl6⟩)
    (c6 : PySem.W.codeIn K cd6 "need_change" = true)
    (k6 : PySem.W.keepIn K (.ref f6) = true)
    (a7 : PySem.W.nsIn K mainGlobals "part_size" = some (some (.ref f7)))
    (l7 : K.lookup f7 = some ⟨oc7, od7, .func (PySem.W.fnOf "part_size" "part_size" (defArgs s_part_size) (defBody s_part_size) (defScope s_part_size) .none kV7 dc7 pm7 an7 cd7 ct7), sl7⟩)
    (c7 : PySem.W.codeIn K cd7 "part_size" = true)
    (k7 : PySem.W.keepIn K (.ref f7) = true)
    (a8 : PySem.W.nsIn K mainGlobals "sizes" = some (some (.ref f8)))
    (l8 : K.lookup f8 = some ⟨oc8, od8, .func (PySem.W.fnOf "sizes" "sizes" (defArgs s_sizes) (defBody s_sizes) (defScope s_sizes) .none kV8 dc8 pm8 an8 cd8 ct8), sl8⟩)
    (c8 : PySem.W.codeIn K cd8 "sizes" = true)
    (k8 : PySem.W.keepIn K (.ref f8) = true)
    (a9 : PySem.W.nsIn K mainGlobals "add_keep" = some (some (.ref f9)))
    (l9 : K.lookup f9 = some ⟨oc9, od9, .func (PySem.W.fnOf "add_keep" "add_keep" (defArgs s_add_keep) (defBody s_add_keep) (defScope s_add_keep) .none kV9 dc9 pm9 an9 cd9 ct9), sl9⟩)
    (c9 : PySem.W.codeIn K cd9 "add_keep" = true)
    (k9 : PySem.W.keepIn K (.ref f9) = true)
    (a10 : PySem.W.nsIn K mainGlobals "add_texts" = some (some (.ref f10)))
    (l10 : K.lookup f10 = some ⟨oc10, od10, .func (PySem.W.fnOf "add_texts" "add_texts" (defArgs s_add_texts) (defBody s_add_texts) (defScope s_add_texts) .none kV10 dc10 pm10 an10 cd10 ct10), sl10⟩)
    (c10 : PySem.W.codeIn K cd10 "add_texts" = true)
    (k10 : PySem.W.keepIn K (.ref f10) = true)
    (a11 : PySem.W.nsIn K mainGlobals "neat" = some (some (.ref f11)))
    (l11 : K.lookup f11 = some ⟨oc11, od11, .func (PySem.W.fnOf "neat" "neat" (defArgs s_neat) (defBody s_neat) (defScope s_neat) .none kV11 dc11 pm11 an11 cd11 ct11), sl11⟩)
    (c11 : PySem.W.codeIn K cd11 "neat" = true)
    (k11 : PySem.W.keepIn K (.ref f11) = true)
    (a12 : PySem.W.nsIn K mainGlobals "back" = some (some (.ref f12)))
    (l12 : K.lookup f12 = some ⟨oc12, od12, .func (PySem.W.fnOf "back" "back" (defArgs s_back) (defBody s_back) (defScope s_back) .none kV12 dc12 pm12 an12 cd12 ct12), sl12⟩)
    (c12 : PySem.W.codeIn K cd12 "back" = true)
    (k12 : PySem.W.keepIn K (.ref f12) = true)
    (a13 : PySem.W.nsIn K mainGlobals "_law_cell_at" = some (some (.ref f13)))
    (l13 : K.lookup f13 = some ⟨oc13, od13, .func (PySem.W.fnOf "_law_cell_at" "_law_cell_at" (defArgs s_cell_atL) (defBody s_cell_atL) (defScope s_cell_atL) .none kV13 dc13 pm13 an13 cd13 ct13), sl13⟩)
    (c13 : PySem.W.codeIn K cd13 "_law_cell_at" = true)
    (k13 : PySem.W.keepIn K (.ref f13) = true)
    (a14 : PySem.W.nsIn K mainGlobals "_law_mixed" = some (some (.ref f14)))
    (l14 : K.lookup f14 = some ⟨oc14, od14, .func (PySem.W.fnOf "_law_mixed" "_law_mixed" (defArgs s_mixedL) (defBody s_mixedL) (defScope s_mixedL) .none kV14 dc14 pm14 an14 cd14 ct14), sl14⟩)
    (c14 : PySem.W.codeIn K cd14 "_law_mixed" = true)
    (k14 : PySem.W.keepIn K (.ref f14) = true)
    (a15 : PySem.W.nsIn K mainGlobals "_law_text" = some (some (.ref f15)))
    (l15 : K.lookup f15 = some ⟨oc15, od15, .func (PySem.W.fnOf "_law_text" "_law_text" (defArgs s_textL) (defBody s_textL) (defScope s_textL) .none kV15 dc15 pm15 an15 cd15 ct15), sl15⟩)
    (c15 : PySem.W.codeIn K cd15 "_law_text" = true)
    (k15 : PySem.W.keepIn K (.ref f15) = true)
    (a16 : PySem.W.nsIn K mainGlobals "_law_size" = some (some (.ref f16)))
    (l16 : K.lookup f16 = some ⟨oc16, od16, .func (PySem.W.fnOf "_law_size" "_law_size" (defArgs s_sizeL) (defBody s_sizeL) (defScope s_sizeL) .none kV16 dc16 pm16 an16 cd16 ct16), sl16⟩)
    (c16 : PySem.W.codeIn K cd16 "_law_size" = true)
    (k16 : PySem.W.keepIn K (.ref f16) = true)
    (a17 : PySem.W.nsIn K mainGlobals "_law_parts" = some (some (.ref f17)))
    (l17 : K.lookup f17 = some ⟨oc17, od17, .func (PySem.W.fnOf "_law_parts" "_law_parts" (defArgs s_partsL) (defBody s_partsL) (defScope s_partsL) .none kV17 dc17 pm17 an17 cd17 ct17), sl17⟩)
    (c17 : PySem.W.codeIn K cd17 "_law_parts" = true)
    (k17 : PySem.W.keepIn K (.ref f17) = true)
    (a18 : PySem.W.nsIn K mainGlobals "_law_neat" = some (some (.ref f18)))
    (l18 : K.lookup f18 = some ⟨oc18, od18, .func (PySem.W.fnOf "_law_neat" "_law_neat" (defArgs s_neatL) (defBody s_neatL) (defScope s_neatL) .none kV18 dc18 pm18 an18 cd18 ct18), sl18⟩)
    (c18 : PySem.W.codeIn K cd18 "_law_neat" = true)
    (k18 : PySem.W.keepIn K (.ref f18) = true)
    (a19 : PySem.W.nsIn K mainGlobals "_law_change" = some (some (.ref f19)))
    (l19 : K.lookup f19 = some ⟨oc19, od19, .func (PySem.W.fnOf "_law_change" "_law_change" (defArgs s_changeL) (defBody s_changeL) (defScope s_changeL) .none kV19 dc19 pm19 an19 cd19 ct19), sl19⟩)
    (c19 : PySem.W.codeIn K cd19 "_law_change" = true)
    (k19 : PySem.W.keepIn K (.ref f19) = true)
    (a20 : PySem.W.nsIn K mainGlobals "_law_word" = some (some (.ref f20)))
    (l20 : K.lookup f20 = some ⟨oc20, od20, .func (PySem.W.fnOf "_law_word" "_law_word" (defArgs s_wordL) (defBody s_wordL) (defScope s_wordL) .none kV20 dc20 pm20 an20 cd20 ct20), sl20⟩)
    (c20 : PySem.W.codeIn K cd20 "_law_word" = true)
    (k20 : PySem.W.keepIn K (.ref f20) = true)
    (a21 : PySem.W.nsIn K mainGlobals "_law_refusal" = some (some (.ref f21)))
    (l21 : K.lookup f21 = some ⟨oc21, od21, .func (PySem.W.fnOf "_law_refusal" "_law_refusal" (defArgs s_refusalL) (defBody s_refusalL) (defScope s_refusalL) .none kV21 dc21 pm21 an21 cd21 ct21), sl21⟩)
    (c21 : PySem.W.codeIn K cd21 "_law_refusal" = true)
    (k21 : PySem.W.keepIn K (.ref f21) = true)
    (a22 : PySem.W.nsIn K mainGlobals "_law_is_change" = some (some (.ref f22)))
    (l22 : K.lookup f22 = some ⟨oc22, od22, .func (PySem.W.fnOf "_law_is_change" "_law_is_change" (defArgs s_is_changeL) (defBody s_is_changeL) (defScope s_is_changeL) .none kV22 dc22 pm22 an22 cd22 ct22), sl22⟩)
    (c22 : PySem.W.codeIn K cd22 "_law_is_change" = true)
    (k22 : PySem.W.keepIn K (.ref f22) = true)
    (a23 : PySem.W.nsIn K mainGlobals "_law_odd_part" = some (some (.ref f23)))
    (l23 : K.lookup f23 = some ⟨oc23, od23, .func (PySem.W.fnOf "_law_odd_part" "_law_odd_part" (defArgs s_odd_partL) (defBody s_odd_partL) (defScope s_odd_partL) .none kV23 dc23 pm23 an23 cd23 ct23), sl23⟩)
    (c23 : PySem.W.codeIn K cd23 "_law_odd_part" = true)
    (k23 : PySem.W.keepIn K (.ref f23) = true)
    (a24 : PySem.W.nsIn K mainGlobals "_law_bent" = some (some (.ref f24)))
    (l24 : K.lookup f24 = some ⟨oc24, od24, .func (PySem.W.fnOf "_law_bent" "_law_bent" (defArgs s_bentL) (defBody s_bentL) (defScope s_bentL) .none kV24 dc24 pm24 an24 cd24 ct24), sl24⟩)
    (c24 : PySem.W.codeIn K cd24 "_law_bent" = true)
    (k24 : PySem.W.keepIn K (.ref f24) = true)
    (a25 : PySem.W.nsIn K mainGlobals "_law_bent_good" = some (some (.ref f25)))
    (l25 : K.lookup f25 = some ⟨oc25, od25, .func (PySem.W.fnOf "_law_bent_good" "_law_bent_good" (defArgs s_bent_goodL) (defBody s_bent_goodL) (defScope s_bent_goodL) .none kV25 dc25 pm25 an25 cd25 ct25), sl25⟩)
    (c25 : PySem.W.codeIn K cd25 "_law_bent_good" = true)
    (k25 : PySem.W.keepIn K (.ref f25) = true)
    (a26 : PySem.W.nsIn K mainGlobals "law" = some (some (.ref f26)))
    (l26 : K.lookup f26 = some ⟨oc26, od26, .func (PySem.W.fnOf "law" "law" (defArgs s_law) (defBody s_law) (defScope s_law) .none kV26 dc26 pm26 an26 cd26 ct26), sl26⟩)
    (c26 : PySem.W.codeIn K cd26 "law" = true)
    (k26 : PySem.W.keepIn K (.ref f26) = true)
    (g_SIGNS : PySem.W.nsIn K mainGlobals "SIGNS" = some (some (Value.str SG tk_SIGNS)))
    (g_WAYS_BACK : PySem.W.nsIn K mainGlobals "WAYS_BACK" = some (some (.ref p_WAYS_BACK)))
    (d_WAYS_BACK : K.lookup p_WAYS_BACK = some ⟨.type "dict", none, .dict #[⟨PyData.keyHash w.params "keep", .str "keep" WAYS_BACK_t0, .str "keep" WAYS_BACK_t1⟩, ⟨PyData.keyHash w.params "cut", .str "cut" WAYS_BACK_t2, .str "put" WAYS_BACK_t3⟩, ⟨PyData.keyHash w.params "put", .str "put" WAYS_BACK_t4, .str "cut" WAYS_BACK_t5⟩] n_WAYS_BACK, #[]⟩)
    (z_ValueError : PySem.W.nsIn K mainGlobals "ValueError" = some none)
    (z_bool : PySem.W.nsIn K mainGlobals "bool" = some none)
    (z_int : PySem.W.nsIn K mainGlobals "int" = some none)
    (z_isinstance : PySem.W.nsIn K mainGlobals "isinstance" = some none)
    (z_len : PySem.W.nsIn K mainGlobals "len" = some none)
    (z_list : PySem.W.nsIn K mainGlobals "list" = some none)
    (z_min : PySem.W.nsIn K mainGlobals "min" = some none)
    (z_range : PySem.W.nsIn K mainGlobals "range" = some none)
    (z_str : PySem.W.nsIn K mainGlobals "str" = some none)
    (z_sum : PySem.W.nsIn K mainGlobals "sum" = some none)
    (z_tuple : PySem.W.nsIn K mainGlobals "tuple" = some none)
    : ∃ fd : FuncData, (∀ (s : Shared) (v : Value), BindsTo s fd ⟨[v], []⟩ [("_law_script", v)]) ∧ ∀ base : Heap, K.In base → base.Ns mainGlobals mg → FnOk l.prog w K mg base CX0 7 fa fd ["_law_script"] (fun vs H Q _ => (spLaw K) vs H Q E0) := by
  have e := hfa.symm.trans (PySem.W.mg_of X G a26)
  cases e
  have y_ValueError : mg "ValueError" = none := PySem.W.mg_none_of X G z_ValueError
  have y_bool : mg "bool" = none := PySem.W.mg_none_of X G z_bool
  have y_int : mg "int" = none := PySem.W.mg_none_of X G z_int
  have y_isinstance : mg "isinstance" = none := PySem.W.mg_none_of X G z_isinstance
  have y_len : mg "len" = none := PySem.W.mg_none_of X G z_len
  have y_list : mg "list" = none := PySem.W.mg_none_of X G z_list
  have y_min : mg "min" = none := PySem.W.mg_none_of X G z_min
  have y_range : mg "range" = none := PySem.W.mg_none_of X G z_range
  have y_str : mg "str" = none := PySem.W.mg_none_of X G z_str
  have y_sum : mg "sum" = none := PySem.W.mg_none_of X G z_sum
  have y_tuple : mg "tuple" = none := PySem.W.mg_none_of X G z_tuple
  have u_SIGNS : GvT mg ("SIGNS", .str SG) := ⟨_, PySem.W.mg_of X G g_SIGNS, ⟨_, rfl⟩⟩
  have u_InkError : GvT mg ("InkError", .ref C_InkError) := ⟨_, PySem.W.mg_of X G g_InkError, rfl⟩
  have u_BadText : GvT mg ("BadText", .ref C_BadText) := ⟨_, PySem.W.mg_of X G g_BadText, rfl⟩
  have u_BadChange : GvT mg ("BadChange", .ref C_BadChange) := ⟨_, PySem.W.mg_of X G g_BadChange, rfl⟩
  have u_BadFit : GvT mg ("BadFit", .ref C_BadFit) := ⟨_, PySem.W.mg_of X G g_BadFit, rfl⟩
  have u_NoPlace : GvT mg ("NoPlace", .ref C_NoPlace) := ⟨_, PySem.W.mg_of X G g_NoPlace, rfl⟩
  have u_BadSide : GvT mg ("BadSide", .ref C_BadSide) := ⟨_, PySem.W.mg_of X G g_BadSide, rfl⟩
  have u_NoMark : GvT mg ("NoMark", .ref C_NoMark) := ⟨_, PySem.W.mg_of X G g_NoMark, rfl⟩
  have u_NoNode : GvT mg ("NoNode", .ref C_NoNode) := ⟨_, PySem.W.mg_of X G g_NoNode, rfl⟩
  have u_NoCursor : GvT mg ("NoCursor", .ref C_NoCursor) := ⟨_, PySem.W.mg_of X G g_NoCursor, rfl⟩
  have u_BadDeed : GvT mg ("BadDeed", .ref C_BadDeed) := ⟨_, PySem.W.mg_of X G g_BadDeed, rfl⟩
  have u_BadLetter : GvT mg ("BadLetter", .ref C_BadLetter) := ⟨_, PySem.W.mg_of X G g_BadLetter, rfl⟩
  have u_NoLetter : GvT mg ("NoLetter", .ref C_NoLetter) := ⟨_, PySem.W.mg_of X G g_NoLetter, rfl⟩
  have u_NoHand : GvT mg ("NoHand", .ref C_NoHand) := ⟨_, PySem.W.mg_of X G g_NoHand, rfl⟩
  have u_NoNote : GvT mg ("NoNote", .ref C_NoNote) := ⟨_, PySem.W.mg_of X G g_NoNote, rfl⟩
  have W_BadText : Kits K [C_BadText, C_BadChange, C_BadFit, C_NoPlace, C_BadSide, C_NoMark, C_NoNode, C_NoCursor, C_BadDeed, C_BadLetter, C_NoLetter, C_NoHand, C_NoNote] C_InkError C_BadText 0 := kits_of ⟨e1_BadText, e2_BadText, e3_BadText, e4_BadText, e5, e6, e7_BadText, e8_BadText⟩ ki_BadText kv_BadText kt_BadText_BadText kt_BadText_BadChange kt_BadText_BadFit kt_BadText_NoPlace kt_BadText_BadSide kt_BadText_NoMark kt_BadText_NoNode kt_BadText_NoCursor kt_BadText_BadDeed kt_BadText_BadLetter kt_BadText_NoLetter kt_BadText_NoHand kt_BadText_NoNote
  have W_BadChange : Kits K [C_BadText, C_BadChange, C_BadFit, C_NoPlace, C_BadSide, C_NoMark, C_NoNode, C_NoCursor, C_BadDeed, C_BadLetter, C_NoLetter, C_NoHand, C_NoNote] C_InkError C_BadChange 1 := kits_of ⟨e1_BadChange, e2_BadChange, e3_BadChange, e4_BadChange, e5, e6, e7_BadChange, e8_BadChange⟩ ki_BadChange kv_BadChange kt_BadChange_BadText kt_BadChange_BadChange kt_BadChange_BadFit kt_BadChange_NoPlace kt_BadChange_BadSide kt_BadChange_NoMark kt_BadChange_NoNode kt_BadChange_NoCursor kt_BadChange_BadDeed kt_BadChange_BadLetter kt_BadChange_NoLetter kt_BadChange_NoHand kt_BadChange_NoNote
  have u_WAYS_BACK : GvT mg ("WAYS_BACK", .ref p_WAYS_BACK) := ⟨_, PySem.W.mg_of X G g_WAYS_BACK, rfl⟩
  have k_WAYS_BACK : DkT l.prog w K (p_WAYS_BACK, WB) := dk_mk d_WAYS_BACK (.cons ⟨_, rfl⟩ (.cons ⟨_, rfl⟩ (.cons ⟨_, rfl⟩ .nil))) (by decide)
  refine ⟨PySem.W.fnOf "law" "law" (defArgs s_law) (defBody s_law) (defScope s_law) .none kV26 dc26 pm26 an26 cd26 ct26, fun s v => .of_eq rfl, fun base X2 G2 => ?_⟩
  have v_BadText : ExT mg base ("BadText", C_BadText) := ext_of X2 G2 g_BadText x_BadText
  have v_BadChange : ExT mg base ("BadChange", C_BadChange) := ext_of X2 G2 g_BadChange x_BadChange
  have F0 := fun_mk (st := s_is_whole) l0 c0 k0
  have B0 := F0.binds (ps := P_is_whole) fun _ _ _ _ _ _ us hl => match us, hl with | [_], _ => rfl
  have T0 : FnT l.prog w K mg base 1 "is_whole" (spWholeX) := ⟨_, _, _, (def_fnX (k := 0) F0 sc_is_whole [] [] l_is_whole [] [] [] [] b_is_whole m_is_whole am_nil am_nil (am_cons y_isinstance (am_cons y_int (am_cons y_bool am_nil))) [] am_nil am_nil am_nil am_nil am_nil (by rintro vs H Q E ⟨_, rfl, _⟩; rfl) rd_wholeX), PySem.W.mg_of X G a0, F0.kp, B0⟩
  have F1 := fun_mk (st := s_is_word) l1 c1 k1
  have B1 := F1.binds (ps := P_is_word) fun _ _ _ _ _ _ us hl => match us, hl with | [_, _], _ => rfl
  have T1 : FnT l.prog w K mg base 1 "is_word" (spWordX K) := ⟨_, _, _, (def_fnX (k := 0) F1 sc_is_word [] [] l_is_word [] [] [] [] b_is_word m_is_word am_nil am_nil (am_cons y_isinstance (am_cons y_str am_nil)) [] am_nil am_nil am_nil am_nil am_nil (by rintro vs H Q E ⟨_, _, _, rfl, _⟩; rfl) rd_wordX), PySem.W.mg_of X G a1, F1.kp, B1⟩
  have F2 := fun_mk (st := s_is_text) l2 c2 k2
  have B2 := F2.binds (ps := P_is_text) fun _ _ _ _ _ _ us hl => match us, hl with | [_], _ => rfl
  have T2 : FnT l.prog w K mg base 1 "is_text" (spTextX) := ⟨_, _, _, (def_fnX (k := 0) F2 sc_is_text [] [("SIGNS", .str SG)] l_is_text [] [] [] [] b_is_text m_is_text am_nil (am_cons u_SIGNS am_nil) (am_cons y_isinstance (am_cons y_str am_nil)) [] am_nil am_nil am_nil am_nil am_nil (by rintro vs H Q E ⟨_, rfl, _⟩; rfl) rd_textX), PySem.W.mg_of X G a2, F2.kp, B2⟩
  have F3 := fun_mk (st := s_need_text) l3 c3 k3
  have B3 := F3.binds (ps := P_need_text) fun _ _ _ _ _ _ us hl => match us, hl with | [_], _ => rfl
  have T3 : FnT l.prog w K mg base 2 "need_text" (spNeedTX C_BadText) := ⟨_, _, _, (def_fnX (k := 1) F3 sc_need_text [("is_text", spTextX)] [] l_need_text [] [] [("BadText", C_BadText)] [] b_need_text m_need_text (am_cons (T2.mono (by omega)) am_nil) am_nil am_nil [] am_nil am_nil am_nil (am_cons v_BadText am_nil) am_nil (by rintro vs H Q E ⟨_, rfl, _⟩; rfl) rd_needTX), PySem.W.mg_of X G a3, F3.kp, B3⟩
  have F4 := fun_mk (st := s_is_part) l4 c4 k4
  have B4 := F4.binds (ps := P_is_part) fun _ _ _ _ _ _ us hl => match us, hl with | [_], _ => rfl
  have T4 : FnT l.prog w K mg base 2 "is_part" (spPartX) := ⟨_, _, _, (def_fnX (k := 1) F4 sc_is_part [("is_word", spWordX K), ("is_whole", spWholeX), ("is_text", spTextX)] [] l_is_part [] [] [] [] b_is_part m_is_part (am_cons (T1.mono (by omega)) (am_cons (T0.mono (by omega)) (am_cons (T2.mono (by omega)) am_nil))) am_nil (am_cons y_isinstance (am_cons y_tuple (am_cons y_len am_nil))) [] am_nil am_nil am_nil am_nil am_nil (by rintro vs H Q E ⟨_, rfl, _⟩; rfl) rd_partX), PySem.W.mg_of X G a4, F4.kp, B4⟩
  have F5 := fun_mk (st := s_may_follow) l5 c5 k5
  have B5 := F5.binds (ps := P_may_follow) fun _ _ _ _ _ _ us hl => match us, hl with | [_, _], _ => rfl
  have T5 : FnT l.prog w K mg base 1 "may_follow" (spFollow) := ⟨_, _, _, (def_fnX (k := 0) F5 sc_may_follow [] [] l_may_follow [] [] [] [] b_may_follow m_may_follow am_nil am_nil am_nil [] am_nil am_nil am_nil am_nil am_nil (by rintro vs H Q E ⟨_, _, rfl, _⟩; rfl) rd_follow), PySem.W.mg_of X G a5, F5.kp, B5⟩
  have F6 := fun_mk (st := s_need_change) l6 c6 k6
  have B6 := F6.binds (ps := P_need_change) fun _ _ _ _ _ _ us hl => match us, hl with | [_], _ => rfl
  have T6 : FnT l.prog w K mg base 3 "need_change" (spOr (spNeed) (spNeedB C_BadChange)) := ⟨_, _, _, (FnOk.or (def_fnX (k := 2) F6 sc_need_change [("is_part", spPart), ("may_follow", spFollow)] [] l_need_change [] [] [("BadChange", C_BadChange)] [] b_need_change m_need_change (am_cons ((T4.weak fun _ _ _ _ h => wk_part h).mono (by omega)) (am_cons (T5.mono (by omega)) am_nil)) am_nil (am_cons y_isinstance (am_cons y_list am_nil)) [] am_nil am_nil am_nil (am_cons v_BadChange am_nil) am_nil (by rintro vs H Q E ⟨_, _, _, rfl, _⟩; rfl) rd_need) (def_fnX (k := 2) F6 sc_need_change [("is_part", spPartX), ("may_follow", spFollow)] [] l_need_change [] [] [("BadChange", C_BadChange)] [] b_need_change m_need_change (am_cons (T4.mono (by omega)) (am_cons (T5.mono (by omega)) am_nil)) am_nil (am_cons y_isinstance (am_cons y_list am_nil)) [] am_nil am_nil am_nil (am_cons v_BadChange am_nil) am_nil (by rintro vs H Q E ⟨_, rfl, _⟩; rfl) rd_needB)), PySem.W.mg_of X G a6, F6.kp, B6⟩
  have F7 := fun_mk (st := s_part_size) l7 c7 k7
  have B7 := F7.binds (ps := P_part_size) fun _ _ _ _ _ _ us hl => match us, hl with | [_], _ => rfl
  have T7 : FnT l.prog w K mg base 1 "part_size" (spSize) := ⟨_, _, _, (def_fnX (k := 0) F7 sc_part_size [] [] l_part_size [] [] [] [] b_part_size m_part_size am_nil am_nil (am_cons y_len am_nil) [] am_nil am_nil am_nil am_nil am_nil (by rintro vs H Q E ⟨_, _, rfl, _⟩; rfl) rd_size), PySem.W.mg_of X G a7, F7.kp, B7⟩
  have F8 := fun_mk (st := s_sizes) l8 c8 k8
  have B8 := F8.binds (ps := P_sizes) fun _ _ _ _ _ _ us hl => match us, hl with | [_], _ => rfl
  have T8 : FnT l.prog w K mg base 4 "sizes" (spOr (spSizes) (spSizesB C_BadChange)) := ⟨_, _, _, (FnOk.or (def_fnX (k := 3) F8 sc_sizes [("need_change", spNeed), ("part_size", spSize)] [] l_sizes [] [] [] [] b_sizes m_sizes (am_cons ((T6.weak fun _ _ _ _ h => (.inl h)).mono (by omega)) (am_cons (T7.mono (by omega)) am_nil)) am_nil (am_cons y_sum am_nil) [] am_nil am_nil am_nil am_nil am_nil (by rintro vs H Q E ⟨_, _, _, rfl, _⟩; rfl) rd_sizes) (def_fnX (k := 3) F8 sc_sizes [("need_change", spNeedB C_BadChange), ("part_size", spSize)] [] l_sizes [] [] [] [] b_sizes m_sizes (am_cons ((T6.weak fun _ _ _ _ h => (.inr h)).mono (by omega)) (am_cons (T7.mono (by omega)) am_nil)) am_nil (am_cons y_sum am_nil) [] am_nil am_nil am_nil am_nil am_nil (by rintro vs H Q E ⟨_, rfl, _⟩; rfl) rd_sizesB)), PySem.W.mg_of X G a8, F8.kp, B8⟩
  have F9 := fun_mk (st := s_add_keep) l9 c9 k9
  have B9 := F9.binds (ps := P_add_keep) fun _ _ _ _ _ _ us hl => match us, hl with | [_, _], _ => rfl
  have T9 : FnT l.prog w K mg base 1 "add_keep" (spKeep) := ⟨_, _, _, (def_fnX (k := 0) F9 sc_add_keep [] [] l_add_keep [] [] [] [] b_add_keep m_add_keep am_nil am_nil (am_cons y_len am_nil) [] am_nil am_nil am_nil am_nil am_nil (by rintro vs H Q E ⟨_, _, _, _, rfl, _⟩; rfl) rd_keep), PySem.W.mg_of X G a9, F9.kp, B9⟩
  have F10 := fun_mk (st := s_add_texts) l10 c10 k10
  have B10 := F10.binds (ps := P_add_texts) fun _ _ _ _ _ _ us hl => match us, hl with | [_, _, _], _ => rfl
  have T10 : FnT l.prog w K mg base 1 "add_texts" (spTexts) := ⟨_, _, _, (def_fnX (k := 0) F10 sc_add_texts [] [] l_add_texts [] [] [] [] b_add_texts m_add_texts am_nil am_nil am_nil [] am_nil am_nil am_nil am_nil am_nil (by rintro vs H Q E ⟨_, _, _, _, _, _, _, rfl, _⟩; rfl) rd_texts), PySem.W.mg_of X G a10, F10.kp, B10⟩
  have F11 := fun_mk (st := s_neat) l11 c11 k11
  have B11 := F11.binds (ps := P_neat) fun _ _ _ _ _ _ us hl => match us, hl with | [_], _ => rfl
  have T11 : FnT l.prog w K mg base 2 "neat" (spNeat) := ⟨_, _, _, (def_fnX (k := 1) F11 sc_neat [("add_texts", spTexts), ("add_keep", spKeep)] [] l_neat [] [] [] [] b_neat m_neat (am_cons (T10.mono (by omega)) (am_cons (T9.mono (by omega)) am_nil)) am_nil am_nil [] am_nil am_nil am_nil am_nil am_nil (by rintro vs H Q E ⟨_, _, _, rfl, _⟩; rfl) rd_neat), PySem.W.mg_of X G a11, F11.kp, B11⟩
  have F12 := fun_mk (st := s_back) l12 c12 k12
  have B12 := F12.binds (ps := P_back) fun _ _ _ _ _ _ us hl => match us, hl with | [_], _ => rfl
  have T12 : FnT l.prog w K mg base 4 "back" (spOr (spBack) (spBackB C_BadChange)) := ⟨_, _, _, (FnOk.or (def_fnX (k := 3) F12 sc_back [("need_change", spNeed), ("neat", spNeat)] [("WAYS_BACK", .ref p_WAYS_BACK)] l_back [] [] [] [] b_back m_back (am_cons ((T6.weak fun _ _ _ _ h => (.inl h)).mono (by omega)) (am_cons (T11.mono (by omega)) am_nil)) (am_cons u_WAYS_BACK am_nil) am_nil [(p_WAYS_BACK, WB)] (am_cons k_WAYS_BACK am_nil) am_nil am_nil am_nil am_nil (by rintro vs H Q E ⟨_, _, _, rfl, _⟩; rfl) rd_back) (def_fnX (k := 3) F12 sc_back [("need_change", spNeedB C_BadChange), ("neat", spNeat)] [("WAYS_BACK", .ref p_WAYS_BACK)] l_back [] [] [] [] b_back m_back (am_cons ((T6.weak fun _ _ _ _ h => (.inr h)).mono (by omega)) (am_cons (T11.mono (by omega)) am_nil)) (am_cons u_WAYS_BACK am_nil) am_nil [(p_WAYS_BACK, WB)] (am_cons k_WAYS_BACK am_nil) am_nil am_nil am_nil am_nil (by rintro vs H Q E ⟨_, rfl, _⟩; rfl) rd_backB)), PySem.W.mg_of X G a12, F12.kp, B12⟩
  have F13 := fun_mk (st := s_cell_atL) l13 c13 k13
  have B13 := F13.binds (ps := P_cell_atL) fun _ _ _ _ _ _ us hl => match us, hl with | [_, _], _ => rfl
  have T13 : FnT l.prog w K mg base 1 "_law_cell_at" (spCell K) := ⟨_, _, _, (def_fnX (k := 0) F13 sc_cell_atL [] [] l_cell_atL [] [] [] [] b_cell_atL m_cell_atL am_nil am_nil (am_cons y_len am_nil) [] am_nil am_nil am_nil am_nil am_nil (by rintro vs H Q E ⟨_, _, _, rfl, _⟩; rfl) rd_cell), PySem.W.mg_of X G a13, F13.kp, B13⟩
  have F14 := fun_mk (st := s_mixedL) l14 c14 k14
  have B14 := F14.binds (ps := P_mixedL) fun _ _ _ _ _ _ us hl => match us, hl with | [_, _], _ => rfl
  have T14 : FnT l.prog w K mg base 1 "_law_mixed" (spMixed) := ⟨_, _, _, (def_fnX (k := 0) F14 sc_mixedL [] [] l_mixedL [] [] [] [] b_mixedL m_mixedL am_nil am_nil am_nil [] am_nil am_nil am_nil am_nil am_nil (by rintro vs H Q E ⟨_, _, rfl, _⟩; rfl) rd_mixed), PySem.W.mg_of X G a14, F14.kp, B14⟩
  have F15 := fun_mk (st := s_textL) l15 c15 k15
  have B15 := F15.binds (ps := P_textL) fun _ _ _ _ _ _ us hl => match us, hl with | [_, _], _ => rfl
  have T15 : FnT l.prog w K mg base 2 "_law_text" (spTextL) := ⟨_, _, _, (def_fnX (k := 1) F15 sc_textL [("_law_mixed", spMixed)] [] l_textL [] [] [] [] b_textL m_textL (am_cons (T14.mono (by omega)) am_nil) am_nil (am_cons y_range (am_cons y_len am_nil)) [] am_nil am_nil am_nil am_nil am_nil (by rintro vs H Q E ⟨_, _, rfl, _⟩; rfl) rd_textL), PySem.W.mg_of X G a15, F15.kp, B15⟩
  have F16 := fun_mk (st := s_sizeL) l16 c16 k16
  have B16 := F16.binds (ps := P_sizeL) fun _ _ _ _ _ _ us hl => match us, hl with | [_], _ => rfl
  have T16 : FnT l.prog w K mg base 1 "_law_size" (spSizeL) := ⟨_, _, _, (def_fnX (k := 0) F16 sc_sizeL [] [] l_sizeL [] [] [] [] b_sizeL m_sizeL am_nil am_nil am_nil [] am_nil am_nil am_nil am_nil am_nil (by rintro vs H Q E ⟨_, rfl, _⟩; rfl) rd_sizeL), PySem.W.mg_of X G a16, F16.kp, B16⟩
  have F17 := fun_mk (st := s_partsL) l17 c17 k17
  have B17 := F17.binds (ps := P_partsL) fun _ _ _ _ _ _ us hl => match us, hl with | [_, _, _], _ => rfl
  have T17 : FnT l.prog w K mg base 3 "_law_parts" (spParts) := ⟨_, _, _, (def_fnX (k := 2) F17 sc_partsL [("_law_mixed", spMixed), ("_law_text", spTextL)] [] l_partsL [] [] [] [] b_partsL m_partsL (am_cons (T14.mono (by omega)) (am_cons (T15.mono (by omega)) am_nil)) am_nil (am_cons y_range (am_cons y_min (am_cons y_len am_nil))) [] am_nil am_nil am_nil am_nil am_nil (by rintro vs H Q E ⟨_, _, _, rfl, _⟩; rfl) rd_parts), PySem.W.mg_of X G a17, F17.kp, B17⟩
  have F18 := fun_mk (st := s_neatL) l18 c18 k18
  have B18 := F18.binds (ps := P_neatL) fun _ _ _ _ _ _ us hl => match us, hl with | [_], _ => rfl
  have T18 : FnT l.prog w K mg base 1 "_law_neat" (spNeatR) := ⟨_, _, _, (def_fnX (k := 0) F18 sc_neatL [] [] l_neatL [] [] [] [] b_neatL m_neatL am_nil am_nil (am_cons y_int am_nil) [] am_nil am_nil am_nil am_nil am_nil (by rintro vs H Q E ⟨_, _, _, rfl, _⟩; rfl) rd_neatR), PySem.W.mg_of X G a18, F18.kp, B18⟩
  have F19 := fun_mk (st := s_changeL) l19 c19 k19
  have B19 := F19.binds (ps := P_changeL) fun _ _ _ _ _ _ us hl => match us, hl with | [_, _, _], _ => rfl
  have T19 : FnT l.prog w K mg base 4 "_law_change" (spChange) := ⟨_, _, _, (def_fnX (k := 3) F19 sc_changeL [("_law_neat", spNeatR), ("_law_parts", spParts)] [] l_changeL [] [] [] [] b_changeL m_changeL (am_cons (T18.mono (by omega)) (am_cons (T17.mono (by omega)) am_nil)) am_nil am_nil [] am_nil am_nil am_nil am_nil am_nil (by rintro vs H Q E ⟨_, _, _, rfl, _⟩; rfl) rd_change), PySem.W.mg_of X G a19, F19.kp, B19⟩
  have F20 := fun_mk (st := s_wordL) l20 c20 k20
  have B20 := F20.binds (ps := P_wordL) fun _ _ _ _ _ _ us hl => match us, hl with | [_], _ => rfl
  have T20 : FnTH l.prog w K mg base 1 "_law_word" (spWordL K [C_BadText, C_BadChange, C_BadFit, C_NoPlace, C_BadSide, C_NoMark, C_NoNode, C_NoCursor, C_BadDeed, C_BadLetter, C_NoLetter, C_NoHand, C_NoNote] C_InkError) := def_okH (k := 0) F20 sc_wordL (PySem.W.mg_of X G a20) B20 [("BadText", .ref C_BadText), ("BadChange", .ref C_BadChange), ("BadFit", .ref C_BadFit), ("NoPlace", .ref C_NoPlace), ("BadSide", .ref C_BadSide), ("NoMark", .ref C_NoMark), ("NoNode", .ref C_NoNode), ("NoCursor", .ref C_NoCursor), ("BadDeed", .ref C_BadDeed), ("BadLetter", .ref C_BadLetter), ("NoLetter", .ref C_NoLetter), ("NoHand", .ref C_NoHand), ("NoNote", .ref C_NoNote), ("InkError", .ref C_InkError)] l_wordL b_wordL m_wordL (am_cons u_BadText (am_cons u_BadChange (am_cons u_BadFit (am_cons u_NoPlace (am_cons u_BadSide (am_cons u_NoMark (am_cons u_NoNode (am_cons u_NoCursor (am_cons u_BadDeed (am_cons u_BadLetter (am_cons u_NoLetter (am_cons u_NoHand (am_cons u_NoNote (am_cons u_InkError am_nil)))))))))))))) (am_cons y_isinstance (am_cons y_ValueError am_nil)) (by rintro vs H Q E ⟨_, _, _, rfl, _⟩; rfl) rd_wordL
  have F21 := fun_mk (st := s_refusalL) l21 c21 k21
  have B21 := F21.binds (ps := P_refusalL) fun _ _ _ _ _ _ us hl => match us, hl with | [_, _], _ => rfl
  have T21 : FnT l.prog w K mg base 5 "_law_refusal" (spRefusal) := ⟨_, _, _, (def_fnX (k := 4) F21 sc_refusalL [("need_text", spNeedTX C_BadText), ("need_change", spOr (spNeed) (spNeedB C_BadChange)), ("sizes", spOr (spSizes) (spSizesB C_BadChange)), ("back", spOr (spBack) (spBackB C_BadChange))] [("InkError", .ref C_InkError)] l_refusalL [] [] [] [("_law_word", spWordL K [C_BadText, C_BadChange, C_BadFit, C_NoPlace, C_BadSide, C_NoMark, C_NoNode, C_NoCursor, C_BadDeed, C_BadLetter, C_NoLetter, C_NoHand, C_NoNote] C_InkError)] b_refusalL m_refusalL (am_cons (T3.mono (by omega)) (am_cons (T6.mono (by omega)) (am_cons (T8.mono (by omega)) (am_cons (T12.mono (by omega)) am_nil)))) (am_cons u_InkError am_nil) am_nil [] am_nil am_nil am_nil am_nil (am_cons (T20.mono (by omega)) am_nil) (by rintro vs H Q E ⟨_, _, rfl, _⟩; rfl) (rd_refusal W_BadText W_BadChange X_BadText X_BadChange)), PySem.W.mg_of X G a21, F21.kp, B21⟩
  have F22 := fun_mk (st := s_is_changeL) l22 c22 k22
  have B22 := F22.binds (ps := P_is_changeL) fun _ _ _ _ _ _ us hl => match us, hl with | [_], _ => rfl
  have T22 : FnT l.prog w K mg base 1 "_law_is_change" (spIsCh) := ⟨_, _, _, (def_fnX (k := 0) F22 sc_is_changeL [] [] l_is_changeL [] [] [] [] b_is_changeL m_is_changeL am_nil am_nil (am_cons y_isinstance (am_cons y_list (am_cons y_tuple (am_cons y_len (am_cons y_int (am_cons y_bool (am_cons y_str am_nil))))))) [] am_nil am_nil am_nil am_nil am_nil (by rintro vs H Q E ⟨_, _, rfl, _⟩; rfl) rd_isCh), PySem.W.mg_of X G a22, F22.kp, B22⟩
  have F23 := fun_mk (st := s_odd_partL) l23 c23 k23
  have B23 := F23.binds (ps := P_odd_partL) fun _ _ _ _ _ _ us hl => match us, hl with | [_, _], _ => rfl
  have T23 : FnT l.prog w K mg base 1 "_law_odd_part" (spOddPart) := ⟨_, _, _, (def_fnX (k := 0) F23 sc_odd_partL [] [] l_odd_partL [] [] [] [] b_odd_partL m_odd_partL am_nil am_nil am_nil [] am_nil am_nil am_nil am_nil am_nil (by rintro vs H Q E ⟨_, _, rfl, _⟩; rfl) rd_oddPart), PySem.W.mg_of X G a23, F23.kp, B23⟩
  have F24 := fun_mk (st := s_bentL) l24 c24 k24
  have B24 := F24.binds (ps := P_bentL) fun _ _ _ _ _ _ us hl => match us, hl with | [_, _, _], _ => rfl
  have T24 : FnT l.prog w K mg base 2 "_law_bent" (spBentP) := ⟨_, _, _, (def_fnX (k := 1) F24 sc_bentL [("_law_odd_part", spOddPart)] [] l_bentL [] [] [] [] b_bentL m_bentL (am_cons (T23.mono (by omega)) am_nil) am_nil (am_cons y_len am_nil) [] am_nil am_nil am_nil am_nil am_nil (by rintro vs H Q E ⟨_, _, _, _, _, rfl, _⟩; rfl) rd_bentP), PySem.W.mg_of X G a24, F24.kp, B24⟩
  have F25 := fun_mk (st := s_bent_goodL) l25 c25 k25
  have B25 := F25.binds (ps := P_bent_goodL) fun _ _ _ _ _ _ us hl => match us, hl with | [_], _ => rfl
  have T25 : FnT l.prog w K mg base 6 "_law_bent_good" (spBentGood) := ⟨_, _, _, (def_fnX (k := 5) F25 sc_bent_goodL [("_law_is_change", spIsCh), ("_law_refusal", spRefusal)] [] l_bent_goodL [] [] [] [] b_bent_goodL m_bent_goodL (am_cons (T22.mono (by omega)) (am_cons (T21.mono (by omega)) am_nil)) am_nil (am_cons y_list am_nil) [] am_nil am_nil am_nil am_nil am_nil (by rintro vs H Q E ⟨_, _, rfl, _⟩; rfl) rd_bentGood), PySem.W.mg_of X G a25, F25.kp, B25⟩
  have F26 := fun_mk (st := s_law) l26 c26 k26
  have B26 := F26.binds (ps := P_law) fun _ _ _ _ _ _ us hl => match us, hl with | [_], _ => rfl
  exact FnOk.top (def_fnX (k := 6) F26 sc_law [("_law_cell_at", spCell K), ("_law_text", spTextL), ("_law_size", spSizeL), ("is_text", spTextX), ("_law_refusal", spRefusal), ("is_whole", spWholeX), ("_law_change", spChange), ("_law_bent_good", spBentGood), ("_law_bent", spBentP), ("_law_mixed", spMixed)] [] l_law [] [] [] [] b_law m_law (am_cons (T13.mono (by omega)) (am_cons (T15.mono (by omega)) (am_cons (T16.mono (by omega)) (am_cons (T2.mono (by omega)) (am_cons (T21.mono (by omega)) (am_cons (T0.mono (by omega)) (am_cons (T19.mono (by omega)) (am_cons (T25.mono (by omega)) (am_cons (T24.mono (by omega)) (am_cons (T14.mono (by omega)) am_nil)))))))))) am_nil (am_cons y_len (am_cons y_isinstance (am_cons y_bool (am_cons y_int (am_cons y_range (am_cons y_tuple am_nil)))))) [] am_nil am_nil am_nil am_nil am_nil (by rintro vs H Q E ⟨_, _, rfl, _⟩; rfl) rd_law)
theorem walk {l : PySem.W.OpenLaw} {q : Program} {loose : List Str} {XP : (Str → Option Value) → Heap → Prop} {YP : World → Heap → Prop} {d : DefRec} {K : Params → PySem.W.Frag} (hn : l.most = some 63) (hdf : d.params.defaults = [])
    (hY : ∀ (w : World) (h : Heap), YP w h → (K w.params).In h)
    (F : ∀ (w : World) (mg : Str → Option Value) (fa : Addr) (h : Heap), (K w.params).In h → h.Ns mainGlobals mg → mg d.name = some (.ref fa) →
      ∃ fd : FuncData, (∀ (s : Shared) (u : Value), BindsTo s fd ⟨[u], []⟩ [("_law_script", u)]) ∧ ∀ base : Heap, (K w.params).In base → base.Ns mainGlobals mg → FnOk l.prog w (K w.params) mg base CX0 7 fa fd ["_law_script"] ((fun K => (fun vs H Q _ => (spLaw K) vs H Q E0)) (K w.params))) :
    PySem.W.WalkO q loose XP YP l.row.toRowW d [] (fun f vs => PySem.call f vs) :=
  L2.walk_of (n := 63) (k := 7) (x := "_law_script") (CX := fun _ => CX0) (sp := fun w => (fun K => (fun vs H Q _ => (spLaw K) vs H Q E0)) (K w.params)) hn (by decide) hdf ⟨rfl, by decide, by decide⟩ hY F (fun _ _ a ns hl _ hS => ⟨a, ns, rfl, hS, fun _ => rfl⟩) fun _ _ _ _ _ z => z
end L2.K01
-- names that the head would fill with long twins of its tables; taken, the head goes on without them
def PySem.W.Fast.tw7545654689306909178 : Unit := ()
def PySem.W.Fast.tw12743077452593728197 : Unit := ()
def PySem.W.Fast.tw17390113477797000527 : Unit := ()
def PySem.W.Fast.tw14552762920174829906 : Unit := ()
def PySem.W.Fast.tw8666192942119666698 : Unit := ()
def PySem.W.Fast.tw9710515075860858530 : Unit := ()
def PySem.W.Fast.tw38638438417221526 : Unit := ()
def PySem.W.Fast.tw9158384557814185803 : Unit := ()
def PySem.W.Fast.tw7198326699242494064 : Unit := ()
def PySem.W.Fast.tw10331002978197665037 : Unit := ()
def PySem.W.Fast.tw2296196551096654911 : Unit := ()
def PySem.W.Fast.tw15224533217106511829 : Unit := ()
def PySem.W.Fast.tw13142777384428162476 : Unit := ()
def PySem.W.Fast.tw16243649765506232229 : Unit := ()
def PySem.W.Fast.tw665365362219796441 : Unit := ()
def PySem.W.Fast.tw16986763542556494673 : Unit := ()
def PySem.W.Fast.tw5000257878141631369 : Unit := ()
def PySem.W.Fast.tw9446990574591939249 : Unit := ()
def PySem.W.Fast.tw13356336463218338863 : Unit := ()
def PySem.W.Fast.tw1017768992376068886 : Unit := ()
def PySem.W.Fast.tw8222181587083044333 : Unit := ()
def PySem.W.Fast.tw7452146158108694031 : Unit := ()
def PySem.W.Fast.tw4410789283600445211 : Unit := ()
def PySem.W.Fast.tw4313458618839153422 : Unit := ()
open PySem PySem.W PyProof.Rows
set_option maxRecDepth 100000 in
set_option maxHeartbeats 0 in
theorem PySem.Challenge.cw_inkloom_k01_texts_and_changes_told_holds : PySem.Challenge.rw_inkloom_k01_texts_and_changes_told.Holds := by
  w_on; o_law; k_head; (case hw => w_witness2)
  k_fill
  refine L2.K01.walk (l := PySem.Challenge.rw_inkloom_k01_texts_and_changes_told) rfl rfl (fun w h Y => PySem.W.kIn_of Y) ?F
  case F =>
    intro w mg fa h KX G hmg
    refine' L2.K01.all_mk KX G hmg ?g_InkError ?g_BadText ?g_BadChange ?g_BadFit ?g_NoPlace ?g_BadSide ?g_NoMark ?g_NoNode ?g_NoCursor ?g_BadDeed ?g_BadLetter ?g_NoLetter ?g_NoHand ?g_NoNote ?x_BadText ?x_BadChange ?e1_BadText ?e2_BadText ?e3_BadText ?e4_BadText ?e7_BadText ?e8_BadText ?kt_BadText_BadText ?kt_BadText_BadChange ?kt_BadText_BadFit ?kt_BadText_NoPlace ?kt_BadText_BadSide ?kt_BadText_NoMark ?kt_BadText_NoNode ?kt_BadText_NoCursor ?kt_BadText_BadDeed ?kt_BadText_BadLetter ?kt_BadText_NoLetter ?kt_BadText_NoHand ?kt_BadText_NoNote ?ki_BadText ?kv_BadText ?X_BadText ?e1_BadChange ?e2_BadChange ?e3_BadChange ?e4_BadChange ?e7_BadChange ?e8_BadChange ?kt_BadChange_BadText ?kt_BadChange_BadChange ?kt_BadChange_BadFit ?kt_BadChange_NoPlace ?kt_BadChange_BadSide ?kt_BadChange_NoMark ?kt_BadChange_NoNode ?kt_BadChange_NoCursor ?kt_BadChange_BadDeed ?kt_BadChange_BadLetter ?kt_BadChange_NoLetter ?kt_BadChange_NoHand ?kt_BadChange_NoNote ?ki_BadChange ?kv_BadChange ?X_BadChange ?e5 ?e6 ?a0 ?l0 ?c0 ?k0 ?a1 ?l1 ?c1 ?k1 ?a2 ?l2 ?c2 ?k2 ?a3 ?l3 ?c3 ?k3 ?a4 ?l4 ?c4 ?k4 ?a5 ?l5 ?c5 ?k5 ?a6 ?l6 ?c6 ?k6 ?a7 ?l7 ?c7 ?k7 ?a8 ?l8 ?c8 ?k8 ?a9 ?l9 ?c9 ?k9 ?a10 ?l10 ?c10 ?k10 ?a11 ?l11 ?c11 ?k11 ?a12 ?l12 ?c12 ?k12 ?a13 ?l13 ?c13 ?k13 ?a14 ?l14 ?c14 ?k14 ?a15 ?l15 ?c15 ?k15 ?a16 ?l16 ?c16 ?k16 ?a17 ?l17 ?c17 ?k17 ?a18 ?l18 ?c18 ?k18 ?a19 ?l19 ?c19 ?k19 ?a20 ?l20 ?c20 ?k20 ?a21 ?l21 ?c21 ?k21 ?a22 ?l22 ?c22 ?k22 ?a23 ?l23 ?c23 ?k23 ?a24 ?l24 ?c24 ?k24 ?a25 ?l25 ?c25 ?k25 ?a26 ?l26 ?c26 ?k26 ?g_SIGNS ?g_WAYS_BACK ?d_WAYS_BACK ?z_ValueError ?z_bool ?z_int ?z_isinstance ?z_len ?z_list ?z_min ?z_range ?z_str ?z_sum ?z_tuple
    (case g_InkError => k_is)
    (case g_BadText => k_is)
    (case g_BadChange => k_is)
    (case g_BadFit => k_is)
    (case g_NoPlace => k_is)
    (case g_BadSide => k_is)
    (case g_NoMark => k_is)
    (case g_NoNode => k_is)
    (case g_NoCursor => k_is)
    (case g_BadDeed => k_is)
    (case g_BadLetter => k_is)
    (case g_NoLetter => k_is)
    (case g_NoHand => k_is)
    (case g_NoNote => k_is)
    (case x_BadText => k_exc)
    (case x_BadChange => k_exc)
    (case e1_BadText => k_is)
    (case e2_BadText => k_is)
    (case e3_BadText => kernel_rfl)
    (case e4_BadText => k_is)
    (case e7_BadText => k_is)
    (case e8_BadText => k_is)
    (case kt_BadText_BadText => kernel_rfl)
    (case kt_BadText_BadChange => kernel_rfl)
    (case kt_BadText_BadFit => kernel_rfl)
    (case kt_BadText_NoPlace => kernel_rfl)
    (case kt_BadText_BadSide => kernel_rfl)
    (case kt_BadText_NoMark => kernel_rfl)
    (case kt_BadText_NoNode => kernel_rfl)
    (case kt_BadText_NoCursor => kernel_rfl)
    (case kt_BadText_BadDeed => kernel_rfl)
    (case kt_BadText_BadLetter => kernel_rfl)
    (case kt_BadText_NoLetter => kernel_rfl)
    (case kt_BadText_NoHand => kernel_rfl)
    (case kt_BadText_NoNote => kernel_rfl)
    (case ki_BadText => kernel_rfl)
    (case kv_BadText => kernel_rfl)
    (case X_BadText => kernel_rfl)
    (case e1_BadChange => k_is)
    (case e2_BadChange => k_is)
    (case e3_BadChange => kernel_rfl)
    (case e4_BadChange => k_is)
    (case e7_BadChange => k_is)
    (case e8_BadChange => k_is)
    (case kt_BadChange_BadText => kernel_rfl)
    (case kt_BadChange_BadChange => kernel_rfl)
    (case kt_BadChange_BadFit => kernel_rfl)
    (case kt_BadChange_NoPlace => kernel_rfl)
    (case kt_BadChange_BadSide => kernel_rfl)
    (case kt_BadChange_NoMark => kernel_rfl)
    (case kt_BadChange_NoNode => kernel_rfl)
    (case kt_BadChange_NoCursor => kernel_rfl)
    (case kt_BadChange_BadDeed => kernel_rfl)
    (case kt_BadChange_BadLetter => kernel_rfl)
    (case kt_BadChange_NoLetter => kernel_rfl)
    (case kt_BadChange_NoHand => kernel_rfl)
    (case kt_BadChange_NoNote => kernel_rfl)
    (case ki_BadChange => kernel_rfl)
    (case kv_BadChange => kernel_rfl)
    (case X_BadChange => kernel_rfl)
    (case e5 => k_is)
    (case e6 => k_is)
    (case a0 => k_is)
    (case l0 => k_is)
    (case c0 => k_is)
    (case k0 => k_is)
    (case a1 => k_is)
    (case l1 => k_is)
    (case c1 => k_is)
    (case k1 => k_is)
    (case a2 => k_is)
    (case l2 => k_is)
    (case c2 => k_is)
    (case k2 => k_is)
    (case a3 => k_is)
    (case l3 => k_is)
    (case c3 => k_is)
    (case k3 => k_is)
    (case a4 => k_is)
    (case l4 => k_is)
    (case c4 => k_is)
    (case k4 => k_is)
    (case a5 => k_is)
    (case l5 => k_is)
    (case c5 => k_is)
    (case k5 => k_is)
    (case a6 => k_is)
    (case l6 => k_is)
    (case c6 => k_is)
    (case k6 => k_is)
    (case a7 => k_is)
    (case l7 => k_is)
    (case c7 => k_is)
    (case k7 => k_is)
    (case a8 => k_is)
    (case l8 => k_is)
    (case c8 => k_is)
    (case k8 => k_is)
    (case a9 => k_is)
    (case l9 => k_is)
    (case c9 => k_is)
    (case k9 => k_is)
    (case a10 => k_is)
    (case l10 => k_is)
    (case c10 => k_is)
    (case k10 => k_is)
    (case a11 => k_is)
    (case l11 => k_is)
    (case c11 => k_is)
    (case k11 => k_is)
    (case a12 => k_is)
    (case l12 => k_is)
    (case c12 => k_is)
    (case k12 => k_is)
    (case a13 => k_is)
    (case l13 => k_is)
    (case c13 => k_is)
    (case k13 => k_is)
    (case a14 => k_is)
    (case l14 => k_is)
    (case c14 => k_is)
    (case k14 => k_is)
    (case a15 => k_is)
    (case l15 => k_is)
    (case c15 => k_is)
    (case k15 => k_is)
    (case a16 => k_is)
    (case l16 => k_is)
    (case c16 => k_is)
    (case k16 => k_is)
    (case a17 => k_is)
    (case l17 => k_is)
    (case c17 => k_is)
    (case k17 => k_is)
    (case a18 => k_is)
    (case l18 => k_is)
    (case c18 => k_is)
    (case k18 => k_is)
    (case a19 => k_is)
    (case l19 => k_is)
    (case c19 => k_is)
    (case k19 => k_is)
    (case a20 => k_is)
    (case l20 => k_is)
    (case c20 => k_is)
    (case k20 => k_is)
    (case a21 => k_is)
    (case l21 => k_is)
    (case c21 => k_is)
    (case k21 => k_is)
    (case a22 => k_is)
    (case l22 => k_is)
    (case c22 => k_is)
    (case k22 => k_is)
    (case a23 => k_is)
    (case l23 => k_is)
    (case c23 => k_is)
    (case k23 => k_is)
    (case a24 => k_is)
    (case l24 => k_is)
    (case c24 => k_is)
    (case k24 => k_is)
    (case a25 => k_is)
    (case l25 => k_is)
    (case c25 => k_is)
    (case k25 => k_is)
    (case a26 => k_is)
    (case l26 => k_is)
    (case c26 => k_is)
    (case k26 => k_is)
    (case g_SIGNS => k_is)
    (case g_WAYS_BACK => k_is)
    (case d_WAYS_BACK => k_is)
    (case z_ValueError => k_is)
    (case z_bool => k_is)
    (case z_int => k_is)
    (case z_isinstance => k_is)
    (case z_len => k_is)
    (case z_list => k_is)
    (case z_min => k_is)
    (case z_range => k_is)
    (case z_str => k_is)
    (case z_sum => k_is)
    (case z_tuple => k_is)
